
/- For any model, of which Right takes what a statement can hold, and any slice of ints, of which 12 values are taken: of a right model each constraint that tells of a sum holds of the values with 1 for its variable just if it does not with 0, and just if the sum is so; the fixed calls answer as the document says. No condition. -/
import Derived.Test.YtlegpccpmijhkaaGreatVC
import Derived.Deep.LoopGhost
import Derived.ShutString
import Derived.ChangeOld
namespace Go.Proofs.YtlegpccpmijhkaaGreat.meaningTruths
open Go.ChangeShapes Go.WideShapes Go.ChangeAt Go.RowKit Go.Shelf Go.Proofs.YtlegpccpmijhkaaGreat
set_option linter.unusedVariables false
set_option maxRecDepth 100000

theorem at_set {l : List Int} {b v : Nat} {z : Int} (h : v ≠ b) : atV (l.set b z) (v : Int) = atV l (v : Int) := by
  unfold atV
  rw [List.length_set]
  split
  · rfl
  · rw [Int.toNat_natCast, List.getD_eq_getElem?_getD, List.getElem?_set_ne (by omega), ← List.getD_eq_getElem?_getD]
theorem at_neg {l : List Int} {v : Int} (h : v < 0) : atV l v = 0 := by unfold atV; rw [if_pos (.inl h)]
theorem pick_set {vars l : List Int} {b : Nat} (h : (b : Int) ∉ vars) (z : Int) : pickV vars (l.set b z) = pickV vars l := by
  unfold pickV
  refine List.map_congr_left fun v hv => ?_
  by_cases h0 : v < 0
  · rw [at_neg h0, at_neg h0]
  · obtain ⟨k, rfl⟩ : ∃ k : Nat, v = k := ⟨v.toNat, by omega⟩
    exact at_set (fun e => h (by rw [← e]; exact hv))
theorem at_this {l : List Int} {b : Nat} (h : b < l.length) (z : Int) : atV (l.set b z) (b : Int) = z := by
  unfold atV
  rw [List.length_set, if_neg (by omega), Int.toNat_natCast, List.getD_eq_getElem?_getD, List.getElem?_set_self h]
  rfl
theorem so_set {c : ConV} {l : List Int} {b : Nat} (h : (b : Int) ∉ c.vars) (z : Int) : soV c (l.set b z) = soV c l := by
  unfold soV sumAt
  rw [pick_set h]
/-- what the law asks of a constraint that tells of a sum -/
theorem truths {d : List (List (Int × Int))} {c : ConV} (h : conE d c = 0) (hk : c.kind = 4) : ∃ b : Nat, c.b = b ∧ b < d.length ∧ ∀ l : List Int, b < l.length →
    holdsV c (l.set b 1) = soV c l ∧ holdsV c ((l.set b 1).set b 0) = !soV c l ∧ holdsV ⟨0, c.vars, c.coefs, c.op, c.rhs, [], 0⟩ ((l.set b 1).set b 0) = soV c l := by
  have hr : (usesV c).any (outV d.length) = false ∧ rightV d c = true := by
    unfold conE at h
    split at h
    · cases h
    · split at h
      · cases h
      · rename_i h1
        split at h
        · cases h
        · rename_i h2
          exact ⟨by simpa using h1, by simpa using h2⟩
  have hm : c.b ∈ usesV c := (sortedL_spec _).2 c.b |>.2 (by unfold useL; rw [if_pos hk]; simp)
  have ho := List.any_eq_false.1 hr.1 c.b hm
  unfold outV at ho
  simp at ho
  have hnv : c.b ∉ c.vars := by
    have := hr.2
    unfold rightV at this
    rw [if_neg (by omega), if_neg (by omega), if_neg (by omega), if_neg (by omega), if_pos hk] at this
    simp only [Bool.and_eq_true, Bool.not_eq_true'] at this
    exact hasL_no.1 this.2
  obtain ⟨b, hb⟩ : ∃ b : Nat, c.b = b := ⟨c.b.toNat, by omega⟩
  refine ⟨b, hb, by omega, fun l hl => ?_⟩
  have hn : (b : Int) ∉ c.vars := by rw [← hb]; exact hnv
  have hh : ∀ a, holdsV c a = decide (atV a c.b = num (soV c a)) := fun a => by
    unfold holdsV
    rw [if_neg (by omega), if_neg (by omega), if_neg (by omega), if_neg (by omega), if_pos hk]
  refine ⟨?_, ?_, ?_⟩
  · rw [hh, hb, at_this hl, so_set hn]
    cases soV c l <;> rfl
  · rw [hh, hb, at_this (by rw [List.length_set]; exact hl), so_set hn, so_set hn]
    cases soV c l <;> rfl
  · show holdsV ⟨0, c.vars, c.coefs, c.op, c.rhs, [], 0⟩ _ = _
    unfold holdsV
    rw [if_pos rfl]
    show soV ⟨0, c.vars, c.coefs, c.op, c.rhs, [], 0⟩ _ = _
    have : ∀ a, soV ⟨0, c.vars, c.coefs, c.op, c.rhs, [], 0⟩ a = soV c a := fun a => rfl
    rw [this, so_set hn, so_set hn]
theorem check_cons {m : ModV} (h : checkE m = 0) : ∀ c ∈ m.cons, conE (domsV m) c = 0 := by
  unfold checkE at h
  split at h
  · cases h
  · split at h
    · rename_i h2; exact absurd h h2
    · split at h
      · rename_i h3; exact absurd h h3
      · rename_i h3
        have h3 : consE (domsV m) m.cons = 0 := by simpa using h3
        have : ∀ cs : List ConV, consE (domsV m) cs = 0 → ∀ c ∈ cs, conE (domsV m) c = 0 := by
          intro cs
          induction cs with
          | nil => intro _ c hc; cases hc
          | cons x cs ih =>
            intro h c hc
            unfold consE at h
            split at h
            · rename_i h0
              rcases List.mem_cons.1 hc with rfl | hc
              · exact h0
              · exact ih h c hc
            · rename_i h0; exact absurd h h0
        exact this m.cons h3
set_option maxHeartbeats 8000000 in
theorem walk (m0 : Mm) (A1 : Option Addr) (len1 cap1 : Nat) (l1 : List Int) (w : World) (h0 : MmOk NN w m0) (p1 : In w A1 len1 cap1 l1.length (cI l1)) : Calls Tryz.prog 9 #[m0.arg, .slice A1 len1 cap1] w fun e w' => e = .returned (.bool true) ∧ Below w.heap.size w w' := by
  obtain ⟨r1, n1, q1, d1, _⟩ := p1
  obtain ⟨W, hW⟩ : ∃ W, W = w.alloc (.cells #[.slice m0.Av m0.vs.length m0.cv, .slice m0.Ac m0.cs.length m0.cc, .int .i64 m0.g.kind, .slice m0.g.vars.A m0.g.vars.l.length m0.g.vars.c, .slice m0.g.coefs.A m0.g.coefs.l.length m0.g.coefs.c] 28) := ⟨_, rfl⟩
  have hBW : Below w.heap.size w W := by rw [hW]; exact al _ _
  have hs0 : w.heap.size < W.heap.size := by rw [hW]; simp
  have HP0 : Hid (BD w.heap.size W m0) := by rw [hW]; exact BD.new w m0
  have HRT := hid (Right_any m0 1099511627776 W (h0.below hBW) (by decide))
  have HOK1 : Hid (∀ w2 B y, OwnM w2 B y → y.v = bM m0.v → MmOk 1048576 w2 y) := fun w2 B y h1 h2 => h1.ok1 h2 h0
  obtain ⟨e0, e1, e2, e3, e4⟩ := HP0.out.cells
  have HA1 : Hid (∀ w2, Below w.heap.size w w2 → Calls Tryz.prog 13 #[.slice A1 len1 cap1] w2 (RetI (valuesV l1) w2)) := fun w2 h2 => values_any A1 cap1 len1 l1 w2 (r1.below h2) n1 (by omega)
  clear h0 r1 n1
  unfold Mm.arg at *
  go_enter Tryz.func9, Tryz.ntmps9
  go_wp2_with fail
  rw [← hW]
  refine HRT.out.mono ?_
  rintro e w1 ⟨y, rfl, hyv, hyo, hb1⟩
  obtain ⟨a0, a1, a2, a3, a4⟩ := (HP0.out.next hb1).cells
  obtain ⟨f0, f1, f2, f3, f4⟩ := (HP0.out.next hb1).free
  obtain ⟨W2, hW2⟩ : ∃ W2, W2 = put5 w1 w.heap.size y := ⟨_, rfl⟩
  have HBD : Hid (BD w.heap.size W2 y) := by rw [hW2]; exact (HP0.out.next hb1).put
  have HOW : Hid (OwnM W2 W.heap.size y) := by rw [hW2]; exact hyo.put5 hs0
  have HB2 : Hid (Below w.heap.size w W2) := by rw [hW2]; exact below_put5 (bstep hBW hb1) (Nat.le_refl _) y
  have HMM : Hid (∀ w2, Below W2.heap.size W2 w2 → MmOk 1048576 w2 y) := fun w2 h2 => HOK1.out w2 _ y (HOW.out.below h2) hyv
  have HC : Hid (∀ w2, Below W2.heap.size W2 w2 → (w2.cell? ⟨w.heap.size, 0, none⟩ = some (.slice y.Av y.vs.length y.cv) ∧ w2.cell? ⟨w.heap.size, 1, none⟩ = some (.slice y.Ac y.cs.length y.cc)) ∧ Below w.heap.size w w2) := fun w2 h2 => ⟨⟨(HBD.out.next h2).cells.1, (HBD.out.next h2).cells.2.1⟩, bstep HB2.out h2⟩
  have hlen := len_small hyv
  unfold put5 set5 at hW2
  unfold Mm.arg at *
  clear hyo hb1 HP0 HRT HOK1 hyv
  have HFX := hid fixed6_any
  cases hq : rightR y.v 1099511627776
  · clear hq
    go_wp2_with fail
    rw [← hW2]
    refine (HFX.out _).mono ?_
    rintro e w3 ⟨rfl, hb3⟩
    clear hW2 a0 a1 a2 a3 a4 f0 f1 f2 f3 f4 e0 e1 e2 e3 e4 hW
    go_wp2
    go_ret
    exact ⟨rfl, bstep HB2.out hb3⟩
  · have hE : checkE y.v = 0 := by
      unfold rightR at hq
      rw [Bool.and_eq_true] at hq
      exact of_decide_eq_true hq.1
    have HMO := hid (check_ok hE)
    have HCE := hid (check_cons hE)
    clear hq hE
    go_wp2_with fail
    rw [← hW2]
    clear hW2 a0 a1 a2 a3 a4 f0 f1 f2 f3 f4 e0 e1 e2 e3 e4 hW
    go_loopw [6] (fun i wr => ∃ k : Nat, k ≤ y.cs.length ∧ i = .int .i64 k ∧ Below W2.heap.size W2 wr) (fun i _ => y.cs.length - (intOf i).toNat)
    case atStart => exact ⟨0, Nat.zero_le _, rfl, Below.refl _ _⟩
    case round =>
      obtain ⟨k, hk, rfl, hB⟩ := hrel
      obtain ⟨⟨c0, c1⟩, hBw⟩ := HC.out wr hB
      by_cases hlt : k < y.cs.length
      · obtain ⟨x, hx⟩ : ∃ x, y.cs[k]? = some x := ⟨_, List.getElem?_eq_getElem hlt⟩
        have hxm : x ∈ y.cs := List.mem_of_getElem? hx
        have hxo := (HMM.out wr hB).cs x hxm
        obtain ⟨b1, o1, hg1, hi1, hcc⟩ := Rd.atG (cells := Cm.cells) (sz := 7) (fun _ => rfl) (by decide) 23 36 (by kernel_rfl) (by kernel_rfl) (fun w => by kernel_rfl) (HMM.out wr hB).rc hx
        have hi1 := fun w' => hi1 y.cs.length y.cc w' hlt
        have k0 : wr.cell? ⟨b1, o1, none⟩ = some (.int .i64 x.kind) := hcc 0 (by decide)
        have k1 : wr.cell? ⟨b1, o1 + 1, none⟩ = some (.slice x.vars.A x.vars.l.length x.vars.c) := hcc 1 (by decide)
        have k2 : wr.cell? ⟨b1, o1 + 2, none⟩ = some (.slice x.coefs.A x.coefs.l.length x.coefs.c) := hcc 2 (by decide)
        have k3 : wr.cell? ⟨b1, o1 + 3, none⟩ = some (.int .i64 x.op) := hcc 3 (by decide)
        have k4 : wr.cell? ⟨b1, o1 + 4, none⟩ = some (.int .i64 x.rhs) := hcc 4 (by decide)
        have k5 : wr.cell? ⟨b1, o1 + 5, none⟩ = some (.slice x.Ar x.rows.length x.cr) := hcc 5 (by decide)
        have k6 : wr.cell? ⟨b1, o1 + 6, none⟩ = some (.int .i64 x.b) := hcc 6 (by decide)
        clear hcc
        obtain ⟨Wa, hWa⟩ : ∃ Wa, Wa = wr.alloc (.cells #[.int .i64 x.kind, .slice x.vars.A x.vars.l.length x.vars.c, .slice x.coefs.A x.coefs.l.length x.coefs.c, .int .i64 x.op, .int .i64 x.rhs, .slice x.Ar x.rows.length x.cr, .int .i64 x.b] 36) := ⟨_, rfl⟩
        have hba : Below wr.heap.size wr Wa := by rw [hWa]; exact al _ _
        have HBX : Hid (BoxC Wa wr.heap.size x) := by rw [hWa]; exact BoxC.new x wr
        have HCN : Hid (conE (domsV y.v) x.v = 0) := HCE.out x.v (by show x.v ∈ y.cs.map Cm.v; exact List.mem_map_of_mem hxm)
        have HXO := hid hxo
        clear hx hxm hxo
        by_cases hk4 : x.kind = 4
        · obtain ⟨b, hb, hbn, htr⟩ := truths HCN.out hk4
          have hbv : b < y.vs.length := by simpa [domsV, Mm.v] using hbn
          have HSO := hid ((conE_ok HCN.out).s4 hk4)
          have HCO := hid (conE_ok HCN.out)
          obtain ⟨kind, xv, xc, op, rhs, rows, Ar, cr, xb⟩ := x
          simp only [Cm.v] at hk4 hb
          subst hk4 hb
          simp only at *
          have HTR := hid htr
          have HXS : Hid (CmOk 1048576 wr ⟨0, xv, xc, op, rhs, [], none, 0, 0⟩) := ⟨HXO.out.vars, HXO.out.coefs, .inl rfl, fun s hs => by (cases hs), Nat.zero_le _, Nat.zero_le _, fun _ => rfl, Nat.zero_le _, HXO.out.rhs⟩
          have HV := hid (HA1.out Wa (bstep hBw hba))
          clear htr hbn
          obtain ⟨wo, hwo⟩ : ∃ wo, wo = wr := ⟨_, rfl⟩
          subst hwo
          go_wp2_with fail
          rw [← hWa]
          refine HV.out.mono ?_
          rintro e w3 ⟨A3, c3, rfl, ho3, hb3⟩
          have HO3 := hid ho3
          clear ho3 HV hWa k0 k1 k2 k3 k4 k5 k6 c0 c1
          go_wp2
          go_loopg [8] y.vs.length (fun gk u wi => ∃ (Al : Option Addr) (cl : Nat) (L : List Int), u = .slice Al L.length cl ∧ y.vs.length - L.length ≤ gk ∧ L.length ≤ 12 ∧ Hid (OI wi Wa.heap.size Al cl L) ∧ Hid (Small L) ∧ Below Wa.heap.size Wa wi)
          case atStart => exact ⟨A3, c3, valuesV l1, rfl, by omega, values_len l1, HO3.out, values_small l1, hb3⟩
          case round =>
            obtain ⟨Al, cl, L, rfl, hgk, hL, HO, HS, hwi⟩ := hrel
            have hBi : Below W2.heap.size W2 wr := bstep hB (bstep hba hwi)
            obtain ⟨⟨c0, c1⟩, hBwi⟩ := HC.out wr hBi
            by_cases hll : L.length < y.vs.length
            · go_wp2_with (at_builtin; refine wpList_appI1 wr rfl (.tmp 43) (.tmp 44) rfl Wa.heap.size L.length cl 1 Al L 0 rfl _ rfl rfl rfl HO.out (by omega) hwi.size ?_; intro A2 k2 w2 hO2 hb2 hA2 hk2; have HO2 := hid hO2; clear hO2 hA2 hk2)
              go_roundg (y.vs.length - (L.length + 1))
              case measure => omega
              case rel => exact ⟨A2, k2, L ++ [0], by simp, by simp, by simp; omega, HO2.out, fun v hv => by
                rcases List.mem_append.1 hv with h | h
                · exact HS.out v h
                · simp at h; omega, hwi.trans hb2⟩
            · obtain ⟨g, rfl, hgB, hgl⟩ : ∃ g, Al = some ⟨g, 0, none⟩ ∧ Wa.heap.size ≤ g ∧ g < wr.heap.size := by
                rcases HO.out.form with ⟨_, h2, _⟩ | ⟨g, h2, h3, h4, _⟩
                · omega
                · exact ⟨g, h2, h3, h4⟩
              have hbl : b < L.length := by omega
              obtain ⟨t1, t2, t3⟩ := HTR.out L hbl
              obtain ⟨s, hs⟩ : ∃ s, soV ⟨4, xv.l, xc.l, op, rhs, rows.map (·.l), (b : Int)⟩ L = s := ⟨_, rfl⟩
              have hcell : wr.cell? ⟨g, b, none⟩ = some (.int .i64 (L.getD b 0)) := by rw [World.ownsRow.cellAt HO.out b (by rw [Nat.mul_one]; exact hbl), cI_at hbl]
              have hfr := Ow.free HO.out b
              have hidx : ∀ w' : World, (Instr.indexAt 24 (.slice (some ⟨g, 0, none⟩) L.length cl) (.int .i64 (b : Int))).run Tryz.prog w' = .ok (.pointer (some ⟨g, 0 + b, none⟩)) w' := fun w' => idx_int g 0 L.length cl b hbl w'
              rw [Nat.zero_add] at hidx
              -- 1 for the variable
              obtain ⟨w4, hw4⟩ : ∃ w4, w4 = wr.setCell ⟨g, b, none⟩ (.int .i64 1) := ⟨_, rfl⟩
              have hb4 : Below Wa.heap.size Wa w4 := by rw [hw4]; exact hwi.setCell hgB _
              have ho4 : OI w4 Wa.heap.size (some ⟨g, 0, none⟩) cl (L.set b 1) := by
                have h7 := HO.out.stored b (.int .i64 1)
                rw [← hw4, cI_set] at h7
                unfold OI
                rw [List.length_set]
                exact h7
              have hs4 : Small (L.set b 1) := fun v hv => by
                rcases List.mem_or_eq_of_mem_set hv with h | h
                · exact HS.out v h
                · omega
              have HH1 := hid (Holds_any _ _ cl L.length (L.set b 1) w4 ((HXO.out.below (bstep hba hb4)).le (by decide)) ho4.rd (by rw [List.length_set]) (by omega) hs4 HCO.out)
              have HO4 := hid ho4
              have HZS := hid hs
              have HT3 := hid t3
              have HE2 : Hid (holdsV ⟨4, xv.l, xc.l, op, rhs, rows.map (·.l), (b : Int)⟩ ((L.set b 1).set b 0) = !s) := t2.trans (congrArg (fun q => !q) hs)
              have HE1 : Hid (holdsV ⟨4, xv.l, xc.l, op, rhs, rows.map (·.l), (b : Int)⟩ (L.set b 1) = s) := t1.trans hs
              obtain ⟨z0, z1, z2, z3, z4, z5, z6⟩ := (HBX.out.below hwi).cells
              obtain ⟨y0, y1, y2, y3, y4, y5, y6⟩ := (HBX.out.below hb4).cells
              rw [hw4] at y0 y1 y2 y3 y4 y5 y6
              unfold Cm.arg at HH1
              simp only [Cm.v] at HH1
              rw [HE1.out] at HH1
              simp only at *
              clear ho4 t1 t2 t3 hs hs4
              go_wp2_with fail
              rw [← hw4]
              refine HH1.out.mono ?_
              rintro e w5 ⟨rfl, hb5⟩
              clear hw4 HH1 hcell hfr z0 z1 z2 z3 z4 z5 z6 y0 y1 y2 y3 y4 y5 y6 c0 c1
              have hb5' : Below Wa.heap.size Wa w5 := bstep hb4 hb5
              have ho5 := HO4.out.below hb5
              have hgl5 : g < w5.heap.size := (Ow.high ho5).2
              have hcell : w5.cell? ⟨g, b, none⟩ = some (.int .i64 ((L.set b 1).getD b 0)) := by rw [World.ownsRow.cellAt ho5 b (by rw [Nat.mul_one, List.length_set]; exact hbl), cI_at (by rw [List.length_set]; exact hbl)]
              have hfr := Ow.free ho5 b
              obtain ⟨z0, z1, z2, z3, z4, z5, z6⟩ := (HBX.out.below hb5').cells
              obtain ⟨w6, hw6⟩ : ∃ w6, w6 = w5.setCell ⟨g, b, none⟩ (.int .i64 0) := ⟨_, rfl⟩
              have hb6 : Below Wa.heap.size Wa w6 := by rw [hw6]; exact hb5'.setCell hgB _
              have ho6 : OI w6 Wa.heap.size (some ⟨g, 0, none⟩) cl ((L.set b 1).set b 0) := by
                have h7 := ho5.stored b (.int .i64 0)
                rw [← hw6, cI_set] at h7
                unfold OI
                rw [List.length_set]
                exact h7
              have hs6 : Small ((L.set b 1).set b 0) := fun v hv => by
                rcases List.mem_or_eq_of_mem_set hv with h | h
                · rcases List.mem_or_eq_of_mem_set h with h | h
                  · exact HS.out v h
                  · omega
                · omega
              have HS6 := hid hs6
              have HO6 := hid ho6
              have HH2 := hid (Holds_any _ _ cl L.length ((L.set b 1).set b 0) w6 ((HXO.out.below (bstep hba hb6)).le (by decide)) ho6.rd (by rw [List.length_set, List.length_set]) (by omega) hs6 HCO.out)
              obtain ⟨y0, y1, y2, y3, y4, y5, y6⟩ := (HBX.out.below hb6).cells
              rw [hw6] at y0 y1 y2 y3 y4 y5 y6
              unfold Cm.arg at HH2
              simp only [Cm.v] at HH2
              rw [HE2.out] at HH2
              simp only at *
              clear ho6 ho5 hs6
              go_wp2_with fail
              rw [← hw6]
              refine HH2.out.mono ?_
              rintro e w7 ⟨rfl, hb7⟩
              clear hw6 HH2 hcell hfr z0 z1 z2 z3 z4 z5 z6 y0 y1 y2 y3 y4 y5 y6
              have hb7' : Below Wa.heap.size Wa w7 := bstep hb6 hb7
              obtain ⟨z0, z1, z2, z3, z4, z5, z6⟩ := (HBX.out.below hb7').cells
              obtain ⟨w8, hw8⟩ : ∃ w8, w8 = w7.alloc (.cells #[.int .i64 0, .slice xv.A xv.l.length xv.c, .slice xc.A xc.l.length xc.c, .int .i64 op, .int .i64 rhs, .slice none 0 0, .int .i64 0] 36) := ⟨_, rfl⟩
              have hb8 : Below w7.heap.size w7 w8 := by rw [hw8]; exact al _ _
              have hb8' : Below Wa.heap.size Wa w8 := bstep hb7' hb8
              have HH3 := hid (Holds_any ⟨0, xv, xc, op, rhs, [], none, 0, 0⟩ (some ⟨g, 0, none⟩) cl L.length ((L.set b 1).set b 0) w8 ((HXS.out.below (bstep hba hb8')).le (by decide)) (HO6.out.below (bstep hb7 hb8)).rd (by rw [List.length_set, List.length_set]) (by omega) HS6.out ⟨⟨by show (0 : Int) ≤ 0; omega, by show (0 : Int) ≤ 6; omega⟩, fun _ => HSO.out, fun e => by (cases e), fun e => by (cases e), fun e => by (cases e)⟩)
              unfold Cm.arg at HH3
              simp only [Cm.v, List.map_nil] at HH3
              rw [show holdsV ⟨0, xv.l, xc.l, op, rhs, [], 0⟩ ((L.set b 1).set b 0) = s from HT3.out.trans HZS.out] at HH3
              simp only at *
              have hns : (s == !s) = false := by cases s <;> rfl
              have hss : (s != s) = false := by cases s <;> rfl
              go_wp2_with fail
              rw [← hw8]
              refine HH3.out.mono ?_
              rintro e w9 ⟨rfl, hb9⟩
              have hB9 := bstep hB (bstep hba (bstep hb8' hb9))
              clear hw8 HH3 z0 z1 z2 z3 z4 z5 z6
              go_wp2
              go_roundw
              case rel => exact ⟨k + 1, by omega, by go_num, hB9⟩
              case measure => simp [intOf]; omega
        · have hk4' : (x.kind != 4) = true := by rw [bne_iff_ne]; exact hk4
          clear hk4
          go_wp2
          go_roundw
          case rel => exact ⟨k + 1, by omega, by go_num, by rw [← hWa]; exact bstep hB hba⟩
          case measure => simp [intOf]; omega
      · obtain rfl : k = y.cs.length := by omega
        go_wp2_with fail
        refine (HFX.out _).mono ?_
        rintro e w3 ⟨rfl, hb3⟩
        go_wp2
        go_ret
        exact ⟨rfl, bstep hBw hb3⟩
theorem own : ownKnob Tryz.prog.godebug = none := by kernel_rfl
theorem laidOut : laidOutB Tryz.prog = true := by kernel_rfl
set_option maxRecDepth 100000 in
theorem lifted (os : Os) (started : os.Started) (H : Type) (enc : TypeId × Value → H) :
    ReturnsInHanded {} Tryz.checked os 9 .any (Rows.meaningTruthsSpec.pre6 enc Tryz.prog Tryz.f9 Rows.meaningTruthsRow.domain false) (Rows.meaningTruthsSpec.post enc Tryz.prog Tryz.f9 false true false false) := by
  refine returnsInHanded_of_change (C := Tryz.checked) own started (by kernel_rfl) Tryz.func9
    (ChangeSpec.witness6 (enc := enc) (C := Tryz.checked) false ⟨#[], #[.agg #[.slice none 0 0, .slice none 0 0, .int .i64 0, .slice none 0 0, .slice none 0 0], .slice none 0 0], []⟩ 8 (by kernel_rfl) (by kernel_rfl) (by kernel_rfl) (by kernel_rfl)) ?_
  intro W base args ds gs before hval0 hW hcnd _
  have hval : ∀ (j : Nat) t v, Tryz.f9.params[j]? = some t → args[j]? = some v → Value.okWide Tryz.prog W .any base t v := hval0
  have hW' := hW
  obtain ⟨p, q, hA0, hV, rfl, hfz, hnd⟩ := hW
  have hA : DataW.TrodAll enc Tryz.prog W 0 (fun _ => true) true Tryz.f9.params.toList args.toList ds p := hA0
  rw [Tryz.params9] at hA hval
  obtain ⟨v0, vs0, d0, ds0, p0, q0, hargs, rfl, rfl, h0, r0⟩ := trodAll_cons hA
  obtain ⟨v1, vs1, d1, ds1, p1, q1, rfl, rfl, rfl, h1, r1⟩ := trodAll_cons r0
  obtain ⟨rfl, rfl, rfl⟩ := trodAll_nil r1
  obtain rfl : args = #[v0, v1] := by cases args; simp_all
  obtain ⟨rfl, rfl⟩ := trodVars_none hV
  have k0 := h0
  have lt0 : ∀ x ∈ p0, x.block < W.heap.size := by obtain ⟨m, hm⟩ := k0; exact DataW.trod_lt m _ _ _ hm
  obtain ⟨m0, rfl, w0⟩ := arg_model (hval 0 28 v0 rfl rfl) h0
  have k1 := h1
  have lt1 : ∀ x ∈ p1, x.block < W.heap.size := by obtain ⟨m, hm⟩ := k1; exact DataW.trod_lt m _ _ _ hm
  obtain ⟨a1, len1, cap1, rfl⟩ := okWide_slice Tryz.underlying24 (hval 1 24 v1 rfl rfl)
  obtain ⟨z1, w1⟩ : ∃ zs, IsRow .i64 W a1 len1 cap1 zs := by
    obtain ⟨fuel, hf⟩ := h1
    rcases open_ints Tryz.underlying24 Tryz.underlying3 (by kernel_rfl) hf with ⟨hcs, _⟩ | ⟨x, l, c, zs, hcs, _, hl, hm, hz, _, hcell, hwz⟩
    · simp [Value.cells] at hcs
      obtain ⟨rfl, rfl, rfl⟩ := hcs
      exact ⟨[], .inl ⟨rfl, rfl, rfl, rfl⟩⟩
    · simp [Value.cells] at hcs
      obtain ⟨rfl, rfl, rfl⟩ := hcs
      exact ⟨zs, .inr ⟨_, rfl, hl, hm, by simpa using hz, hcell, hwz⟩⟩
  obtain ⟨l1, w1⟩ := w1.inI
  clear hA0 hval0
  refine (walk m0 a1 len1 cap1 l1 W w0 w1).mono fun e W' ⟨he, bel⟩ => ?_
  subst he
  exact ⟨_, rfl, _, _, _, [], _, [], hW', trodAll_mk1 (shut_bool Tryz.underlying4 _), trodAll_cons_mk (Below.trod laidOut (by kernel_rfl) (of_decide_eq_true (by kernel_rfl)) k0 bel lt0) (trodAll_cons_mk (Below.trod laidOut (by kernel_rfl) (of_decide_eq_true (by kernel_rfl)) k1 bel lt1) (trodAll_mk0)), rfl, bel.frame _, fun h => by cases h⟩
theorem over : Rows.meaningTruthsRow.holds Tryz.pinned (OpenSpec.ofChange Rows.meaningTruthsSpec) :=
  OpenClaim.holds_of_wide 9 Tryz.f9 rfl rfl rfl rfl rfl rfl rfl ⟨rfl, rfl, rfl, rfl, rfl⟩ rfl rfl rfl rfl rfl (by kernel_rfl) Tryz.func9 (by kernel_rfl)
    (of_decide_eq_true (by kernel_rfl)) (by unfold Func.isWrapper; first | (rw [if_pos (by decide +kernel)]; kernel_rfl) | (rw [if_neg (by decide +kernel)]; exact ⟨rfl, rfl⟩))
    (fun os started H enc _ => lifted os started H enc)
/-- The statement. -/
theorem proved : Rows.MeaningTruthsSaid := over
end Go.Proofs.YtlegpccpmijhkaaGreat.meaningTruths
