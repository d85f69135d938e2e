/-  -/
import Derived.Test.YtkoenibdkgchhaaGreatN1
import Derived.Laws.RangeAny
import Derived.Test.YtkoenibdkgchhaaGreatN8
import Derived.Test.YtkoenibdkgchhaaGreatZB
/- Contracts of model.Name and of the reference's Name. -/
namespace Go.Proofs.YtkoenibdkgchhaaGreat
open Go.ChangeShapes Go.WideShapes Go.ChangeAt Go.RowKit Go.Shelf
set_option linter.unusedVariables false
set_option maxRecDepth 100000

theorem get_at {s : ByteArray} {k : Nat} (h : k < s.size) : s.get! k = s[k]'h := by
  show s.get! k = _
  simp [ByteArray.get!, getElem!_pos, h]
  rfl
theorem nameTo_succ (s : ByteArray) (k : Nat) : nameTo s (k + 1) = (nameTo s k && nameB (k == 0) (s.get! k)) := by
  unfold nameTo
  rw [List.range_succ, List.all_append]
  simp
theorem nameTo_stop {s : ByteArray} {k n : Nat} (h : k < n) (h0 : nameB (k == 0) (s.get! k) = false) : nameTo s n = false := by
  unfold nameTo
  rw [List.all_eq_false]
  exact ⟨k, List.mem_range.2 h, by rw [h0]; simp⟩
theorem nameB_iff (f : Bool) (b : UInt8) : nameB f b = decide ((97 ≤ b.toNat ∧ b.toNat ≤ 122) ∨ (f = false ∧ (b.toNat = 95 ∨ (48 ≤ b.toNat ∧ b.toNat ≤ 57)))) := by
  unfold nameB
  cases f <;> simp [Bool.decide_or, Bool.decide_and]
theorem nameV_mid {s : ByteArray} (h1 : 1 ≤ s.size) (h2 : s.size ≤ 16) : nameV s = nameTo s s.size := by
  unfold nameV
  rw [decide_eq_true (show 0 < s.size by omega), decide_eq_true h2]
  simp
theorem iter_below (w : World) (s : ByteArray) (pos : Nat) : Below w.heap.size w (w.iter s pos) := (Below.refl _ _).alloc (Nat.le_refl _) _

set_option maxHeartbeats 1000000 in
theorem Name_any (s : ByteArray) (w : World) : Calls Tryz.prog 95 #[.string s] w fun e w' => e = .returned (.bool (nameV s)) ∧ Below w.heap.size w w' := by
  by_cases h1 : 1 ≤ s.size
  · by_cases h2 : s.size ≤ 16
    · rw [nameV_mid h1 h2]
      go_enter Tryz.func95, Tryz.ntmps95
      go_wp2
      go_loopw [] (fun w' => ∃ pos : Nat, w' = w.iter s pos ∧ pos ≤ s.size ∧ Hid (nameTo s pos = true)) (fun w' => s.size - w'.iterPos w.heap.size)
      case atStart => exact ⟨0, rfl, Nat.zero_le _, rfl⟩
      case round =>
        obtain ⟨pos, rfl, hle, HT⟩ := hrel
        by_cases hp : pos < s.size
        · have HG := hid (get_at hp)
          have HB := hid (nameB_iff (pos == 0) (s.get! pos))
          have HS := hid (nameTo_succ s pos)
          rw [HT.out] at HS
          have HE : Hid (nameB (pos == 0) (s.get! pos) = false → nameTo s s.size = false) := fun h => nameTo_stop hp h
          by_cases ha : (s[pos]'hp).toNat < 128
          · have hnx : ∀ ty, (Instr.next (.pointer (some ⟨w.heap.size, 0, none⟩)) true ty).run Tryz.prog (w.iter s pos) = _ := fun ty => run_next_ascii w s pos ty hp ha
            rw [HG.out] at HB HS HE
            generalize (s[pos]'hp) = u at *
            obtain ⟨z, hz⟩ : ∃ z : Int, ((u.toNat : Nat) : Int) = z := ⟨_, rfl⟩
            rw [hz] at hnx
            have HZ := hid hz
            clear hz
            by_cases hl : 97 ≤ z ∧ z ≤ 122
            · obtain ⟨q1, q2⟩ := hl
              have HX : Hid (nameTo s (pos + 1) = true) := by
                show _ = _
                rw [HS.out, HB.out, Bool.true_and, decide_eq_true_eq]
                have := HZ.out; left; omega
              clear HB HS HE HG
              go_wp2
              go_roundw
              case rel => exact ⟨pos + 1, rfl, by omega, HX⟩
              case measure => simp; omega
            · by_cases h0 : pos = 0
              · have HX : Hid (nameTo s s.size = false) := HE.out (by
                  rw [HB.out, decide_eq_false_iff_not, h0]
                  have := HZ.out
                  rintro (h | ⟨h, _⟩)
                  · omega
                  · cases h)
                have hz0 : (((pos : Nat) : Int) == 0) = true := by simp [h0]
                clear HB HS HE HG h0
                by_cases q1 : 97 ≤ z
                · have q2 : ¬ z ≤ 122 := fun h => hl ⟨q1, h⟩
                  clear hl HZ
                  go_wp2
                  go_ret
                  exact ⟨by rw [HX.out]; rfl, iter_below _ _ _⟩
                · clear hl HZ
                  go_wp2
                  all_goals
                    go_ret
                    exact ⟨by rw [HX.out]; rfl, iter_below _ _ _⟩
              · have hz0 : (((pos : Nat) : Int) == 0) = false := by simpa using h0
                have hz2 : (pos == 0) = false := by simpa using h0
                rw [hz2] at HB HS HE
                clear hz2
                by_cases hd : 48 ≤ z ∧ z ≤ 57
                · obtain ⟨q3, q4⟩ := hd
                  have HX : Hid (nameTo s (pos + 1) = true) := by
                    show _ = _
                    rw [HS.out, HB.out, Bool.true_and, decide_eq_true_eq]
                    have := HZ.out; right; exact ⟨rfl, by omega⟩
                  have q1 : ¬ 97 ≤ z := by omega
                  clear HB HS HE HG hl HZ
                  go_wp2
                  go_roundw
                  case rel => exact ⟨pos + 1, rfl, by omega, HX⟩
                  case measure => simp; omega
                · by_cases hu : z = 95
                  · have HX : Hid (nameTo s (pos + 1) = true) := by
                      show _ = _
                      rw [HS.out, HB.out, Bool.true_and, decide_eq_true_eq]
                      have := HZ.out; right; exact ⟨rfl, by omega⟩
                    have q1 : ¬ 97 ≤ z := by omega
                    have q3 : 48 ≤ z := by omega
                    have q4 : ¬ z ≤ 57 := by omega
                    have q5 : (z == 95) = true := by simp [hu]
                    clear HB HS HE HG hl hd HZ hu
                    go_wp2
                    go_roundw
                    case rel => exact ⟨pos + 1, rfl, by omega, HX⟩
                    case measure => simp; omega
                  · have HX : Hid (nameTo s s.size = false) := HE.out (by
                      rw [HB.out, decide_eq_false_iff_not]
                      have := HZ.out
                      rintro (h | ⟨_, h | h⟩) <;> omega)
                    have q5 : (z == 95) = false := by rw [beq_eq_false_iff_ne]; exact hu
                    clear HB HS HE HG
                    by_cases q1 : 97 ≤ z
                    · have q2 : ¬ z ≤ 122 := fun h => hl ⟨q1, h⟩
                      have q3 : 48 ≤ z := by omega
                      have q4 : ¬ z ≤ 57 := by omega
                      clear hl hd HZ hu
                      go_wp2
                      go_ret
                      exact ⟨by rw [HX.out]; rfl, iter_below _ _ _⟩
                    · by_cases q3 : 48 ≤ z
                      · have q4 : ¬ z ≤ 57 := fun h => hd ⟨q3, h⟩
                        clear hl hd HZ hu
                        go_wp2
                        go_ret
                        exact ⟨by rw [HX.out]; rfl, iter_below _ _ _⟩
                      · clear hl hd HZ hu
                        go_wp2
                        go_ret
                        exact ⟨by rw [HX.out]; rfl, iter_below _ _ _⟩
          · have hnx : ∀ ty, (Instr.next (.pointer (some ⟨w.heap.size, 0, none⟩)) true ty).run Tryz.prog (w.iter s pos) = _ := fun ty => run_next_any w s pos ty hp
            have hr := (decode_high s pos hp (by omega)).1
            rw [HG.out] at HB HS HE
            have HX : Hid (nameTo s s.size = false) := HE.out (by rw [HB.out]; simp; omega)
            clear HB HS HE HG
            generalize (Utf8.decode s pos).1 = r0 at *
            generalize (Utf8.decode s pos).2 = wd at *
            obtain ⟨r, hr0⟩ : ∃ r : Int, ((r0 : Nat) : Int) = r := ⟨_, rfl⟩
            rw [hr0] at hnx
            have q1 : 97 ≤ r := by omega
            have q2 : ¬ r ≤ 122 := by omega
            have q3 : 48 ≤ r := by omega
            have q4 : ¬ r ≤ 57 := by omega
            have q5 : (r == 95) = false := by rw [beq_eq_false_iff_ne]; omega
            clear ha hr hr0
            by_cases h0 : pos = 0
            · have hz : (((pos : Nat) : Int) == 0) = true := by simp [h0]
              clear h0
              go_wp2
              go_ret
              exact ⟨by rw [HX.out]; rfl, iter_below _ _ _⟩
            · have hz : (((pos : Nat) : Int) == 0) = false := by simpa using h0
              go_wp2
              go_ret
              exact ⟨by rw [HX.out]; rfl, iter_below _ _ _⟩
        · obtain rfl : pos = s.size := by omega
          have hnx : ∀ ty, (Instr.next (.pointer (some ⟨w.heap.size, 0, none⟩)) true ty).run Tryz.prog (w.iter s s.size) = _ := fun ty => run_next_end w s s.size ty hp
          go_wp2
          go_ret
          exact ⟨by rw [HT.out]; rfl, iter_below _ _ _⟩
    · rw [show nameV s = false from by unfold nameV; rw [decide_eq_false h2]; simp]
      go_enter Tryz.func95, Tryz.ntmps95
      go_wp2
      go_ret
      exact ⟨rfl, Below.refl _ _⟩
  · rw [show nameV s = false from by unfold nameV; rw [decide_eq_false (show ¬ 0 < s.size by omega)]; simp]
    go_enter Tryz.func95, Tryz.ntmps95
    go_wp2
    go_ret
    exact ⟨rfl, Below.refl _ _⟩
end Go.Proofs.YtkoenibdkgchhaaGreat
/- Plain facts of domains that are right; contracts of model.Doms and checkVar. -/
namespace Go.Proofs.YtkoenibdkgchhaaGreat
open Go.ChangeShapes Go.WideShapes Go.ChangeAt Go.RowKit Go.Shelf
set_option linter.unusedVariables false
set_option maxRecDepth 100000
set_option linter.unusedSimpArgs false

def Chk (d : List (Int × Int)) : Prop := checkR d = 0
theorem Chk.form {d : List (Int × Int)} (h : Chk d) : formTo d d.length = true := by
  unfold Chk checkR at h
  split at h
  · assumption
  · cases h
theorem Chk.vb {d : List (Int × Int)} (h : Chk d) : Vb d := formTo_vb h.form
theorem Chk.size {d : List (Int × Int)} (h : Chk d) : sizeR d ≤ 4096 := by
  have h2 := h
  unfold Chk checkR at h2
  rw [if_pos h.form] at h2
  split at h2
  · cases h2
  · omega
theorem Chk.wf {d : List (Int × Int)} (h : Chk d) : Wf d := by
  have hall : ∀ k, k ≤ d.length → Wf (d.take k) ∧ ∀ r ∈ d.take k, r.2 ≤ (d.getD (k - 1) (0, 0)).2 := by
    intro k
    induction k with
    | zero => intro _; exact ⟨trivial, fun r hr => by (cases hr)⟩
    | succ k ih =>
      intro hk
      obtain ⟨h1, h2⟩ := ih (by omega)
      obtain ⟨_, _, h3, h4⟩ := okAt_true (formTo_at h.form (show k < d.length by omega))
      have e : d.take (k + 1) = d.take k ++ [d.getD k (0, 0)] := by
        rw [List.take_succ_eq_append_getElem (by omega), List.getD_eq_getElem?_getD, List.getElem?_eq_getElem (by omega)]; rfl
      rw [e]
      have hgap : ∀ r ∈ d.take k, r.2 + 2 ≤ (d.getD k (0, 0)).1 := by
        intro r hr
        rcases h4 with h4 | h4
        · subst h4; cases hr
        · have := h2 r hr; omega
      refine ⟨Wf.app h1 (Wf.one h3) (fun r hr s hs => ?_), fun r hr => ?_⟩
      · simp at hs; subst hs; have := hgap r hr; simpa using this
      · simp only [Nat.add_sub_cancel]
        rcases List.mem_append.1 hr with hr | hr
        · have := hgap r hr; omega
        · simp at hr; subst hr; simp
  have := (hall d.length (Nat.le_refl _)).1
  rwa [List.take_length] at this

theorem beq_str (a b : ByteArray) : (a.toList == b.toList) = decide (a = b) := by
  rw [ByteArray.toList_eq, ByteArray.toList_eq]
  by_cases h : a = b
  · subst h; rw [decide_eq_true rfl]; simp
  · rw [decide_eq_false h, beq_eq_false_iff_ne]
    intro e
    apply h
    cases a; cases b
    simp only at e
    congr 1
    exact Array.toList_inj.1 e
theorem pairs_map {α β γ : Type} {l : List α} {ys : List β} {f : α → γ} {g : β → γ} (hl : ys.length = l.length) (h : ∀ (i : Nat) x y, l[i]? = some x → ys[i]? = some y → g y = f x) : ys.map g = l.map f := by
  apply List.ext_getElem?
  intro i
  rw [List.getElem?_map, List.getElem?_map]
  by_cases hi : i < l.length
  · have h1 := List.getElem?_eq_getElem hi
    have h2 := List.getElem?_eq_getElem (l := ys) (i := i) (by omega)
    rw [h1, h2]
    simp only [Option.map_some]
    rw [h i _ _ h1 h2]
  · rw [List.getElem?_eq_none (by omega), List.getElem?_eq_none (by omega)]
    rfl
theorem pairs_mem {α β : Type} {l : List α} {ys : List β} {Q : β → Prop} {P : α → β → Prop} (hl : ys.length = l.length) (h : ∀ (i : Nat) x y, l[i]? = some x → ys[i]? = some y → P x y) (hq : ∀ x ∈ l, ∀ y, P x y → Q y) : ∀ y ∈ ys, Q y := by
  intro y hy
  obtain ⟨i, hi, rfl⟩ := List.getElem_of_mem hy
  exact hq _ (List.getElem_mem (by omega)) _ (h i _ _ (List.getElem?_eq_getElem (by omega)) (List.getElem?_eq_getElem hi))


def Mm.arg (m : Mm) : Value := .agg #[.slice m.Av m.vs.length m.cv, .slice m.Ac m.cs.length m.cc, .int .i64 m.g.kind, .slice m.g.vars.A m.g.vars.l.length m.g.vars.c, .slice m.g.coefs.A m.g.coefs.l.length m.g.coefs.c]

/-! ### Doms -/
def RetD (x : Vm) (B : Nat) (w : World) (e : Ending) (w' : World) : Prop := ∃ y : Sr, e = .returned (.slice y.A y.d.length y.c) ∧ (y.d = x.v.d ∧ OR w' B y.A y.c y.d) ∧ Below w.heap.size w w'
theorem Doms1_any (x : Vm) (B : Nat) (w : World) (h : VmOk 4294967296 w x) (hB : B ≤ w.heap.size) :
    Calls Tryz.prog 101 #[.agg #[.string x.v.name, .slice x.A x.v.d.length x.c]] w (RetD x B w) := by
  have hb0 : Below w.heap.size w (w.alloc (.cells #[.string x.v.name, .slice x.A x.v.d.length x.c] 55)) := (Below.refl _ _).alloc (Nat.le_refl _) _
  have HC := hid (ownR_any x.A x.c x.v.d.length x.v.d _ (h.rd.below hb0) rfl h.len h.nc)
  have hl := h.len
  obtain ⟨v, A, c⟩ := x
  obtain ⟨nm, d⟩ := v
  simp only at *
  clear h hl
  have HD : Hid (∀ A' c' w2, OR w2 (w.alloc (.cells #[.string nm, .slice A d.length c] 55)).heap.size A' c' d → Below (w.alloc (.cells #[.string nm, .slice A d.length c] 55)).heap.size (w.alloc (.cells #[.string nm, .slice A d.length c] 55)) w2 → RetD ⟨⟨nm, d⟩, A, c⟩ B w (.returned (.slice A' d.length c')) w2) := fun A' c' w2 h1 h2 => ⟨⟨d, A', c'⟩, rfl, ⟨rfl, h1.base (Nat.le_trans hB hb0.size)⟩, bstep hb0 h2⟩
  clear hb0
  go_enter Tryz.func101, Tryz.ntmps101
  go_wp2_with fail
  refine HC.out.mono ?_
  rintro e w1 ⟨A', c', rfl, hO, hb1⟩
  have HR := hid (HD.out A' c' w1 hO hb1)
  clear HD HC hO hb1
  go_wp2
  go_ret
  exact HR.out
def RetDs (vs : List Vm) (B : Nat) (w : World) (e : Ending) (w' : World) : Prop := ∃ (A' : Option Addr) (c' : Nat) (ys : List Sr), e = .returned (.slice A' vs.length c') ∧ ys.length = vs.length ∧ Ow w' B 53 1 A' vs.length c' (cS ys) ∧ ys.map (·.d) = vs.map (·.v.d) ∧ (∀ y ∈ ys, OR w' B y.A y.c y.d) ∧ Below w.heap.size w w'
theorem Doms_any (m : Mm) (w : World) (h : MmOk 4294967296 w m) :
    Calls Tryz.prog 74 #[m.arg] w (RetDs m.vs w.heap.size w) := by
  unfold Mm.arg
  obtain ⟨W, hW⟩ : ∃ W, W = w.alloc (.cells #[.slice m.Av m.vs.length m.cv, .slice m.Ac m.cs.length m.cc, .int .i64 m.g.kind, .slice m.g.vars.A m.g.vars.l.length m.g.vars.c, .slice m.g.coefs.A m.g.coefs.l.length m.g.coefs.c] 28) := ⟨_, rfl⟩
  have hb0 : Below w.heap.size w W := by rw [hW]; exact (Below.refl _ _).alloc (Nat.le_refl _) _
  have HC := hid (eachD 101 #[] m.Av m.cv m.vs.length m.vs (fun x y w2 => y.d = x.v.d ∧ OR w2 w.heap.size y.A y.c y.d) W (enters_of Tryz.func101 (by kernel_rfl) rfl) (h.rv.below hb0) rfl h.lv
    (fun x y w1 w2 hp hk => ⟨hp.1, Ow.tk hp.2 hk (by decide)⟩)
    (fun x hx w' hb => Doms1_any x w.heap.size w' ((h.vs x hx).below (bstep hb0 hb)) (bstep hb0 hb).size))
  have HD : Hid (∀ A' c' (ys : List Sr) w2, ys.length = m.vs.length → Ow w2 W.heap.size 53 1 A' m.vs.length c' (cS ys) → (∀ (i : Nat) x y, m.vs[i]? = some x → ys[i]? = some y → y.d = x.v.d ∧ OR w2 w.heap.size y.A y.c y.d) → Below W.heap.size W w2 → RetDs m.vs w.heap.size w (.returned (.slice A' m.vs.length c')) w2) := fun A' c' ys w2 h1 h2 h3 h4 =>
    ⟨A', c', ys, rfl, h1, h2.base hb0.size, pairs_map h1 (fun i x y hx hy => (h3 i x y hx hy).1), pairs_mem h1 h3 (fun x _ y hp => hp.2), bstep hb0 h4⟩
  clear hb0 h
  obtain ⟨vs, Av, cv, cs, Ac, cc, g⟩ := m
  obtain ⟨gk, gv, gc⟩ := g
  simp only at *
  go_enter Tryz.func74, Tryz.ntmps74
  go_wp2_with fail
  rw [← hW]
  refine HC.out.mono ?_
  rintro e w1 ⟨A', c', ys, rfl, h1, h2, h3, h4⟩
  have HR := hid (HD.out A' c' ys w1 h1 h2 h3 h4)
  clear HD HC h1 h2 h3 h4 hW
  go_wp2
  go_ret
  exact HR.out

/-! ### checkVar -/
theorem cv1_any (w : World) (bv : Nat) (x : Vm) (nm : ByteArray) (h : w.cell? ⟨bv, 0, none⟩ = some (.string nm)) :
    Gives w 92 (#[.agg #[.string x.v.name, .slice x.A x.v.d.length x.c]] ++ #[.pointer (some ⟨bv, 0, none⟩)]) (decide (x.v.name = nm)) := by
  intro w' hb
  have hlt : bv < w.heap.size := World.block_lt_of_cell? w _ h
  have hc := (hb.cell (p := ⟨bv, 0, none⟩) hlt).trans h
  have hc' : ∀ o, (w'.alloc o).cell? ⟨bv, 0, none⟩ = some (.string nm) := fun o => by rw [((Below.refl _ _).alloc (Nat.le_refl _) o).cell (p := ⟨bv, 0, none⟩) (Nat.lt_of_lt_of_le hlt hb.size)]; exact hc
  have HQ := hid (beq_str x.v.name nm)
  clear h hb hlt
  obtain ⟨⟨n1, d⟩, A, c⟩ := x
  simp only at *
  go_enter Tryz.func92, Tryz.ntmps92
  go_wp2
  go_ret
  exact ⟨by first | rfl | (rw [← HQ.out]; rfl) | (rw [← HQ.out]), (Below.refl _ _).alloc (Nat.le_refl _) _⟩
theorem cv2_any (w : World) (bv : Nat) (nm : ByteArray) (h : w.cell? ⟨bv, 0, none⟩ = some (.string nm)) :
    Gives w 94 #[.pointer (some ⟨bv, 0, none⟩)] (!nameV nm) := by
  intro w' hb
  have hlt : bv < w.heap.size := World.block_lt_of_cell? w _ h
  have hc := (hb.cell (p := ⟨bv, 0, none⟩) hlt).trans h
  clear h hb hlt
  have HC := hid (Name_any nm w')
  generalize nameV nm = q at *
  cases q
  all_goals
    go_enter Tryz.func94, Tryz.ntmps94
    go_wp2_with (go_at_call 95; refine HC.out.mono ?_; rintro e w1 ⟨rfl, hb1⟩)
    go_ret
    exact ⟨rfl, hb1⟩
theorem cv3_any (w : World) (ba bn bv : Nat) (nm : ByteArray) (A : Option Addr) (c n : Nat) (vs : List Vm) (ha : w.cell? ⟨ba, 0, none⟩ = some (.slice A n c)) (hf : w.cell? ⟨bn, 0, none⟩ = some (.func (.func 92) #[] #[.pointer (some ⟨bv, 0, none⟩)])) (hv : w.cell? ⟨bv, 0, none⟩ = some (.string nm))
    (h : Rd w A (cV vs)) (hn : vs.length = n) (hl : n ≤ 4294967296) :
    Gives w 96 #[.pointer (some ⟨ba, 0, none⟩), .pointer (some ⟨bn, 0, none⟩)] (twiceV nm (vs.map (·.v))) := by
  intro w' hb
  have h1 := (hb.cell (p := ⟨ba, 0, none⟩) (World.block_lt_of_cell? w _ ha)).trans ha
  have h2 := (hb.cell (p := ⟨bn, 0, none⟩) (World.block_lt_of_cell? w _ hf)).trans hf
  have HC := hid (ContFV 92 #[.pointer (some ⟨bv, 0, none⟩)] A c n vs (fun x => decide (x.v.name = nm)) w' (enters_of Tryz.func92 (by kernel_rfl) rfl) (h.below hb) hn hl (fun x hx => (cv1_any w bv x nm hv).keep hb))
  have HE : Hid (vs.any (fun x => decide (x.v.name = nm)) = twiceV nm (vs.map (·.v))) := by show _ = _; unfold twiceV; rw [List.any_map]; rfl
  clear h hb ha hf hv hn
  generalize twiceV nm (vs.map (·.v)) = q at *
  generalize vs.any (fun x => decide (x.v.name = nm)) = q2 at *
  obtain rfl := HE.out
  go_enter Tryz.func96, Tryz.ntmps96
  go_wp2_with fail
  refine HC.out.mono ?_
  rintro e w1 ⟨rfl, hb1⟩
  clear HE HC
  go_wp2
  go_ret
  exact ⟨rfl, hb1⟩
theorem cv4_any (w : World) (bv : Nat) (A : Option Addr) (c n : Nat) (d : List (Int × Int)) (hv : w.cell? ⟨bv, 1, none⟩ = some (.slice A n c)) (h : Rd w A (cR d)) (hn : d.length = n) (hl : n ≤ 1048576) :
    Gives w 98 #[.pointer (some ⟨bv, 0, none⟩)] (decide (d = [] ∨ checkR d ≠ 0)) := by
  intro w' hb
  have h1 := (hb.cell (p := ⟨bv, 1, none⟩) (World.block_lt_of_cell? w _ hv)).trans hv
  have HC := hid (Check_any A c n d w' (h.below hb) hn hl)
  have HN := hid hn
  clear h hb hv hn
  by_cases h0 : n = 0
  · subst h0
    have HE : Hid (decide (d = [] ∨ checkR d ≠ 0) = true) := decide_eq_true (.inl (List.length_eq_zero_iff.1 HN.out))
    generalize decide (d = [] ∨ checkR d ≠ 0) = q at *
    obtain rfl := HE.out
    clear HE HC HN
    go_enter Tryz.func98, Tryz.ntmps98
    go_wp2
    go_ret
    exact ⟨rfl, Below.refl _ _⟩
  · have hz : ((n : Int) == 0) = false := by simp; omega
    have HE : Hid (decide (d = [] ∨ checkR d ≠ 0) = decide (checkR d ≠ 0)) := by
      show _ = _
      have : d ≠ [] := fun e => by rw [e] at HN; exact h0 HN.out.symm
      simp [this]
    by_cases hr : checkR d = 0
    · have HQ : Hid (decide (d = [] ∨ checkR d ≠ 0) = false) := by show _ = _; rw [HE.out, hr]; rfl
      generalize decide (d = [] ∨ checkR d ≠ 0) = q at *
      obtain rfl := HQ.out
      clear HE HQ HN
      rw [hr] at HC
      clear hr
      go_enter Tryz.func98, Tryz.ntmps98
      go_wp2_with (go_at_call 99; refine HC.out.mono ?_; rintro e w1 ⟨rfl, hb1⟩)
      go_ret
      exact ⟨rfl, hb1⟩
    · have HQ : Hid (decide (d = [] ∨ checkR d ≠ 0) = true) := by show _ = _; rw [HE.out]; exact decide_eq_true hr
      generalize decide (d = [] ∨ checkR d ≠ 0) = q at *
      obtain rfl := HQ.out
      have hr' : (checkR d != 0) = true := by simp [hr]
      clear HE HQ HN
      generalize checkR d = z at *
      go_enter Tryz.func98, Tryz.ntmps98
      go_wp2_with (go_at_call 99; refine HC.out.mono ?_; rintro e w1 ⟨rfl, hb1⟩)
      go_ret
      exact ⟨rfl, hb1⟩
def varFs (w : World) (v : Vm) (vs : List Vm) : List Fl :=
  [⟨40, 94, #[.pointer (some ⟨w.heap.size, 0, none⟩)], !nameV v.v.name⟩,
   ⟨41, 96, #[.pointer (some ⟨w.heap.size + 1, 0, none⟩), .pointer (some ⟨w.heap.size + 2, 0, none⟩)], twiceV v.v.name (vs.map (·.v))⟩,
   ⟨42, 98, #[.pointer (some ⟨w.heap.size, 0, none⟩)], decide (v.v.d = [] ∨ checkR v.v.d ≠ 0)⟩]
theorem varFs_E (w : World) (v : Vm) (vs : List Vm) : firstE (varFs w v vs) = varE (vs.map (·.v)) v.v := by
  unfold varE
  show (if (!nameV v.v.name) = true then (40 : Int) else if twiceV v.v.name (vs.map (·.v)) = true then 41 else if decide (v.v.d = [] ∨ checkR v.v.d ≠ 0) = true then 42 else 0) = _
  cases nameV v.v.name <;> simp
set_option maxHeartbeats 1000000 in
theorem checkVar_any (v : Vm) (A : Option Addr) (c n : Nat) (vs : List Vm) (w : World) (h : VmOk 1048576 w v) (hr : Rd w A (cV vs)) (hn : vs.length = n) (hl : n ≤ 4294967296) :
    Calls Tryz.prog 73 #[.agg #[.string v.v.name, .slice v.A v.v.d.length v.c], .slice A n c] w fun e w' => e = .returned (.int .i64 (varE (vs.map (·.v)) v.v)) ∧ Below w.heap.size w w' := by
  obtain ⟨W, hW⟩ : ∃ W, W = ((w.alloc (.cells #[.string v.v.name, .slice v.A v.v.d.length v.c] 55)).alloc (.cells #[.slice A n c] 22)).alloc (.cells #[.func (.func 92) #[] #[.pointer (some ⟨w.heap.size, 0, none⟩)]] 103) := ⟨_, rfl⟩
  have hBW : Below w.heap.size w W := by rw [hW]; exact (((Below.refl _ _).alloc (Nat.le_refl _) _).alloc (by simp) _).alloc (by simp; omega) _
  have hsz : W.heap.size = w.heap.size + 3 := by rw [hW]; simp
  have hbv : W.cell? ⟨w.heap.size, 0, none⟩ = some (.string v.v.name) := by rw [hW]; simp [go_sem]
  have hbd : W.cell? ⟨w.heap.size, 1, none⟩ = some (.slice v.A v.v.d.length v.c) := by rw [hW]; simp [go_sem]
  have hba : W.cell? ⟨w.heap.size + 1, 0, none⟩ = some (.slice A n c) := by rw [hW]; simp [go_sem]
  have hbu : W.cell? ⟨w.heap.size + 2, 0, none⟩ = some (.func (.func 92) #[] #[.pointer (some ⟨w.heap.size, 0, none⟩)]) := by rw [hW]; simp [go_sem]
  have hB4 : Below W.heap.size W (W.alloc (.cells ((varFs w v vs).flatMap Fl.cells).toArray 106)) := (Below.refl _ _).alloc (Nat.le_refl _) _
  have HC : Hid (Calls Tryz.prog 93 #[.slice (some ⟨w.heap.size + 3, 0, none⟩) 3 3] (W.alloc (.cells ((varFs w v vs).flatMap Fl.cells).toArray 106)) fun e w' => e = .returned (.int .i64 (varE (vs.map (·.v)) v.v)) ∧ Below (W.alloc (.cells ((varFs w v vs).flatMap Fl.cells).toArray 106)).heap.size (W.alloc (.cells ((varFs w v vs).flatMap Fl.cells).toArray 106)) w') := by
    rw [← varFs_E w v vs, ← hsz]
    refine first_any (varFs w v vs) _ 3 3 _ ?_ rfl (by decide) (fun f hf => ?_) (fun k f hk hfs => ?_)
    · have := src_cells W ((varFs w v vs).flatMap Fl.cells).toArray 106
      simpa using this
    · simp only [varFs, List.mem_cons, List.mem_nil_iff, or_false] at hf
      rcases hf with rfl | rfl | rfl
      · exact enters_of Tryz.func94 (by kernel_rfl) rfl
      · exact enters_of Tryz.func96 (by kernel_rfl) rfl
      · exact enters_of Tryz.func98 (by kernel_rfl) rfl
    · match k, hk with
      | 0, hk => injection hk with hk; subst hk; exact (cv2_any W _ v.v.name hbv).keep hB4
      | 1, hk => injection hk with hk; subst hk; exact (cv3_any W _ _ w.heap.size v.v.name A c n vs hba hbu hbv (hr.below hBW) hn hl).keep hB4
      | 2, hk => injection hk with hk; subst hk; exact (cv4_any W _ v.A v.c v.v.d.length v.v.d hbd (h.rd.below hBW) rfl h.len).keep hB4
      | k + 3, hk => simp [varFs] at hk
  have HB5 : Hid (Below w.heap.size w (W.alloc (.cells ((varFs w v vs).flatMap Fl.cells).toArray 106))) := bstep hBW hB4
  clear hbv hbd hba hbu hB4 h hr hn hBW hsz
  have hX : ∃ X, X = W.alloc (.cells ((varFs w v vs).flatMap Fl.cells).toArray 106) := ⟨_, rfl⟩
  obtain ⟨X, hX⟩ := hX
  rw [← hX] at HC HB5
  simp only [varFs, Fl.cells, List.flatMap_cons, List.flatMap_nil, List.cons_append, List.nil_append] at hX
  rw [hW] at hX
  generalize varE (vs.map (·.v)) v.v = ER at *
  clear hW
  go_enter Tryz.func73, Tryz.ntmps73
  go_wp2_with fail
  rw [← hX]
  refine HC.out.mono ?_
  rintro e w1 ⟨rfl, hb1⟩
  have hB1 := bstep HB5.out hb1
  clear hX HC
  go_wp2
  go_ret
  exact ⟨rfl, hB1⟩
end Go.Proofs.YtkoenibdkgchhaaGreat
/- Contracts of model.Same and of what it calls. -/
namespace Go.Proofs.YtkoenibdkgchhaaGreat
open Go.ChangeShapes Go.WideShapes Go.ChangeAt Go.RowKit Go.Shelf
set_option linter.unusedVariables false
set_option maxRecDepth 100000
set_option linter.unusedSimpArgs false

def eqF {α : Type} (p : α → α → Bool) (a b : List α) : Bool := decide (a.length = b.length) && !((a.zip b).any fun z => !p z.1 z.2)
theorem eqF_map {α β : Type} [DecidableEq β] (f : α → β) (a b : List α) : eqF (fun x y => decide (f x = f y)) a b = decide (a.map f = b.map f) := by
  unfold eqF
  induction a generalizing b with
  | nil => cases b <;> simp
  | cons x a ih =>
    cases b with
    | nil => simp
    | cons y b =>
      have := ih b
      simp only [List.zip_cons_cons, List.any_cons, List.length_cons, List.map_cons, Nat.add_right_cancel_iff, List.cons.injEq, Bool.not_or, Bool.not_not] at this ⊢
      by_cases h : f x = f y
      · simp only [h, decide_true, true_and, Bool.true_and]; exact this
      · simp [h]
theorem zip_at {α : Type} {a b : List α} {k : Nat} {x y : α} (hx : a[k]? = some x) (hy : b[k]? = some y) : (a.zip b)[k]? = some (x, y) := by
  rw [List.getElem?_zip_eq_some]; exact ⟨hx, hy⟩
end Go.Proofs.YtkoenibdkgchhaaGreat
/- Contracts of model.sameVar, sameCon, Same. -/
namespace Go.Proofs.YtkoenibdkgchhaaGreat
open Go.ChangeShapes Go.WideShapes Go.ChangeAt Go.RowKit Go.Shelf
set_option linter.unusedVariables false
set_option maxRecDepth 100000
set_option linter.unusedSimpArgs false

def sameC (x y : Cm) : Bool := decide (x.kind = y.kind) && (decide (x.op = y.op) && (decide (x.rhs = y.rhs) && (decide (x.b = y.b) && (sameL x.vars.l y.vars.l && (sameL x.coefs.l y.coefs.l && eqF (fun s t : Sn => sameL s.l t.l) x.rows y.rows)))))
theorem sameC_eq (x y : Cm) : sameC x y = decide (x.v = y.v) := by
  unfold sameC
  have e : eqF (fun s t : Sn => sameL s.l t.l) x.rows y.rows = decide (x.rows.map (·.l) = y.rows.map (·.l)) := eqF_map (fun s : Sn => s.l) x.rows y.rows
  rw [e]
  unfold sameL
  simp only [← Bool.decide_and]
  congr 1
  unfold Cm.v
  simp only [ConV.mk.injEq]
  apply propext
  constructor
  · rintro ⟨h1, h2, h3, h4, h5, h6, h7⟩; exact ⟨h1, h5, h6, h2, h3, h7, h4⟩
  · rintro ⟨h1, h5, h6, h2, h3, h7, h4⟩; exact ⟨h1, h2, h3, h4, h5, h6, h7⟩
end Go.Proofs.YtkoenibdkgchhaaGreat
/- Contract of model.Same. -/
namespace Go.Proofs.YtkoenibdkgchhaaGreat
open Go.ChangeShapes Go.WideShapes Go.ChangeAt Go.RowKit Go.Shelf
set_option linter.unusedVariables false
set_option maxRecDepth 100000
set_option linter.unusedSimpArgs false

def sameM (x y : Mm) : Bool := eqF (fun s t : Vm => decide (s.v = t.v)) x.vs y.vs && (eqF (fun s t : Cm => decide (s.v = t.v)) x.cs y.cs && (decide (x.g.kind = y.g.kind) && (sameL x.g.vars.l y.g.vars.l && sameL x.g.coefs.l y.g.coefs.l)))
theorem sameM_eq (x y : Mm) : sameM x y = decide (x.v = y.v) := by
  unfold sameM
  rw [eqF_map (fun s : Vm => s.v), eqF_map (fun s : Cm => s.v)]
  unfold sameL
  simp only [← Bool.decide_and]
  congr 1
  unfold Mm.v Gm.v
  simp only [ModV.mk.injEq, GoalV.mk.injEq]
end Go.Proofs.YtkoenibdkgchhaaGreat
/- Contract of the reference's Name. -/
namespace Go.Proofs.YtkoenibdkgchhaaGreat
open Go.ChangeShapes Go.WideShapes Go.ChangeAt Go.RowKit Go.Shelf
set_option linter.unusedVariables false
set_option maxRecDepth 100000

theorem str_ne (s : ByteArray) : (s.toList != []) = decide (0 < s.size) := by
  rw [ByteArray.toList_eq]
  obtain ⟨⟨l⟩⟩ := s
  cases l with
  | nil => rfl
  | cons a l =>
    rw [decide_eq_true (by simp [ByteArray.size])]
    simp
set_option maxHeartbeats 1000000 in
theorem RName_any (s : ByteArray) (w : World) (hs : s.size ≤ maxLen) : Calls Tryz.prog 49 #[.string s] w fun e w' => e = .returned (.bool (nameV s)) ∧ w = w' := by
  unfold maxLen at hs
  go_enter Tryz.func49, Tryz.ntmps49
  go_wp2
  go_loop [3] (fun i => ∃ k : Nat, k ≤ s.size ∧ i = .int .i64 k ∧ Hid (nameTo s k = true)) (fun i => s.size - (intOf i).toNat)
  case atStart => exact ⟨0, Nat.zero_le _, rfl, rfl⟩
  case round =>
    obtain ⟨k, hk, rfl, HT⟩ := hrel
    by_cases hlt : k < s.size
    · have HG := hid (get_at hlt)
      have HB := hid (nameB_iff (k == 0) (s.get! k))
      have HS := hid (nameTo_succ s k)
      rw [HT.out] at HS
      have HE : Hid (nameB (k == 0) (s.get! k) = false → nameV s = false) := fun h => by unfold nameV; rw [nameTo_stop hlt h]; rfl
      rw [HG.out] at HB HS HE
      clear HG HT
      by_cases h1 : (97 : Int) ≤ (s[k].toNat : Int) ∧ (s[k].toNat : Int) ≤ 122
      · obtain ⟨q1, q2⟩ := h1
        have HX : Hid (nameTo s (k + 1) = true) := by
          show _ = _
          rw [HS.out, HB.out, Bool.true_and, decide_eq_true_eq]
          left; omega
        clear HS HB HE
        go_wp2
        go_round
        case rel => exact ⟨k + 1, by omega, by go_num, HX⟩
        case measure => simp [intOf]; omega
      by_cases k0 : k = 0
      · subst k0
        have HX : Hid (nameV s = false) := HE.out (by rw [HB.out]; apply decide_eq_false; simp; omega)
        clear HS HB HE
        by_cases q1 : (97 : Int) ≤ (s[0].toNat : Int)
        · have q2 : ¬ (s[0].toNat : Int) ≤ 122 := by omega
          clear h1
          go_wp2
          go_ret
          exact ⟨by rw [HX.out]; rfl, rfl⟩
        · clear h1
          go_wp2
          go_ret
          exact ⟨by rw [HX.out]; rfl, rfl⟩
      have kz : ((k : Int) == 0) = false := by simp; omega
      have kb : (k == 0) = false := by simp; omega
      rw [kb] at HB HS HE
      by_cases h5 : (s[k].toNat : Int) = 95
      · have HX : Hid (nameTo s (k + 1) = true) := by
          show _ = _
          rw [HS.out, HB.out, Bool.true_and, decide_eq_true_eq]
          right; exact ⟨rfl, by left; omega⟩
        have h5' : ((s[k].toNat : Int) != 95) = false := by simp; omega
        have q1 : ¬ (97 : Int) ≤ (s[k].toNat : Int) := by omega
        clear HS HB HE h1 kb h5
        go_wp2
        go_round
        case rel => exact ⟨k + 1, by omega, by go_num, HX⟩
        case measure => simp [intOf]; omega
      have h5' : ((s[k].toNat : Int) != 95) = true := by simp; omega
      by_cases h6 : (48 : Int) ≤ (s[k].toNat : Int) ∧ (s[k].toNat : Int) ≤ 57
      · obtain ⟨q3, q4⟩ := h6
        have HX : Hid (nameTo s (k + 1) = true) := by
          show _ = _
          rw [HS.out, HB.out, Bool.true_and, decide_eq_true_eq]
          right; exact ⟨rfl, by right; omega⟩
        have q1 : ¬ (97 : Int) ≤ (s[k].toNat : Int) := by omega
        clear HS HB HE h1 kb h5
        go_wp2
        go_round
        case rel => exact ⟨k + 1, by omega, by go_num, HX⟩
        case measure => simp [intOf]; omega
      · have HX : Hid (nameV s = false) := HE.out (by rw [HB.out]; apply decide_eq_false; simp; omega)
        clear HS HB HE kb h5
        by_cases q1 : (97 : Int) ≤ (s[k].toNat : Int)
        · have q2 : ¬ (s[k].toNat : Int) ≤ 122 := by omega
          have q3 : ¬ (s[k].toNat : Int) < 48 := by omega
          have q4 : (57 : Int) < (s[k].toNat : Int) := by omega
          clear h1 h6
          go_wp2
          go_ret
          exact ⟨by rw [HX.out]; rfl, rfl⟩
        · by_cases q3 : (s[k].toNat : Int) < 48
          · clear h1 h6
            go_wp2
            go_ret
            exact ⟨by rw [HX.out]; rfl, rfl⟩
          · have q4 : (57 : Int) < (s[k].toNat : Int) := by omega
            clear h1 h6
            go_wp2
            go_ret
            exact ⟨by rw [HX.out]; rfl, rfl⟩
    · obtain rfl : k = s.size := by omega
      have HN : Hid (nameV s = (decide (0 < s.size) && decide (s.size ≤ 16))) := by show _ = _; unfold nameV; rw [HT.out, Bool.true_and]
      have hq := str_ne s
      clear HT
      by_cases hz : 0 < s.size
      · have hq : (s.toList != []) = true := by rw [hq]; exact decide_eq_true hz
        have hq2 : ¬ s.toList = [] := by simpa using hq
        have hq3 : s.toList.isEmpty = false := by simpa using hq2
        have hq4 : (!s.toList.isEmpty) = true := by simpa using hq2
        have HX : Hid (nameV s = decide ((s.size : Int) ≤ 16)) := by
          show _ = _
          rw [HN.out, decide_eq_true hz, Bool.true_and]
          by_cases h : s.size ≤ 16
          · rw [decide_eq_true h, decide_eq_true (by omega)]
          · rw [decide_eq_false h, decide_eq_false (by omega)]
        go_wp2
        go_ret
        exact ⟨by rw [HX.out]; rfl, rfl⟩
      · have hq : (s.toList != []) = false := by rw [hq]; exact decide_eq_false hz
        have hq2 : s.toList = [] := by simpa using hq
        have hq3 : s.toList.isEmpty = true := by simpa using hq2
        have HX : Hid (nameV s = false) := by show _ = _; rw [HN.out, decide_eq_false hz]; rfl
        go_wp2
        go_ret
        exact ⟨by rw [HX.out]; rfl, rfl⟩
end Go.Proofs.YtkoenibdkgchhaaGreat
