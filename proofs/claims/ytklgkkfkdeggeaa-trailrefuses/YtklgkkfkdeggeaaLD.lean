
/- The calls of dom, for a law that hands domains from one to the next: what is known of a domain in memory, and that each call answers one. -/
import Derived.Test.YtklgkkfkdeggeaaLW
namespace Go.Proofs.Ytklgkkfkdeggeaa
open Go.ChangeShapes Go.WideShapes Go.ChangeAt Go.RowKit
set_option linter.unusedVariables false

/-- the slice at A, of capacity c, holds the domain ds -/
structure Dm (w : World) (A : Option Addr) (c : Nat) (ds : List (Int × Int)) : Prop where
  rd : Rd w A (cR ds)
  cap : ds.length ≤ c
  wf : Wf ds
  vb : Vb ds
theorem Dm.below {w w' : World} {A : Option Addr} {c : Nat} {ds : List (Int × Int)} (h : Dm w A c ds) (hb : Below w.heap.size w w') : Dm w' A c ds := ⟨h.rd.below hb, h.cap, h.wf, h.vb⟩
theorem wfvb_len {ds : List (Int × Int)} (h : Wf ds) (hv : Vb ds) : ds.length ≤ 2097153 := by
  have h1 := wf_len h
  have h2 := sizeR_vals h.lohi
  have h3 := vals_len h hv
  omega
theorem wfvb_size {ds : List (Int × Int)} (h : Wf ds) (hv : Vb ds) : 0 ≤ sizeR ds ∧ sizeR ds ≤ 2097153 := by
  have h2 := sizeR_vals h.lohi
  have h3 := vals_len h hv
  omega
theorem Dm.len {w : World} {A : Option Addr} {c : Nat} {ds : List (Int × Int)} (h : Dm w A c ds) : ds.length ≤ 2097153 := wfvb_len h.wf h.vb
def RetD (ds : List (Int × Int)) (w : World) (e : Ending) (w' : World) : Prop := ∃ A c, e = .returned (.slice A ds.length c) ∧ Dm w' A c ds ∧ Below w.heap.size w w'
def RetDE (ds : List (Int × Int)) (er : Int) (w : World) (e : Ending) (w' : World) : Prop := ∃ A c, e = .returned (.tuple #[.slice A ds.length c, .int .i64 er]) ∧ Dm w' A c ds ∧ Below w.heap.size w w'
theorem RetR.dm {ds : List (Int × Int)} {w : World} {e : Ending} {w' : World} (h : RetR ds w e w') (hw : Wf ds) (hv : Vb ds) : RetD ds w e w' := by
  obtain ⟨A, c, he, hO, hB⟩ := h
  exact ⟨A, c, he, ⟨hO.rd, hO.cap, hw, hv⟩, hB⟩
theorem RetRE.dm {ds : List (Int × Int)} {er : Int} {w : World} {e : Ending} {w' : World} (h : RetRE ds er w e w') (hw : Wf ds) (hv : Vb ds) : RetDE ds er w e w' := by
  obtain ⟨A, c, he, hO, hB⟩ := h
  exact ⟨A, c, he, ⟨hO.rd, hO.cap, hw, hv⟩, hB⟩
theorem Small_dm {A : Option Addr} {c n : Nat} {l : List Int} {w : World} (h : Rd w A (cI l)) (hn : l.length = n) (hl : n ≤ 9223372036854775807) : Calls Try.prog 23 #[.slice A n c] w (RetD (sml l) w) :=
  (Small_any A c n l w h hn hl).mono fun _ _ h => h.dm (sml_wf l) (sml_vb l)
section
variable {w : World} {A B : Option Addr} {c d : Nat} {a b : List (Int × Int)}
theorem meet_wv (ha : Wf a) (va : Vb a) (hb : Wf b) : Wf (meetR a b) ∧ Vb (meetR a b) := by
  obtain ⟨h1, h2⟩ := meetR_spec ha.gp hb.gp
  exact ⟨h1, Vb.of h1 fun v hv => va.mem ((h2 v).1 hv).1⟩
theorem join_wv (ha : Wf a) (va : Vb a) (hb : Wf b) (vb : Vb b) : Wf (joinR a b) ∧ Vb (joinR a b) := by
  obtain ⟨h1, h2⟩ := joinR_spec ha hb
  exact ⟨h1, Vb.of h1 fun v hv => by rcases (h2 v).1 hv with h | h; exact va.mem h; exact vb.mem h⟩
theorem minus_wv (ha : Wf a) (va : Vb a) (hb : Wf b) (vb : Vb b) : Wf (minusR a b) ∧ Vb (minusR a b) := by
  obtain ⟨h1, h2⟩ := minusR_spec ha va hb vb
  exact ⟨h1, Vb.of h1 fun v hv => va.mem ((h2 v).1 hv).1⟩
theorem cut_wv (ha : Wf a) (va : Vb a) (lo hi : Int) : Wf (cutR a lo hi) ∧ Vb (cutR a lo hi) := by
  obtain ⟨h1, h2⟩ := cutR_spec ha lo hi
  exact ⟨h1, Vb.of h1 fun v hv => va.mem ((h2 v).1 hv).1⟩
theorem Meet_dm (h1 : Dm w A c a) (h2 : Dm w B d b) : Calls Try.prog 45 #[.slice A a.length c, .slice B b.length d] w (RetD (meetR a b) w) := by
  have := h1.len; have := h2.len
  obtain ⟨k1, k2⟩ := meet_wv h1.wf h1.vb h2.wf
  exact (Meet_any A B c d _ _ a b w h1.rd h2.rd rfl rfl h1.cap h2.cap (by omega) (by omega)).mono fun _ _ h => h.dm k1 k2
theorem Minus_dm (h1 : Dm w A c a) (h2 : Dm w B d b) : Calls Try.prog 28 #[.slice A a.length c, .slice B b.length d] w (RetD (minusR a b) w) := by
  have := h1.len; have := h2.len
  obtain ⟨k1, k2⟩ := minus_wv h1.wf h1.vb h2.wf h2.vb
  exact (Minus_any A B c d _ _ a b w h1.rd h2.rd rfl rfl h1.cap h2.cap (by omega) (by omega) h2.vb).mono fun _ _ h => h.dm k1 k2
theorem Same_dm (h1 : Dm w A c a) (h2 : Dm w B d b) (r : Bool) (hr : sameR a b = r) : Calls Try.prog 29 #[.slice A a.length c, .slice B b.length d] w fun e w' => e = .returned (.bool r) ∧ Below w.heap.size w w' := by
  have := h1.len; have := h2.len
  subst hr
  exact Same_any A B c d _ _ a b w h1.rd h2.rd rfl rfl (by omega) (by omega)
theorem RSame_dm (h1 : Dm w A c a) (h2 : Dm w B d b) (r : Bool) (hr : sameR a b = r) : Calls Try.prog 32 #[.slice A a.length c, .slice B b.length d] w fun e w' => e = .returned (.bool r) ∧ Below w.heap.size w w' := by
  have := h1.len; have := h2.len
  subst hr
  exact RSame_any A B c d _ _ a b w h1.rd h2.rd rfl rfl (by omega) (by omega)
theorem Size_dm (h1 : Dm w A c a) (z : Int) (hz : sizeR a = z) : Calls Try.prog 39 #[.slice A a.length c] w fun e w' => e = .returned (.int .i64 z) ∧ Below w.heap.size w w' := by
  have := h1.len
  subst hz
  exact Size_any A c _ a w h1.rd rfl (by omega) h1.vb
theorem Check_dm (h1 : Dm w A c a) (z : Int) (hz : checkR a = z) (hl : a.length ≤ 1048576) : Calls Try.prog 22 #[.slice A a.length c] w fun e w' => e = .returned (.int .i64 z) ∧ Below w.heap.size w w' := by
  subst hz
  exact Check_any A c _ a w h1.rd rfl hl
end
theorem ofRes_wv (l : List Int) : Wf (ofRes l) ∧ Vb (ofRes l) := by
  unfold ofRes
  split
  · rename_i h
    split
    · exact ⟨trivial, fun r hr => by (cases hr)⟩
    · obtain ⟨h1, h2⟩ := dm_spec l
      exact ⟨h1, Vb.of h1 fun v hv => all_vl h v ((h2 v).1 hv)⟩
  · exact ⟨trivial, fun r hr => by (cases hr)⟩
theorem lineRes_wv (ds : List (Int × Int)) (a b : Int) : Wf (lineRes ds a b) ∧ Vb (lineRes ds a b) := by
  unfold lineRes; split
  · exact ofRes_wv _
  · exact ⟨trivial, fun r hr => by (cases hr)⟩
theorem backRes_wv (ds : List (Int × Int)) (a b : Int) : Wf (backRes ds a b) ∧ Vb (backRes ds a b) := by
  unfold backRes; split
  · exact ofRes_wv _
  · exact ⟨trivial, fun r hr => by (cases hr)⟩
end Go.Proofs.Ytklgkkfkdeggeaa
