/-
  Layer 8: numbers split into runs, the program's and the document's.
-/
import Derived.Test.YtoefhblojoaikaaR8a
import Derived.Test.YtoefhblojoaikaaM8
import Derived.OneCell
namespace Go.Proofs.Ytoefhblojoaikaa
open Go.RowKit

theorem Try.infoRun : (Try.prog.info? 33).map (fun i => (i.zero, i.size, i.bytes)) = some (some (.agg #[.int .i64 0, .int .i64 0]), 2, 16) := by kernel_rfl

/-- A row lies in another block than one whose elements are of another type. -/
theorem OwnG.ne_block {T : Type} {s : Shape T} {e t : TypeId} {w : World} {base c g : Nat} {A : Option Addr} {xs : List T} {cs : Array Value} {fr : Nat × Nat} (h : OwnG s e w base A c xs) (hg : w.heap[g]? = some (.cells cs t fr)) (hne : t ≠ e) : ∀ a, A = some a → a.block ≠ g := by
  rintro a rfl hag
  rcases h.2 with ⟨hv, _⟩ | ⟨g', cap, cur, hv, _, hh, _⟩
  · injection hv with hA; cases hA
  · injection hv with hA
    injection hA with hA
    subst hA
    simp only at hag
    subst hag
    rw [hh] at hg
    injection hg with hg
    injection hg with _ h2 _
    exact hne h2.symm

theorem grown_setCellG (w : World) (g i : Nat) (v : Value) : w.grownBy (w.setCell ⟨g, i, none⟩ v) (some g) :=
  ⟨rfl, rfl, rfl, by simp [World.setCell], fun k _ hne => heap_setCell_other w ⟨g, i, none⟩ k v (fun e => hne (by rw [e]))⟩

/-- What gather leaves: the gatherer's block g holds the row with one number more; nothing below base has turned. -/
def GathPost (g base : Nat) (rs : List (Int × Int)) (w0 : World) (e : Ending) (w' : World) : Prop :=
  ∃ A' c', e = .returned (.tuple #[]) ∧ w'.heap[g]? = some (.cells #[.slice A' rs.length c'] 62) ∧ OwnG shR 33 w' base A' c' rs ∧ Below base w0 w'

/-- Behind the append: the gatherer's block still holds the old row; stored anew it holds the new one. -/
theorem gath_store {g base n c1 : Nat} {A A1 : Option Addr} {c : Nat} {rs rs' : List (Int × Int)} {w0 W w1 : World} (hg : W.heap[g]? = some (.cells #[.slice A n c] 62)) (hgb : base ≤ g) (hown : OwnG shR 33 W base A c rs)
    (hgr : W.grownBy w1 (Value.slice A n c).ownBlock) (hown1 : OwnG shR 33 w1 base A1 c1 rs') (hb : Below base w0 w1) :
    w1.cell? ⟨g, 0, none⟩ = some (.slice A n c) ∧ w1.frozen? ⟨g, 0, none⟩ = false ∧ (w1.setCell ⟨g, 0, none⟩ (.slice A1 rs'.length c1)).heap[g]? = some (.cells #[.slice A1 rs'.length c1] 62) ∧
      OwnG shR 33 (w1.setCell ⟨g, 0, none⟩ (.slice A1 rs'.length c1)) base A1 c1 rs' ∧ Below base w0 (w1.setCell ⟨g, 0, none⟩ (.slice A1 rs'.length c1)) := by
  have hgl : g < W.heap.size := (Array.getElem?_eq_some_iff.1 hg).1
  have h1 : w1.heap[g]? = some (.cells #[.slice A n c] 62) := by
    rw [hgr.block g hgl ?_]
    · exact hg
    · cases A with
      | none => simp [Value.ownBlock]
      | some a =>
        have := hown.ne_block hg (by decide) a rfl
        simp [Value.ownBlock]
        exact fun e => this e.symm
  refine ⟨by rw [cell_of_row w1 g 0 _ _ (0, 0) h1]; rfl, ?_, one_setCell h1, ?_, Below.setCell hb hgb _⟩
  · simp [World.frozen?, h1]
  · refine hown1.grown (grown_setCellG w1 g 0 _) fun a ha e => ?_
    have := hown1.ne_block h1 (by decide) a ha
    simp at e
    exact this e

set_option maxHeartbeats 1600000 in
theorem gather_any (g base : Nat) (A : Option Addr) (c : Nat) (rs : List (Int × Int)) (v : Int) (w : World) (hg : w.heap[g]? = some (.cells #[.slice A rs.length c] 62)) (hgb : base ≤ g) (hown : OwnG shR 33 w base A c rs) (hn : rs.length ≤ 4096) (hc : ∀ r ∈ rs, 0 ≤ r.2 ∧ r.2 ≤ 4096) :
    Calls Try.prog 39 #[.pointer (some ⟨g, 0, none⟩), .int .i64 v] w (GathPost g base (gat rs v) w) := by
  have hgl : g < w.heap.size := (Array.getElem?_eq_some_iff.1 hg).1
  have hg0 : w.cell? ⟨g, 0, none⟩ = some (.slice A rs.length c) := by rw [cell_of_row w g 0 _ _ (0, 0) hg]; rfl
  have hX : ∀ o, Ext w (w.alloc o) := fun o => (Ext.refl w).alloc o
  rcases snoc_or rs with rfl | ⟨a, ⟨u, k⟩, rfl⟩
  · have hG := Lib.hid hg
    have hO := Lib.hid hown
    clear hg hown
    go_enter Try.func39, Try.ntmps39
    go_wp2_with (at_builtin; refine wpList_pushG (w0 := w) (base := base) shR (v, 1) 33 rfl _ _ 25 rfl _ 16 Try.underlying25 Try.infoRun rfl (by decide) (hO.out.ext (hX _)) 0 rfl rfl rfl (heap_alloc_new _ _) (by omega) (by omega) (Below.alloc (Below.refl _ _) (by omega) _) (by simp; omega) ?_; intro A1 c1 w1 hown1 hgr hb1 hz1; obtain ⟨q1, q2, q3, q4, q5⟩ := gath_store (((hX _).block g hgl).trans hG.out) hgb (hO.out.ext (hX _)) hgr hown1 hb1; have Q3 := Lib.hid q3; have Q4 := Lib.hid q4; have Q5 := Lib.hid q5; clear q3 q4 q5 hown1 hgr hb1)
    go_end0
    exact ⟨A1, c1, rfl, Q3.out, Q4.out, Q5.out⟩
  · have hlen : (a ++ [(u, k)]).length = a.length + 1 := by simp
    rw [hlen] at hg hg0 hn
    obtain ⟨b, x, rfl, hbb, hbl, hxj, hcell, hfr, hst⟩ := hown.at_ (j := a.length) (by simp)
    rw [List.getElem?_append_right (Nat.le_refl _), Nat.sub_self] at hxj
    simp at hxj
    subst hxj
    have hc0 := hcell 0 _ rfl
    have hc1 := hcell 1 _ rfl
    rw [show a.length * shR.sz + 0 = a.length * 2 from rfl] at hc0
    rw [show a.length * shR.sz + 1 = a.length * 2 + 1 from rfl] at hc1
    have hf1 := hfr (a.length * 2 + 1)
    have hk := hc (u, k) (by simp)
    simp only at hk hc0 hc1
    by_cases huv : u = v
    · subst huv
      rw [gat_same]
      obtain ⟨h1, h2⟩ := hst 1 (u, k + 1) (.int .i64 (k + 1)) (by decide) rfl
      rw [show a.length * shR.sz + 1 = a.length * 2 + 1 from rfl] at h1 h2
      rw [List.set_append_right _ _ (Nat.le_refl _), Nat.sub_self, List.set_cons_zero] at h1
      have hgn : (w.setCell ⟨b, a.length * 2 + 1, none⟩ (.int .i64 (k + 1))).heap[g]? = some (.cells #[.slice (some ⟨b, 0, none⟩) (a.length + 1) c] 62) := by
        rw [heap_setCell_other w ⟨b, a.length * 2 + 1, none⟩ g _ (fun e => hown.ne_block hg (by decide) _ rfl e.symm)]; exact hg
      have hBn : Below base w (w.setCell ⟨b, a.length * 2 + 1, none⟩ (.int .i64 (k + 1))) := Below.setCell (Below.refl _ _) hbb _
      have H1 := Lib.hid h1
      have Hgn := Lib.hid hgn
      have HBn := Lib.hid hBn
      clear h1 h2 hgn hBn hst hcell hfr hown hg hc hlen
      go_enter Try.func39, Try.ntmps39
      go_wp2_with fail
      go_end0
      refine ⟨some ⟨b, 0, none⟩, c, rfl, ?_, H1.out, HBn.out⟩
      rw [show (a ++ [(u, k + 1)]).length = a.length + 1 from by simp]
      exact Hgn.out
    · rw [gat_new huv]
      have hG := Lib.hid hg
      have hO := Lib.hid hown
      have Hlen := Lib.hid hlen
      have hne : (u == v) = false := by simpa using huv
      have HL2 := Lib.hid (show (a ++ [(u, k)] ++ [(v, 1)]).length = a.length + 1 + 1 by simp)
      clear hg hown hst hcell hfr hc hlen
      go_enter Try.func39, Try.ntmps39
      go_wp2_with (at_builtin; refine wpList_pushG (w0 := w) (base := base) shR (v, 1) 33 rfl _ _ 25 rfl _ 16 Try.underlying25 Try.infoRun rfl (by decide) (hO.out.ext (hX _)) (a.length + 1) Hlen.out rfl rfl (heap_alloc_new _ _) (by omega) (by omega) (Below.alloc (Below.refl _ _) (by omega) _) (by simp; omega) ?_; intro A1 c1 w1 hown1 hgr hb1 hz1; obtain ⟨q1, q2, q3, q4, q5⟩ := gath_store (((hX _).block g hgl).trans hG.out) hgb (hO.out.ext (hX _)) hgr hown1 hb1; rw [HL2.out] at q3 q4 q5; have Q3 := Lib.hid q3; have Q4 := Lib.hid q4; have Q5 := Lib.hid q5; clear q3 q4 q5 hown1 hgr hb1)
      go_end0
      exact ⟨A1, c1, rfl, by rw [HL2.out]; exact Q3.out, Q4.out, Q5.out⟩

end Go.Proofs.Ytoefhblojoaikaa
