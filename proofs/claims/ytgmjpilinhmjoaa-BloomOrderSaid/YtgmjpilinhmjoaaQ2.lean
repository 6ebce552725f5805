/-
  Layer 13: filters: a filter's memory; the program's New, Bits.
-/
import Derived.Test.YtgmjpilinhmjoaaQ1
namespace Go.Proofs.Ytgmjpilinhmjoaa
open Go.RowKit
set_option maxRecDepth 100000

/-- The filter at block g: its row is the block r, of the call's own; its bytes. -/
structure Fil (w : World) (base g r : Nat) (bs : List Nat) : Prop where
  own : ∃ c, Own .u8 5 w base (some ⟨r, 0, none⟩) c bs ∧ w.heap[g]? = some (.cells #[.slice (some ⟨r, 0, none⟩) bs.length c] 55)
  ne : g ≠ r
  big : base ≤ g
  u8 : U8 bs
  lo : 8 ≤ bs.length
  hi : bs.length ≤ 5120

theorem Fil.rlt {w : World} {base g r : Nat} {bs : List Nat} (h : Fil w base g r bs) : base ≤ r ∧ r < w.heap.size := by
  obtain ⟨c, ho, _⟩ := h.own
  exact ho.block _ rfl
theorem Fil.glt {w : World} {base g r : Nat} {bs : List Nat} (h : Fil w base g r bs) : g < w.heap.size := by
  obtain ⟨c, _, hg⟩ := h.own
  exact (Array.getElem?_eq_some_iff.1 hg).1
theorem Fil.ext {w w' : World} {base g r : Nat} {bs : List Nat} (h : Fil w base g r bs) (hb : Ext w w') : Fil w' base g r bs := by
  obtain ⟨c, ho, hg⟩ := h.own
  exact ⟨⟨c, ho.ext hb, (hb.block g h.glt).trans hg⟩, h.ne, h.big, h.u8, h.lo, h.hi⟩
theorem Fil.grown {w w' : World} {base g r : Nat} {bs : List Nat} (h : Fil w base g r bs) {row : Option Nat} (hg : w.grownBy w' row) (h1 : some g ≠ row) (h2 : some r ≠ row) : Fil w' base g r bs := by
  obtain ⟨c, ho, hh⟩ := h.own
  exact ⟨⟨c, ho.grown hg (fun a e => by cases e; exact h2), (hg.block g h.glt h1).trans hh⟩, h.ne, h.big, h.u8, h.lo, h.hi⟩
/-- What a walk needs of a filter: its field's cell, its row. -/
theorem Fil.cell {w : World} {base g r : Nat} {bs : List Nat} (h : Fil w base g r bs) : ∃ c, bs.length ≤ c ∧ c ≤ 9223372036854775807 ∧ w.cell? ⟨g, 0, none⟩ = some (.slice (some ⟨r, 0, none⟩) bs.length c) ∧ Own .u8 5 w base (some ⟨r, 0, none⟩) c bs ∧ Rd .u8 w (some ⟨r, 0, none⟩) bs.length bs := by
  obtain ⟨c, ho, hh⟩ := h.own
  exact ⟨c, ho.cap.1, ho.cap.2, cell_of_row w g 0 _ _ (0, 0) hh, ho, ho.rd⟩

def newLen (n : Int) : Nat := max ((10 * (min (max n 0) 4096) + 7) / 8).toNat 8

set_option maxHeartbeats 400000 in
theorem new_any (n : Int) (w : World) (h1 : -9223372036854775808 ≤ n) (h2 : n ≤ 9223372036854775807) :
    Calls Try.prog 8 #[.int .i64 n] w fun e w' => ∃ g r, e = .returned (.pointer (some ⟨g, 0, none⟩)) ∧ Fil w' w.heap.size g r (List.replicate (newLen n) 0) ∧ Ext w w' := by
  obtain ⟨L, hL⟩ : ∃ L, L = newLen n := ⟨_, rfl⟩
  have hmx : max ((10 * min (max n 0) 4096 + 7) / 8) 8 = (L : Int) := by rw [hL, newLen]; omega
  have hlo : 8 ≤ L := by rw [hL, newLen]; omega
  have hhi : L ≤ 5120 := by rw [hL, newLen]; omega
  rw [← hL]
  have HL := Lib.hid hmx
  clear hL
  go_enter Try.func8, Try.ntmps8
  go_wp2_with (first | (at_make; refine wpList_mk .u8 5 rfl _ _ 23 rfl 1 Try.underlying23 Try.infoU8 _ _ L rfl rfl rfl rfl (by omega) (by omega) ?_; intro w7 hown7 he7) | fail)
  go_ret
  have hs : w.heap.size < w7.heap.size := (hown7.block _ rfl).2
  refine ⟨w7.heap.size, w.heap.size, rfl, ⟨⟨L, hown7.ext ((Ext.refl _).alloc _), ?_⟩, by omega, by omega, ?_, by simpa using hlo, by simpa using hhi⟩, he7.alloc _⟩
  · rw [List.length_replicate]; exact heap_alloc_new _ _
  · intro x hx
    rw [(List.mem_replicate.1 hx).2]; decide

theorem bits_any (base g r : Nat) (bs : List Nat) (w : World) (hf : Fil w base g r bs) :
    Calls Try.prog 15 #[.pointer (some ⟨g, 0, none⟩)] w fun e w' => e = .returned (.int .i64 (8 * bs.length : Nat)) ∧ w = w' := by
  obtain ⟨c, hc1, hc2, hcell, hown, hrd⟩ := hf.cell
  have hlo := hf.lo
  have hhi := hf.hi
  clear hown hrd
  go_enter Try.func15, Try.ntmps15
  go_wp2
  go_ret
  exact ⟨ret_int' (by omega), rfl⟩

end Go.Proofs.Ytgmjpilinhmjoaa
