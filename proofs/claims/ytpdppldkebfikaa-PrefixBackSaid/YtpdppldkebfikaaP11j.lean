/-
  Layer 11: the document's examples.
-/
import Derived.Test.YtpdppldkebfikaaP11c
import Derived.Test.YtpdppldkebfikaaP11d
import Derived.Test.YtpdppldkebfikaaP11g
import Derived.Test.YtpdppldkebfikaaTXC
import Derived.Test.YtpdppldkebfikaaCS
namespace Go.Proofs.Ytpdppldkebfikaa
open Go.RowKit

theorem ex11_enc : pencR [[97, 98], [97, 98, 99], [98]] = ([3, 0, 2, 97, 98, 2, 1, 99, 0, 1, 98], 0) := by decide +kernel
theorem ex11_dec : pdec [3, 0, 2, 97, 98, 2, 1, 99, 0, 1, 98] = ([[97, 98], [97, 98, 99], [98]], 0) := by decide +kernel
theorem ex11_seek : seekR [3, 0, 2, 97, 98, 2, 1, 99, 0, 1, 98] [97, 98, 98] = (1, 0) := by decide +kernel

set_option maxHeartbeats 3200000 in
set_option maxRecDepth 100000 in
/-- The document's examples hold. -/
theorem alive11 (w : World) : Calls Try.prog 28 #[] w fun e w' => e = .returned (.bool true) ∧ Ext w w' := by
  have kc := conv_const
  have hE : ∀ (W : World) o, Ext W (W.alloc o) := fun W o => (Ext.refl W).alloc o
  have uW : U8 [3, 0, 2, 97, 98, 2, 1, 99, 0, 1, 98] := by decide
  go_enter Try.func28, Try.ntmps28
  go_wp2_with fail
  refine (pencode_any _ 3 3 [⟨some ⟨w.heap.size + 1, 0, none⟩, 2, [97, 98]⟩, ⟨some ⟨w.heap.size + 1 + 1, 0, none⟩, 3, [97, 98, 99]⟩, ⟨some ⟨w.heap.size + 1 + 1 + 1, 0, none⟩, 1, [98]⟩] _ ?_ (by omega)).mono ?_
  · refine ⟨RdL.of_block (e := 34) (heap_at (by simp)) rfl, ?_⟩
    intro s hs
    simp only [List.mem_cons, List.not_mem_nil, or_false] at hs
    rcases hs with rfl | rfl | rfl
    · exact TxI.of ((((Rd.mark_at .u8 5 (2, 3) _ [97, 98] (by simp) rfl).ext (hE _ _)).ext (hE _ _)).ext (hE _ _)) (by decide) (by decide) (by decide) (by decide)
    · exact TxI.of (((Rd.mark_at .u8 5 (3, 4) _ [97, 98, 99] (by simp) rfl).ext (hE _ _)).ext (hE _ _)) (by decide) (by decide) (by decide) (by decide)
    · exact TxI.of ((Rd.mark_at .u8 5 (1, 2) _ [98] (by simp) rfl).ext (hE _ _)) (by decide) (by decide) (by decide) (by decide)
  rintro e w1 ⟨A1, c1, rfl, hown1, he1⟩
  have h0 : Ext (w.alloc (.cells #[.int .u8 3, .int .u8 0, .int .u8 2, .int .u8 97, .int .u8 98, .int .u8 2, .int .u8 1, .int .u8 99, .int .u8 0, .int .u8 1, .int .u8 98] 5)) w1 := ((((hE _ _).trans (hE _ _)).trans (hE _ _)).trans (hE _ _)).trans he1
  have r1 := (Rd.lit_at .u8 5 w [3, 0, 2, 97, 98, 2, 1, 99, 0, 1, 98] (b := w.heap.size) (n := 11) rfl rfl).ext h0
  have hE1 : Ext w w1 := (hE _ _).trans h0
  rw [show bodies [(⟨some ⟨w.heap.size + 1, 0, none⟩, 2, [97, 98]⟩ : Sl), ⟨some ⟨w.heap.size + 1 + 1, 0, none⟩, 3, [97, 98, 99]⟩, ⟨some ⟨w.heap.size + 1 + 1 + 1, 0, none⟩, 1, [98]⟩] = [[97, 98], [97, 98, 99], [98]] from rfl, ex11_enc] at hown1 ⊢
  simp only at hown1 ⊢
  have hr1 := hown1.rd' (n := 11) rfl
  rw [show ([3, 0, 2, 97, 98, 2, 1, 99, 0, 1, 98] : List Nat).length = 11 from rfl]
  clear h0 he1 hown1
  go_wp2_with fail
  refine (pdecode11_any _ 11 11 _ _ r1 uW (by omega) (by omega) (by omega)).mono ?_
  rintro e w2 ⟨A2, c2, ts, rfl, hb2, hrow2, htx2, he2⟩
  rw [ex11_dec] at hb2 ⊢
  simp only at hb2 ⊢
  have hl2 : ts.length = 3 := by rw [← bodies_len, hb2]; rfl
  have hrd2 := hrow2.rdL
  rw [hl2] at hrd2 ⊢
  obtain ⟨b, o, s, rfl, hf, hc⟩ := hrd2.at_ (j := 1) (by omega)
  have hsb : s.body = [97, 98, 99] := by
    have := bodies_at hf
    rw [hb2] at this
    simp at this
    exact this.symm
  have hrs := htx2.rd s (List.mem_of_getElem? hf)
  rw [hsb] at hrs hc
  rw [show ([97, 98, 99] : List Nat).length = 3 from rfl] at hrs hc
  obtain ⟨sA, sc, sb⟩ := s
  simp only at hrs hc
  clear hb2 hrow2 htx2 hrd2 hf hsb hl2
  have r2 := r1.ext he2
  have hr2 := hr1.ext he2
  have hE2 := hE1.trans he2
  clear r1 hr1 hE1 he2
  go_wp2_with fail
  refine (pseek_any _ 11 11 _ 3 3 _ [97, 98, 98] _ (r2.ext (hE _ _)) uW (by omega) (by omega) (by omega) (Rd.mark_at .u8 5 _ w2 [97, 98, 98] rfl rfl) (by decide) (by omega)).mono ?_
  rintro e w3 ⟨rfl, he3⟩
  rw [ex11_seek]
  have hE23 : Ext w2 w3 := (hE _ _).trans he3
  have r3 := r2.ext hE23
  have hr3 := hr2.ext hE23
  have hs3 := hrs.ext hE23
  have hc3 : w3.cell? ⟨b, o + 1, none⟩ = some (.slice sA 3 sc) := (hE23.cells b (o + 1) (World.block_lt_of_cell? _ _ hc)).trans hc
  have hE3 := hE2.trans hE23
  have kst := fun q => conv_str (c := sc) (hs3.drewN q)
  have kst0 := conv_str (c := sc) hs3
  have kss : sstr [97, 98, 99] = ⟨#[97, 98, 99]⟩ := rfl
  rw [kss] at kst kst0
  clear r2 hr2 hrs hc he3 kss
  go_wp2_with fail
  refine (same_any _ _ 11 _ 11 _ _ _ _ hr3 r3 (by omega) (by omega)).mono ?_
  rintro e w4 ⟨rfl, q, rfl⟩
  rw [show decide (([3, 0, 2, 97, 98, 2, 1, 99, 0, 1, 98] : List Nat) = [3, 0, 2, 97, 98, 2, 1, 99, 0, 1, 98]) = true from rfl]
  go_wp2_with fail
  go_ret
  exact ⟨rfl, hE3.drewN q⟩

end Go.Proofs.Ytpdppldkebfikaa
