/-
  Layer 10: the document's examples.
-/
import Derived.Test.YtpdppldkebfikaaD10k
import Derived.Test.YtpdppldkebfikaaD10h
import Derived.Test.YtpdppldkebfikaaTXC
import Derived.Test.YtpdppldkebfikaaCS
namespace Go.Proofs.Ytpdppldkebfikaa
open Go.RowKit

theorem ex10_idx : idxR [[98], [97], [98]] = ([[97], [98]], [1, 0, 1], 0) := by decide +kernel
theorem ex10_enc : dencR [[98], [97], [98]] = ([2, 1, 97, 1, 98, 3, 5], 0) := by decide +kernel
theorem ex10_dec : ddec [2, 1, 97, 1, 98, 3, 5] = ([[98], [97], [98]], 0) := by decide +kernel

theorem ex10_txts (W W0 : World) (g : Nat) (hE : Ext W0 W) (h : ∃ w0 : World, w0.heap.size = g ∧ W0 = ((((w0.alloc (.cells #[.int .u8 98] 5 (1, 2))).alloc (.cells #[.int .u8 97] 5 (1, 2))).alloc (.cells #[.int .u8 98] 5 (1, 2))).alloc (.cells #[.slice (some ⟨g, 0, none⟩) 1 1, .slice (some ⟨g + 1, 0, none⟩) 1 1, .slice (some ⟨g + 1 + 1, 0, none⟩) 1 1] 34))) :
    TxL W (some ⟨g + 1 + 1 + 1, 0, none⟩) 3 [⟨some ⟨g, 0, none⟩, 1, [98]⟩, ⟨some ⟨g + 1, 0, none⟩, 1, [97]⟩, ⟨some ⟨g + 1 + 1, 0, none⟩, 1, [98]⟩] := by
  obtain ⟨w0, hg, rfl⟩ := h
  subst hg
  have hA : ∀ (W : World) o, Ext W (W.alloc o) := fun W o => (Ext.refl W).alloc o
  refine TxL.ext ?_ hE
  refine ⟨RdL.of_block (e := 34) (heap_at (by simp)) rfl, ?_⟩
  intro s hs
  simp only [List.mem_cons, List.not_mem_nil, or_false] at hs
  rcases hs with rfl | rfl | rfl
  · exact TxI.of ((((Rd.mark_at .u8 5 (1, 2) _ [98] (by simp) rfl).ext (hA _ _)).ext (hA _ _)).ext (hA _ _)) (by decide) (by decide) (by decide) (by decide)
  · exact TxI.of (((Rd.mark_at .u8 5 (1, 2) _ [97] (by simp) rfl).ext (hA _ _)).ext (hA _ _)) (by decide) (by decide) (by decide) (by decide)
  · exact TxI.of ((Rd.mark_at .u8 5 (1, 2) _ [98] (by simp) rfl).ext (hA _ _)) (by decide) (by decide) (by decide) (by decide)

set_option maxHeartbeats 3200000 in
set_option maxRecDepth 100000 in
/-- The document's examples hold. -/
theorem alive10 (w : World) : Calls Try.prog 11 #[] w fun e w' => e = .returned (.bool true) ∧ Ext w w' := by
  have kc := conv_const
  have hE : ∀ (W : World) o, Ext W (W.alloc o) := fun W o => (Ext.refl W).alloc o
  have uW : U8 [2, 1, 97, 1, 98, 3, 5] := by decide
  go_enter Try.func11, Try.ntmps11
  go_wp2_with fail
  refine (pindex_any _ 3 3 [⟨some ⟨w.heap.size, 0, none⟩, 1, [98]⟩, ⟨some ⟨w.heap.size + 1, 0, none⟩, 1, [97]⟩, ⟨some ⟨w.heap.size + 1 + 1, 0, none⟩, 1, [98]⟩] _ (ex10_txts _ _ w.heap.size (Ext.refl _) ⟨w, rfl, rfl⟩) (by omega)).mono ?_
  rintro e w1 ⟨A1, c1, us, B, cB, rfl, hb, hown, htx, hnum, he1⟩
  rw [show bodies [(⟨some ⟨w.heap.size, 0, none⟩, 1, [98]⟩ : Sl), ⟨some ⟨w.heap.size + 1, 0, none⟩, 1, [97]⟩, ⟨some ⟨w.heap.size + 1 + 1, 0, none⟩, 1, [98]⟩] = [[98], [97], [98]] from rfl, ex10_idx] at hb hnum ⊢
  simp only at hb hnum ⊢
  rw [show us.length = 2 by rw [← bodies_len, hb]; rfl, show ([1, 0, 1] : List Nat).length = 3 from rfl]
  have hE1 : Ext w w1 := ((((hE _ _).trans (hE _ _)).trans (hE _ _)).trans (hE _ _)).trans he1
  have hn1 := hnum.rd' (n := 3) rfl
  clear hb hown htx hnum he1
  go_wp2_with fail
  refine (dencode_any _ 3 3 [⟨some ⟨w1.heap.size, 0, none⟩, 1, [98]⟩, ⟨some ⟨w1.heap.size + 1, 0, none⟩, 1, [97]⟩, ⟨some ⟨w1.heap.size + 1 + 1, 0, none⟩, 1, [98]⟩] _ (ex10_txts _ _ w1.heap.size (Ext.refl _) ⟨w1, rfl, rfl⟩) (by omega)).mono ?_
  rintro e w2 ⟨A2, c2, rfl, hown2, he2⟩
  rw [show bodies [(⟨some ⟨w1.heap.size, 0, none⟩, 1, [98]⟩ : Sl), ⟨some ⟨w1.heap.size + 1, 0, none⟩, 1, [97]⟩, ⟨some ⟨w1.heap.size + 1 + 1, 0, none⟩, 1, [98]⟩] = [[98], [97], [98]] from rfl, ex10_enc] at hown2 ⊢
  simp only at hown2 ⊢
  rw [show ([2, 1, 97, 1, 98, 3, 5] : List Nat).length = 7 from rfl]
  have hr2 := hown2.rd' (n := 7) rfl
  have hE12 : Ext w1 w2 := ((((hE _ _).trans (hE _ _)).trans (hE _ _)).trans (hE _ _)).trans he2
  have hn2 := hn1.ext hE12
  have hE2 := hE1.trans hE12
  clear hE12 hn1 hE1 he2 hown2
  go_wp2_with fail
  refine (ddecode_any _ 7 7 _ _ (Rd.lit_at .u8 5 w2 [2, 1, 97, 1, 98, 3, 5] rfl rfl) uW (by omega) (by omega) (by omega)).mono ?_
  rintro e w3 ⟨A3, c3, ts, rfl, hb3, hrow3, htx3, he3⟩
  rw [ex10_dec] at hb3 ⊢
  simp only at hb3 ⊢
  have hl3 : ts.length = 3 := by rw [← bodies_len, hb3]; rfl
  have hrd3 := hrow3.rdL
  rw [hl3] at hrd3 ⊢
  obtain ⟨b, o, s, rfl, hf, hc⟩ := hrd3.at_ (j := 2) (by omega)
  have hsb : s.body = [98] := by
    have := bodies_at hf
    rw [hb3] at this
    simp at this
    exact this.symm
  have hrs := htx3.rd s (List.mem_of_getElem? hf)
  rw [hsb] at hrs hc
  rw [show ([98] : List Nat).length = 1 from rfl] at hrs hc
  obtain ⟨sA, sc, sb⟩ := s
  simp only at hrs hc
  have hE23 : Ext w2 w3 := (hE _ _).trans he3
  have hr3 := hr2.ext hE23
  have hn3 := hn2.ext hE23
  have hE3 := hE2.trans hE23
  obtain ⟨B1, oB, hBe, hb0, hcs⟩ := hn3.2 (by omega)
  subst hBe
  have hc0 : w3.cell? ⟨B1, oB, none⟩ = some (.int .i64 1) := hcs 0 (by omega)
  have hc1 : w3.cell? ⟨B1, oB + 1, none⟩ = some (.int .i64 0) := hcs 1 (by omega)
  clear hb3 hrow3 htx3 hrd3 hf hsb hl3 hr2 hn2 hn3 hE2 hE23 he3 hcs
  have kst := fun q => conv_str (c := sc) (hrs.drewN q)
  have kst0 := conv_str (c := sc) hrs
  have kss : sstr [98] = ⟨#[98]⟩ := rfl
  rw [kss] at kst kst0
  clear hrs kss
  go_wp2_with fail
  refine (same_any _ _ 7 _ 7 _ _ _ _ (hr3.ext (hE _ _)) (Rd.lit_at .u8 5 _ [2, 1, 97, 1, 98, 3, 5] rfl rfl) (by omega) (by omega)).mono ?_
  rintro e w4 ⟨rfl, q, rfl⟩
  rw [show decide (([2, 1, 97, 1, 98, 3, 5] : List Nat) = [2, 1, 97, 1, 98, 3, 5]) = true from rfl]
  go_wp2_with fail
  go_ret
  exact ⟨rfl, (hE3.trans (hE _ _)).drewN q⟩

end Go.Proofs.Ytpdppldkebfikaa
