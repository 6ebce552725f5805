/-
  Layer 5: the document's examples, and the statement CellChecks.
-/
import Derived.Test.YtdnbmffedccakaaE11
import Derived.Lib.SlBytesConst
import Derived.Laws.IdiomStrings
namespace Go.Proofs.Ytdnbmffedccakaa
open Go.RowKit

/-- '[]byte("..")' of a constant: the row gets its mark. -/
theorem conv_const (W : World) (g : Nat) (C : Array Value) (n c : Nat) (hg : W.heap.size = g) :
    (convert 22 22 (.slice (some ⟨g, 0, none⟩) n c)).run Try.prog (W.alloc (.cells C 5)) = .ok (.slice (some ⟨g, 0, none⟩) n c) (W.alloc (.cells C 5 (C.size, C.size + 1))) := by
  subst hg
  exact Lib.run_convert_bytes_const W 22 5 C n c Try.underlying22 Try.underlying5

theorem Rd.mark_at (k : IntKind) (e : TypeId) (fr : Nat × Nat) (w : World) (xs : List Nat) {b n : Nat} (hb : w.heap.size = b) (hn : xs.length = n) : Rd k (w.alloc (.cells (xs.map fun x : Nat => Value.int k (x : Int)).toArray e fr)) (some ⟨b, 0, none⟩) n xs := by
  subst hb
  subst hn
  refine ⟨rfl, fun hn => ⟨w.heap.size, 0, rfl, by simp, fun j hj => ?_⟩⟩
  rw [cell_of_row _ w.heap.size (0 + j) _ e fr (heap_alloc_new w _)]
  simp [hj]

set_option maxHeartbeats 3200000 in
set_option maxRecDepth 100000 in
/-- The document's examples hold. -/
theorem alive5 (w : World) : Calls Try.prog 15 #[] w fun e w' => e = .returned (.bool true) ∧ Ext w w' := by
  have kc := conv_const
  have HA := Lib.hid (show cputL 1 false (-3) [] = [1, 5] from by decide)
  have HA2 := Lib.hid (show chk 1 true false (-3) [] = 0 from by decide)
  have HB := Lib.hid (show cputL 1 false 128 [] = [] from by decide)
  have HB2 := Lib.hid (show chk 1 true false 128 [] = 52 from by decide)
  have HG := Lib.hid (show cget 7 [1, 2, 104, 105] 0 = ⟨false, 0, [104, 105], 4, 0⟩ from by kernel_rfl)
  have HO := Lib.hid (show cmpO 7 false 0 [97] false 0 [97, 98] = -1 from by decide)
  have HO2 := Lib.hid (show cmpE 7 false 0 [97] false 0 [97, 98] = 0 from by decide)
  have HC := Lib.hid (show chk 1 false true 0 [] = 51 from by decide)
  have H6 := Lib.hid (show numK 6 = true from by decide)
  have H7 := Lib.hid (show numK 7 = false from by decide)
  go_enter Try.func15, Try.ntmps15
  go_wp2_with fail
  refine (cput_any 1 false (-3) none 0 0 [] _ (Rd.nil ..) (by decide) (by decide) (by decide) (by decide)).mono ?_
  rintro e w1 ⟨A1, c1, rfl, hown1, he1⟩
  rw [HA.out] at hown1 ⊢
  rw [HA2.out]
  go_wp2_with fail
  refine (cput_any 1 false 128 none 0 0 [] _ (Rd.nil ..) (by decide) (by decide) (by decide) (by decide)).mono ?_
  rintro e w2 ⟨A2, c2, rfl, hown2, he2⟩
  rw [HB.out] at hown2 ⊢
  rw [HB2.out]
  go_wp2_with fail
  have r3 := Rd.lit_at .u8 5 w2 [1, 2, 104, 105] (b := w2.heap.size) (n := 4) rfl rfl
  refine (cget_any _ 4 4 0 7 [1, 2, 104, 105] _ r3 (by decide) (by decide) (by decide) (by decide)).mono ?_
  rintro e w3 ⟨A3, c3, rfl, hown3, he3⟩
  rw [HG.out] at hown3 ⊢
  simp only at hown3 ⊢
  rw [show ([104, 105] : List Nat).length = 2 from rfl]
  have hE3 : Ext w w3 := Ext.trans ((he1.trans he2).alloc _) he3
  go_wp2_with fail
  refine (compare_any 7 false 0 (some ⟨w3.heap.size + 1, 0, none⟩) 1 1 [97] false 0 (some ⟨w3.heap.size + 2, 0, none⟩) 2 2 [97, 98] _ ?_ ?_ (by decide) (by decide) (by decide) (by decide) (by decide) (by decide) (by decide) (by decide)).mono ?_
  · exact (Rd.mark_at .u8 5 _ _ [97] (by simp) rfl).ext ((Ext.refl _).alloc _)
  · exact Rd.mark_at .u8 5 _ _ [97, 98] (by simp) rfl
  rintro e w4 ⟨rfl, he4⟩
  rw [HO.out, HO2.out]
  have hEw : Ext w3 w4 := Ext.trans ((((Ext.refl w3).alloc (.cells #[.bool false, .int .i64 0, .slice A3 2 c3] 24)).alloc _).alloc _) he4
  have hK3 := Ext.kept (Ext.trans (((Ext.refl (w3.alloc (.cells #[.bool false, .int .i64 0, .slice A3 2 c3] 24))).alloc _).alloc _) he4)
  have hz4 : w3.heap.size < w4.heap.size := (Array.getElem?_eq_some_iff.1 hK3).1
  have k2 : w4.cell? ⟨w3.heap.size, 2, none⟩ = some (.slice A3 2 c3) := cell_of_row w4 w3.heap.size 2 _ _ (0, 0) hK3
  have hr1 := (((hown1.rd' (n := 2) rfl).ext he2).ext ((Ext.refl _).alloc _)).ext (he3.trans hEw)
  have hr3 := (hown3.rd' (n := 2) rfl).ext hEw
  have hE4 := hE3.trans hEw
  clear hK3 hown1 hown2 hown3 he1 he2 he3 he4 hE3 hEw
  go_wp2_with fail
  have hX := (Ext.refl w4).alloc (.cells #[.int .u8 1, .int .u8 5] 5)
  refine (same_yes (hr1.ext hX) (Rd.lit .u8 5 w4 [1, 5]) (by decide)).mono ?_
  rintro e w5 ⟨rfl, q, rfl⟩
  obtain ⟨b3, o3, rfl, hb3, hc3⟩ := (hr3.ext (hX.drewN q)).2 (by decide)
  have f0 := hc3 0 (by decide)
  have f1 := hc3 1 (by decide)
  simp only [List.getD_cons_zero, List.getD_cons_succ] at f0 f1
  have hconv : (convert 22 9 (.slice (some ⟨b3, o3, none⟩) 2 c3)).run Try.prog ((w4.alloc (.cells #[.int .u8 1, .int .u8 5] 5)).drewN q) = .ok (.string ⟨#[104, 105]⟩) ((w4.alloc (.cells #[.int .u8 1, .int .u8 5] 5)).drewN q) :=
    run_convert_bytes_back (P := Try.prog) _ 22 9 5 ⟨b3, o3, none⟩ c3 [104, 105] Try.underlying22 Try.underlying5 Try.underlying9 (fun j hj => by
      have hj2 : j < 2 := hj
      rcases (show j = 0 ∨ j = 1 by omega) with rfl | rfl
      · simpa [Addr.add] using f0
      · simpa [Addr.add] using f1)
  clear f0 f1 hc3 kc
  go_wp2_with fail
  refine (number_any 6 _).mono ?_
  rintro e w6 ⟨rfl, rfl⟩
  rw [H6.out]
  go_wp2_with fail
  refine (number_any 7 _).mono ?_
  rintro e w6 ⟨rfl, rfl⟩
  rw [H7.out]
  go_wp2_with fail
  refine (check_any 1 false true 0 none 0 0 [] _ (Rd.nil ..) (by decide) (by decide) (by decide) (by decide)).mono ?_
  rintro e w6 ⟨rfl, he6⟩
  rw [HC.out]
  go_wp2
  go_ret
  exact ⟨rfl, ((hE4.trans hX).drewN q).trans he6⟩

/-- A cell that was handed in. -/
structure Ci where
  nul : Bool
  num : Int
  A : Option Addr
  c : Nat
  txt : List Nat
def Ci.v (x : Ci) : Value := .agg #[.bool x.nul, .int .i64 x.num, .slice x.A x.txt.length x.c]
structure Ci.In (w : World) (x : Ci) : Prop where
  rd : Rd .u8 w x.A x.txt.length x.txt
  u8 : U8 x.txt
  lo : -9223372036854775808 ≤ x.num
  hi : x.num ≤ 9223372036854775807
  len : x.txt.length * 1 ≤ 140737488351232

end Go.Proofs.Ytdnbmffedccakaa
