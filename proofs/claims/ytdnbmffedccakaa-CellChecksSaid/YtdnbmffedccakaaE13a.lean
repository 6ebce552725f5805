/-
  Layer 5: the statement CellChecks, walked, where the kind is not below the first.
-/
import Derived.Test.YtdnbmffedccakaaE12
namespace Go.Proofs.Ytdnbmffedccakaa
open Go.RowKit

set_option maxHeartbeats 3200000 in
set_option maxRecDepth 100000 in
theorem checks_two (k : Int) (null : Bool) (x : Ci) (w : World) (hx : x.In w) (N : Bool) (hN : numK k = N)
    (hk : (N = true ∧ decide (1 ≤ k) = true ∧ decide (k ≤ 6) = true) ∨ (N = false ∧ decide (1 ≤ k) = true ∧ decide (k ≤ 6) = false)) :
    Calls Try.prog 3 #[.int .i64 k, .bool null, x.v] w fun e w' => e = .returned (.bool true) ∧ Ext w w' := by
  obtain ⟨nul, num, A, c, txt⟩ := x
  obtain ⟨hrd, hu, h0, h1, hlen⟩ := hx
  simp only [Ci.v] at *
  obtain ⟨n, hn⟩ : ∃ n, n = txt.length := ⟨_, rfl⟩
  rw [← hn] at hrd hlen ⊢
  have HN := Lib.hid hN
  clear hN hn
  have hn1 : n ≤ 140737488355328 := by omega
  have hn2 : n ≤ 281474976710656 := by omega
  obtain ⟨R, hR⟩ : ∃ R, R = chk k null nul num txt := ⟨_, rfl⟩
  have HR := Lib.hid hR
  have bR : (R == R) = true := by simp
  clear hR
  have hE : Ext w (w.alloc (.cells #[.bool nul, .int .i64 num, .slice A n c] 24)) := (Ext.refl w).alloc _
  go_enter Try.func3, Try.ntmps3
  go_wp2_with fail
  refine (alive5 _).mono ?_
  rintro e w1 ⟨rfl, he1⟩
  have hc1 := he1.cells
  go_wp2_with fail
  refine (twin_any nul num A n c txt _ ((hrd.ext hE).ext he1) hn1).mono ?_
  rintro e w2 ⟨A2, c2, rfl, hown2, he2⟩
  obtain ⟨W8, hW8⟩ : ∃ W8, W8 = w2.alloc (.cells #[.bool nul, .int .i64 num, .slice A2 n c2] 24) := ⟨_, rfl⟩
  have hE8 : Ext w2 W8 := by rw [hW8]; exact (Ext.refl _).alloc _
  have K : Hid (∀ w', Ext W8 w' → w'.cell? ⟨w.heap.size, 0, none⟩ = some (.bool nul) ∧ w'.cell? ⟨w.heap.size, 1, none⟩ = some (.int .i64 num) ∧ w'.cell? ⟨w.heap.size, 2, none⟩ = some (.slice A n c) ∧
      w'.cell? ⟨w2.heap.size, 0, none⟩ = some (.bool nul) ∧ w'.cell? ⟨w2.heap.size, 1, none⟩ = some (.int .i64 num) ∧ w'.cell? ⟨w2.heap.size, 2, none⟩ = some (.slice A2 n c2)) := Lib.hid (fun w' he => by
    have h5 := Ext.kept (((he1.trans he2).trans hE8).trans he)
    rw [hW8] at he
    have h7 := Ext.kept he
    exact ⟨cell_of_row w' _ 0 _ _ (0, 0) h5, cell_of_row w' _ 1 _ _ (0, 0) h5, cell_of_row w' _ 2 _ _ (0, 0) h5, cell_of_row w' _ 0 _ _ (0, 0) h7, cell_of_row w' _ 1 _ _ (0, 0) h7, cell_of_row w' _ 2 _ _ (0, 0) h7⟩)
  have hA := (((hrd.ext hE).ext he1).ext he2).ext hE8
  have hB := (hown2.rd' (n := n) (hrd.len)).ext hE8
  have hE2 := ((hE.trans he1).trans he2).trans hE8
  have HCk : Hid (∀ W, Ext W8 W → Calls Try.prog 17 #[.int .i64 k, .bool null, .agg #[.bool nul, .int .i64 num, .slice A2 n c2]] W fun e w' => e = .returned (.int .i64 R) ∧ Ext W w') := Lib.hid (fun W hW => by
    rw [HR.out]; exact check_any k null nul num A2 n c2 txt W (hB.ext hW) hu h0 h1 hn1)
  have HCr : Hid (∀ W, Ext W8 W → Calls Try.prog 18 #[.int .i64 k, .bool null, .agg #[.bool nul, .int .i64 num, .slice A n c]] W fun e w' => e = .returned (.int .i64 R) ∧ Ext W w') := Lib.hid (fun W hW => by
    rw [HR.out]; exact refCheck_any k null nul num A n c txt W (hA.ext hW) h0 h1 hn1)
  have HNm : Hid (∀ W, Calls Try.prog 19 #[.int .i64 k] W fun e w' => e = .returned (.bool N) ∧ W = w') := Lib.hid (fun W => by
    rw [← HN.out]; exact number_any k W)
  have HAl : Hid (∀ W, Ext W8 W → Calls Try.prog 20 #[.agg #[.bool nul, .int .i64 num, .slice A2 n c2], .agg #[.bool nul, .int .i64 num, .slice A n c]] W fun e w' => e = .returned (.bool true) ∧ Ext W w') := Lib.hid (fun W hW =>
    alike_yes nul num A2 n c2 txt A n c W (hB.ext hW) (hA.ext hW) hn2)
  clear hc1
  go_wp2_with fail
  rw [← hW8]
  have g8 := K.out _ (Ext.refl W8)
  clear hW8 hrd hown2 he1 he2 hE8 hA hB
  rcases hk with ⟨rfl, k1, k2⟩ | ⟨rfl, k1, k2⟩
  · go_region_held3 (fun w' => w'.cell? ⟨w.heap.size, 0, none⟩ = some (.bool nul) ∧ w'.cell? ⟨w.heap.size, 1, none⟩ = some (.int .i64 num) ∧ w'.cell? ⟨w.heap.size, 2, none⟩ = some (.slice A n c) ∧
        w'.cell? ⟨w2.heap.size, 0, none⟩ = some (.bool nul) ∧ w'.cell? ⟨w2.heap.size, 1, none⟩ = some (.int .i64 num) ∧ w'.cell? ⟨w2.heap.size, 2, none⟩ = some (.slice A2 n c2))
      (first | exact g8 | (refine K.out _ ?_; (repeat (first | exact Ext.refl _ | (with_reducible refine Ext.trans ?_ he5) | (with_reducible refine Ext.trans ?_ he4) | (with_reducible refine Ext.trans ?_ he3) | apply Ext.drew | apply Ext.alloc | fail))) | fail)
      (first
        | (go_at_call 17; (with_reducible refine (HCk.out _ ?_).mono ?_); (focus ((repeat (first | exact Ext.refl _ | (with_reducible refine Ext.trans ?_ he5) | (with_reducible refine Ext.trans ?_ he4) | (with_reducible refine Ext.trans ?_ he3) | apply Ext.drew | apply Ext.alloc | fail)); done)); rintro e w3 ⟨rfl, he3⟩)
        | (go_at_call 18; (with_reducible refine (HCr.out _ ?_).mono ?_); (focus ((repeat (first | exact Ext.refl _ | (with_reducible refine Ext.trans ?_ he5) | (with_reducible refine Ext.trans ?_ he4) | (with_reducible refine Ext.trans ?_ he3) | apply Ext.drew | apply Ext.alloc | fail)); done)); rintro e w4 ⟨rfl, he4⟩)
        | (go_at_call 19; (with_reducible refine (HNm.out _).mono ?_); rintro e w9 ⟨rfl, rfl⟩)
        | (go_at_call 20; (with_reducible refine (HAl.out _ ?_).mono ?_); (focus ((repeat (first | exact Ext.refl _ | (with_reducible refine Ext.trans ?_ he5) | (with_reducible refine Ext.trans ?_ he4) | (with_reducible refine Ext.trans ?_ he3) | apply Ext.drew | apply Ext.alloc | fail)); done)); rintro e w5 ⟨rfl, he5⟩)
        | fail)
    all_goals
      go_wp2
      go_ret
      exact ⟨rfl, hE2.trans (by (repeat (first | exact Ext.refl _ | (with_reducible refine Ext.trans ?_ he5) | (with_reducible refine Ext.trans ?_ he4) | (with_reducible refine Ext.trans ?_ he3) | apply Ext.drew | apply Ext.alloc | fail)))⟩
  · go_region_held3 (fun w' => w'.cell? ⟨w.heap.size, 0, none⟩ = some (.bool nul) ∧ w'.cell? ⟨w.heap.size, 1, none⟩ = some (.int .i64 num) ∧ w'.cell? ⟨w.heap.size, 2, none⟩ = some (.slice A n c) ∧
        w'.cell? ⟨w2.heap.size, 0, none⟩ = some (.bool nul) ∧ w'.cell? ⟨w2.heap.size, 1, none⟩ = some (.int .i64 num) ∧ w'.cell? ⟨w2.heap.size, 2, none⟩ = some (.slice A2 n c2))
      (first | exact g8 | (refine K.out _ ?_; (repeat (first | exact Ext.refl _ | (with_reducible refine Ext.trans ?_ he5) | (with_reducible refine Ext.trans ?_ he4) | (with_reducible refine Ext.trans ?_ he3) | apply Ext.drew | apply Ext.alloc | fail))) | fail)
      (first
        | (go_at_call 17; (with_reducible refine (HCk.out _ ?_).mono ?_); (focus ((repeat (first | exact Ext.refl _ | (with_reducible refine Ext.trans ?_ he5) | (with_reducible refine Ext.trans ?_ he4) | (with_reducible refine Ext.trans ?_ he3) | apply Ext.drew | apply Ext.alloc | fail)); done)); rintro e w3 ⟨rfl, he3⟩)
        | (go_at_call 18; (with_reducible refine (HCr.out _ ?_).mono ?_); (focus ((repeat (first | exact Ext.refl _ | (with_reducible refine Ext.trans ?_ he5) | (with_reducible refine Ext.trans ?_ he4) | (with_reducible refine Ext.trans ?_ he3) | apply Ext.drew | apply Ext.alloc | fail)); done)); rintro e w4 ⟨rfl, he4⟩)
        | (go_at_call 19; (with_reducible refine (HNm.out _).mono ?_); rintro e w9 ⟨rfl, rfl⟩)
        | (go_at_call 20; (with_reducible refine (HAl.out _ ?_).mono ?_); (focus ((repeat (first | exact Ext.refl _ | (with_reducible refine Ext.trans ?_ he5) | (with_reducible refine Ext.trans ?_ he4) | (with_reducible refine Ext.trans ?_ he3) | apply Ext.drew | apply Ext.alloc | fail)); done)); rintro e w5 ⟨rfl, he5⟩)
        | fail)
    all_goals
      go_wp2
      go_ret
      exact ⟨rfl, hE2.trans (by (repeat (first | exact Ext.refl _ | (with_reducible refine Ext.trans ?_ he5) | (with_reducible refine Ext.trans ?_ he4) | (with_reducible refine Ext.trans ?_ he3) | apply Ext.drew | apply Ext.alloc | fail)))⟩

end Go.Proofs.Ytdnbmffedccakaa
