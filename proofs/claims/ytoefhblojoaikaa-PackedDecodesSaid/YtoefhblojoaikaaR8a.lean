/-
  Layer 8: lists of numbers with a sign: copied, compared, set apart; lists of runs compared.
-/
import Derived.Test.YtoefhblojoaikaaGR
namespace Go.Proofs.Ytoefhblojoaikaa
open Go.RowKit

theorem Try.infoI64 : (Try.prog.info? 2).map (fun i => (i.zero, i.size, i.bytes)) = some (some (.int .i64 0), 1, 8) := by kernel_rfl

set_option maxHeartbeats 400000 in
theorem copyZ_any (A : Option Addr) (n c : Nat) (xs : List Int) (w : World) (hx : RdG shZ w A n xs) (hn : n * 8 ≤ 140737488355328) :
    Calls Try.prog 13 #[.slice A n c] w fun e w' => ∃ A' c', e = .returned (.slice A' n c') ∧ OwnG shZ 2 w' w.heap.size A' c' xs ∧ Ext w w' := by
  have hl := hx.len
  go_enter Try.func13, Try.ntmps13
  go_wp2
  go_loopw [3, 4] (fun v i wr => ∃ (j : Nat) (A' : Option Addr) (c' : Nat), j ≤ n ∧ i = .int .i64 j ∧ v = .slice A' j c' ∧ OwnG shZ 2 wr w.heap.size A' c' (xs.take j) ∧ Below w.heap.size w wr) (fun _ i _ => n - (intOf i).toNat)
  case atStart => exact ⟨0, _, _, Nat.zero_le _, rfl, rfl, OwnG.made _ _ _ (Nat.le_refl _), (Ext.refl w).alloc _⟩
  case round =>
    obtain ⟨j, A', c', hj, rfl, rfl, hown, hb⟩ := hrel
    have hz := hb.size
    by_cases hlt : j < n
    · obtain ⟨b, o, rfl, hbl, hc⟩ := (hx.ext hb).atZ hlt
      have htl : (xs.take j).length = j := by rw [List.length_take]; omega
      have htk := take_nextG xs j (x := xs.getD j 0) (by rw [List.getD, List.getElem?_eq_getElem (by omega)]; rfl)
      have Htl := Lib.hid htl
      have Htk := Lib.hid htk
      have Hl := Lib.hid hl
      clear htl hl htk
      go_wp2_with (at_builtin; refine wpList_pushG (w0 := w) (base := w.heap.size) shZ (xs.getD j 0) 2 rfl _ _ 22 rfl _ 8 Try.underlying22 Try.infoI64 rfl (by decide) (hown.ext ((Ext.refl _).alloc _)) j Htl.out rfl rfl (heap_alloc_new _ _) (by omega) (by omega) (Ext.trans hb ((Ext.refl _).alloc _)) (by simp; omega) ?_; intro A1 c1 w1 hown1 _ hb1 hz1)
      go_roundw
      case rel => exact ⟨j + 1, A1, c1, by omega, by go_num, rfl, by rw [Htk.out]; exact hown1, hb1⟩
      case measure => simp [intOf]; omega
    · obtain rfl : j = n := by omega
      go_wp2
      go_ret
      rw [List.take_of_length_le (by omega)] at hown
      exact ⟨_, _, rfl, hown, hb⟩

set_option maxHeartbeats 400000 in
theorem sameZ_yes {A A' : Option Addr} {n c n' c' : Nat} {xs : List Int} {w : World} (hx : RdG shZ w A n xs) (hy : RdG shZ w A' n' xs) (hn : n ≤ 281474976710656) :
    Calls Try.prog 20 #[.slice A n c, .slice A' n' c'] w fun e w' => e = .returned (.bool true) ∧ ∃ q, w' = w.drewN q := by
  obtain rfl : n = n' := hx.len.symm.trans hy.len
  go_enter Try.func20, Try.ntmps20
  go_wp2
  go_loopw [5] (fun i wr => ∃ j q : Nat, j ≤ n ∧ i = .int .i64 j ∧ wr = w.drewN q) (fun i _ => n - (intOf i).toNat)
  case atStart => exact ⟨0, 0, Nat.zero_le _, rfl, rfl⟩
  case round =>
    obtain ⟨j, q, hj, rfl, rfl⟩ := hrel
    by_cases hlt : j < n
    · obtain ⟨b, o, rfl, hbl, hc⟩ := hx.atZ hlt
      obtain ⟨b', o', rfl, hbl', hc'⟩ := hy.atZ hlt
      obtain ⟨u, hu⟩ : ∃ u, u = xs.getD j 0 := ⟨_, rfl⟩
      rw [← hu] at hc hc'
      clear hu
      have hji : (j : Int) < (n : Int) := by omega
      go_wp2_with fail
      go_quiet (fail)
      go_wp2
      go_roundw
      case rel => exact ⟨j + 1, _, by omega, by go_num, rfl⟩
      case measure => simp [intOf]; omega
    · obtain rfl : j = n := by omega
      go_wp2
      go_ret
      exact ⟨rfl, q, rfl⟩

set_option maxHeartbeats 400000 in
theorem sameR_yes {A A' : Option Addr} {n c n' c' : Nat} {xs : List (Int × Int)} {w : World} (hx : RdG shR w A n xs) (hy : RdG shR w A' n' xs) (hn : n ≤ 281474976710656) :
    Calls Try.prog 16 #[.slice A n c, .slice A' n' c'] w fun e w' => e = .returned (.bool true) ∧ ∃ q, w' = w.drewN q := by
  obtain rfl : n = n' := hx.len.symm.trans hy.len
  go_enter Try.func16, Try.ntmps16
  go_wp2
  go_loopw [5] (fun i wr => ∃ j q : Nat, j ≤ n ∧ i = .int .i64 j ∧ wr = w.drewN q) (fun i _ => n - (intOf i).toNat)
  case atStart => exact ⟨0, 0, Nat.zero_le _, rfl, rfl⟩
  case round =>
    obtain ⟨j, q, hj, rfl, rfl⟩ := hrel
    by_cases hlt : j < n
    · obtain ⟨b, o, rfl, hbl, hc, hd⟩ := hx.atR hlt
      obtain ⟨b', o', rfl, hbl', hc', hd'⟩ := hy.atR hlt
      obtain ⟨⟨u, v⟩, hu⟩ : ∃ u, u = xs.getD j (0, 0) := ⟨_, rfl⟩
      rw [← hu] at hc hc' hd hd'
      clear hu
      have hji : (j : Int) < (n : Int) := by omega
      go_wp2_with fail
      go_quiet (fail)
      go_wp2
      go_roundw
      case rel => exact ⟨j + 1, _, by omega, by go_num, rfl⟩
      case measure => simp [intOf]; omega
    · obtain rfl : j = n := by omega
      go_wp2
      go_ret
      exact ⟨rfl, q, rfl⟩

set_option maxHeartbeats 800000 in
/-- Both answers are as wanted and lie apart. -/
theorem apartZ_any (A A2 A3 : Option Addr) (n c c2 c3 base : Nat) (xs : List Int) (w0 w : World) (hx : OwnG shZ 2 w base A c xs) (hl : xs.length = n)
    (hy : RdG shZ w A2 n xs) (hz : RdG shZ w A3 n xs) (ne2 : ∀ a a2, A = some a → A2 = some a2 → a2.block ≠ a.block) (ne3 : ∀ a a3, A = some a → A3 = some a3 → a3.block ≠ a.block)
    (hE : Ext w0 w) (hbase : w0.heap.size ≤ base) (hn : n ≤ 281474976710656) :
    Calls Try.prog 23 #[.slice A n c, .slice A2 n c2, .slice A3 n c3] w fun e w' => e = .returned (.bool true) ∧ Ext w0 w' := by
  have Hl := Lib.hid hl
  clear hl
  have hx1 := hx.rd' Hl.out
  go_enter Try.func23, Try.ntmps23
  go_wp2_with fail
  refine (sameZ_yes hx1 hz (by omega)).mono ?_
  rintro e w1 ⟨rfl, q1, rfl⟩
  go_wp2_with fail
  refine (sameZ_yes (hy.drewN q1) (hz.drewN q1) (by omega)).mono ?_
  rintro e w1 ⟨rfl, q2, rfl⟩
  have h0 : ∃ ys : List Int, ys.length = n ∧ OwnG shZ 2 (w.drewN (q1 + q2)) base A c ys ∧ RdG shZ (w.drewN (q1 + q2)) A2 n xs ∧ RdG shZ (w.drewN (q1 + q2)) A3 n xs ∧ Ext w0 (w.drewN (q1 + q2)) :=
    ⟨xs, Hl.out, hx.ext ((Ext.refl w).drewN _), hy, hz, hE.drewN _⟩
  clear hx hy hz hx1 hE
  have Hb := Lib.hid hbase
  clear hbase
  go_wp2_with fail
  go_loopw [7] (fun i wr => ∃ (j : Nat) (ys : List Int), j ≤ n ∧ i = .int .i64 j ∧ ys.length = n ∧ OwnG shZ 2 wr base A c ys ∧ RdG shZ wr A2 n xs ∧ RdG shZ wr A3 n xs ∧ Ext w0 wr) (fun i _ => n - (intOf i).toNat)
  case atStart => obtain ⟨ys, h1, h2⟩ := h0; exact ⟨0, ys, Nat.zero_le _, rfl, h1, h2⟩
  case round =>
    clear h0
    obtain ⟨j, ys, hj, rfl, hyl, hown, hy, hz, hE⟩ := hrel
    by_cases hlt : j < n
    · obtain ⟨b, x, rfl, hbb, hbl, hxj, hc, hfr, hst⟩ := hown.at_ (j := j) (by omega)
      have hc0 := hc 0 _ rfl
      have hf0 := hfr j
      rw [show j * shZ.sz + 0 = j from by show j * 1 + 0 = j; omega] at hc0
      obtain ⟨h1, h2⟩ := hst 0 (bits .xor .i64 x 5) (.int .i64 (bits .xor .i64 x 5)) (by decide) rfl
      rw [show j * shZ.sz + 0 = j from by show j * 1 + 0 = j; omega] at h1 h2
      have hY := hy.grown h2 (fun _ a ha e => ne2 _ a rfl ha (by simpa using e))
      have hZ := hz.grown h2 (fun _ a ha e => ne3 _ a rfl ha (by simpa using e))
      have hX := grownBy_ext hE h2 (by intro g hg; injection hg with hg; subst hg; exact Nat.le_trans Hb.out hbb)
      have Hyl := Lib.hid hyl
      clear hst hc hfr hyl hown hy hz hE h2
      go_wp2_with fail
      go_roundw
      case rel => exact ⟨j + 1, _, by omega, by go_num, (by rw [List.length_set]; exact Hyl.out), h1, hY, hZ, hX⟩
      case measure => simp [intOf]; omega
    · obtain rfl : j = n := by omega
      go_wp2_with fail
      refine (sameZ_yes hy hz (by omega)).mono ?_
      rintro e w1 ⟨rfl, q3, rfl⟩
      go_wp2
      go_ret
      exact ⟨rfl, hE.drewN q3⟩

end Go.Proofs.Ytoefhblojoaikaa
