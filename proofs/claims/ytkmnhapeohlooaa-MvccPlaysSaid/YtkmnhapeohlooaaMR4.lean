/-
  Layer 17: is a list another one in rising order?
-/
import Derived.Test.YtkmnhapeohlooaaMR3
namespace Go.Proofs.Ytkmnhapeohlooaa
open Go.RowKit Go.Maps
set_option maxRecDepth 100000

theorem sortZ_at {ys : List Int} {k : Nat} (h : k + 1 < ys.length) : (sortZ ys).getD k 0 ≤ (sortZ ys).getD (k + 1) 0 := by
  have hl : (sortZ ys).length = ys.length := sortZ_len ys
  have h1 := List.pairwise_iff_getElem.1 (sortZ_sorted ys) k (k + 1) (by omega) (by omega) (by omega)
  rw [List.getD, List.getD, List.getElem?_eq_getElem (by omega), List.getElem?_eq_getElem (by omega)]
  exact h1

set_option maxHeartbeats 3200000 in
theorem rsorted_any (A : Option Addr) (n c : Nat) (A2 : Option Addr) (c2 : Nat) (ys : List Int) (w : World) (hx : RdG shZ w A n (sortZ ys)) (hy : RdG shZ w A2 n ys) (hn : n ≤ 17592186044417) :
    Calls Try.prog 24 #[.slice A n c, .slice A2 n c2] w fun e w' => e = .returned (.bool true) ∧ Ext w w' := by
  have Hl := Lib.hid hx.len
  have Hord : Hid (∀ k, k + 1 < n → (sortZ ys).getD k 0 ≤ (sortZ ys).getD (k + 1) 0) := Lib.hid fun k hk => sortZ_at (by rw [hy.len]; exact hk)
  have hp0 : ys.Perm ((sortZ ys).drop 0) := (sortZ_perm ys).symm
  obtain ⟨xs, hxs⟩ : ∃ xs, xs = sortZ ys := ⟨_, rfl⟩
  rw [← hxs] at hx Hl Hord hp0
  clear hxs
  go_enter Try.func24, Try.ntmps24
  go_wp2_with fail
  go_loopw [5, 6] (fun v i wr => ∃ (j L : Nat) (A3 : Option Addr) (c3 : Nat) (zs : List Int), j ≤ n ∧ i = .int .i64 j ∧ v = .slice A3 L c3 ∧ Hid (zs.Perm (xs.drop j)) ∧ RdG shZ wr A3 L zs ∧ Ext w wr) (fun _ i _ => n - (intOf i).toNat)
  case atStart => exact ⟨0, n, A2, c2, ys, Nat.zero_le _, rfl, rfl, Lib.hid hp0, hy, Ext.refl w⟩
  case round =>
    obtain ⟨j, L, A3, c3, zs, hj, rfl, rfl, HP, hz, hE⟩ := hrel
    by_cases hlt : j < n
    · obtain ⟨b, o, hA, hbl, hc⟩ := (hx.ext hE).atZ hlt
      subst hA
      have hjl : j < xs.length := by rw [Hl.out]; exact hlt
      have hdr : xs.drop j = xs.getD j 0 :: xs.drop (j + 1) := by rw [List.drop_eq_getElem_cons hjl, List.getD, List.getElem?_eq_getElem hjl]; rfl
      have Hxr := Lib.hid hx
      obtain ⟨y, hyy⟩ : ∃ y, y = xs.getD j 0 := ⟨_, rfl⟩
      have Hyy := Lib.hid hyy
      rw [← hyy] at hc hdr
      have hin : y ∈ zs := HP.out.mem_iff.2 (by rw [hdr]; simp)
      have hLn : L ≤ n := by
        have h1 := HP.out.length_eq
        rw [hz.len, List.length_drop, Hl.out] at h1
        omega
      have HC := rwithout_any A3 L c3 zs y wr hz (by omega)
      rw [decide_eq_true hin] at HC
      have HC := Lib.hid HC
      have HP2 : Hid ((zs.erase y).Perm (xs.drop (j + 1))) := Lib.hid (by
        have h1 := HP.out.erase y
        rw [hdr] at h1
        simpa using h1)
      obtain ⟨m, hm⟩ : ∃ m, m = (zs.erase y).length := ⟨_, rfl⟩
      have Hm := Lib.hid hm
      rw [← hm] at HC
      have HE := Lib.hid hE
      clear hdr hin hm hyy hx hz hjl hE
      go_wp2_with fail
      refine HC.out.mono ?_
      rintro e w2 ⟨A4, c4, rfl, hown, he2⟩
      have hrd2 := hown.rd' Hm.out.symm
      have hE2 := HE.out.trans he2
      have hc2 : w2.cell? ⟨b, o + j, none⟩ = some (.int .i64 y) := (Below.cell he2 (p := ⟨b, o + j, none⟩) hbl).trans hc
      have HE2 := Lib.hid hE2
      have Hrd2 := Lib.hid hrd2
      clear hown he2 hE2 hrd2 hc
      by_cases hj0 : j = 0
      · subst hj0
        go_wp2_with fail
        go_quiet (fail)
        go_wp2_with fail
        go_roundw
        case rel => exact ⟨1, m, A4, c4, _, by omega, by go_num, rfl, HP2, Hrd2.out, HE2.out.drewN _⟩
        case measure => simp [intOf]; omega
      · obtain ⟨k, rfl⟩ : ∃ k, j = k + 1 := ⟨j - 1, by omega⟩
        obtain ⟨b9, o9, hA9, hb9, hc9⟩ := (Hxr.out.ext HE2.out).atZ (j := k) (by omega)
        injection hA9 with hA9
        injection hA9 with q1 q2
        subst q1 q2
        have hle := Hord.out k hlt
        rw [← Hyy.out] at hle
        obtain ⟨z, hz9⟩ : ∃ z, z = xs.getD k 0 := ⟨_, rfl⟩
        rw [← hz9] at hc9 hle
        have d1 : decide (y < z) = false := decide_eq_false (by omega)
        have d0 : decide ((0 : Int) < ((k + 1 : Nat) : Int)) = true := decide_eq_true (by omega)
        have e1 : (((k + 1 : Nat) : Int) - 1) = (k : Int) := by omega
        clear hle hz9 hj0
        go_wp2_with fail

        go_quiet (fail)
        go_wp2_with fail
        go_roundw
        case rel => exact ⟨k + 1 + 1, m, A4, c4, _, by omega, by go_num, rfl, HP2, Hrd2.out, HE2.out.drewN _⟩
        case measure => simp [intOf]; omega
    · obtain rfl : j = n := by omega
      go_wp2_with fail
      go_ret
      exact ⟨rfl, hE⟩

end Go.Proofs.Ytkmnhapeohlooaa
