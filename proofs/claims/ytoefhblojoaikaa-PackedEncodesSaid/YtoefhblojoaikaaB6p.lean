import Derived.Test.YtoefhblojoaikaaB5p
namespace Go.Proofs.Ytoefhblojoaikaa
open Go.RowKit

/-- The last byte's bits that belong to no number. -/
theorem top_bits {N len k : Nat} (hN : N < 2 ^ (8 * len)) (h1 : k ≤ 8 * len) (h2 : 8 * len - k < 8) (h3 : 0 < k % 8) : N / 2 ^ (8 * (k / 8)) % 2 ^ 8 / 2 ^ (k % 8) = N / 2 ^ k := by
  rw [byte_from]
  apply Nat.mod_eq_of_lt
  apply Nat.div_lt_of_lt_mul
  rw [← Nat.pow_add]
  rwa [show k + (8 - k % 8) = 8 * len from by omega]

theorem upk_step {w i N : Nat} {n : Nat} (h : i < n) : upk w (i + 1) N ++ List.replicate (n - (i + 1)) 0 = (upk w i N ++ List.replicate (n - i) 0).set i (dig N (w * i) w) := by
  rw [upk_snoc, List.set_append_right _ _ (by rw [upk_len]; omega), upk_len, Nat.sub_self]
  obtain ⟨m, hm⟩ : ∃ m, n - i = m + 1 := ⟨n - i - 1, by omega⟩
  rw [hm, show n - (i + 1) = m from by omega, List.replicate_succ, List.set_cons_zero, List.append_assoc]
  rfl

set_option maxHeartbeats 1600000 in
theorem unpack_any (A : Option Addr) (n c : Nat) (wd cnt : Int) (bs : List Nat) (w : World) (hx : Rd .u8 w A n bs) (hu : U8 bs) (hn : n ≤ 140737488355328) :
    Calls Try.prog 72 #[.slice A n c, .int .i64 wd, .int .i64 cnt] w (UnpPost (pk 8 bs) n wd cnt w) := by
  by_cases hw : wd < 0 ∨ 64 < wd
  · have HE := Lib.hid (unpE_bad (N := pk 8 bs) (len := n) (cnt := cnt) (show wd < 0 ∨ 64 < wd ∨ cnt < 0 ∨ 4096 < cnt by omega))
    go_enter Try.func72, Try.ntmps72
    go_wp2_with (go_at_call 66; refine (isWidth_no _ _ hw).mono ?_; rintro e w1 ⟨rfl, rfl⟩)
    go_ret2
    exact UnpPost.err HE.out (by decide) (Ext.refl _)
  · have hw0 : 0 ≤ wd := by omega
    have hw1 : wd ≤ 64 := by omega
    by_cases hbad : cnt < 0 ∨ 4096 < cnt
    · have HE := Lib.hid (unpE_bad (N := pk 8 bs) (len := n) (cnt := cnt) (show wd < 0 ∨ 64 < wd ∨ cnt < 0 ∨ 4096 < cnt by omega))
      clear hw
      by_cases hc : cnt < 0
      · clear hbad
        go_enter Try.func72, Try.ntmps72
        go_wp2_with (go_at_call 66; refine (isWidth_yes _ _ hw0 hw1).mono ?_; rintro e w1 ⟨rfl, rfl⟩)
        go_ret2
        exact UnpPost.err HE.out (by decide) (Ext.refl _)
      · have hc2 : 4096 < cnt := by omega
        clear hbad
        go_enter Try.func72, Try.ntmps72
        go_wp2_with (go_at_call 66; refine (isWidth_yes _ _ hw0 hw1).mono ?_; rintro e w1 ⟨rfl, rfl⟩)
        go_ret2
        exact UnpPost.err HE.out (by decide) (Ext.refl _)
    · have hc0 : 0 ≤ cnt := by omega
      have hc1 : cnt ≤ 4096 := by omega
      have Hbad := Lib.hid (show ¬ (wd < 0 ∨ 64 < wd ∨ cnt < 0 ∨ 4096 < cnt) by omega)
      have hm0 : 0 ≤ wd * cnt := Int.mul_nonneg hw0 hc0
      have hm1 : wd * cnt ≤ 64 * 4096 := Int.mul_le_mul hw1 hc1 hc0 (by omega)
      obtain ⟨wn, rfl⟩ := Int.eq_ofNat_of_zero_le hw0
      obtain ⟨m, rfl⟩ := Int.eq_ofNat_of_zero_le hc0
      have hmul : (wn : Int) * (m : Int) = ((wn * m : Nat) : Int) := by norm_cast
      obtain ⟨k, hk⟩ : ∃ k, k = wn * m := ⟨_, rfl⟩
      rw [← hk] at hmul
      have hm2 : (wn : Int) * (m : Int) ≤ 9223372036854775807 := by omega
      have Hk := Lib.hid hk
      have Hmul := Lib.hid hmul
      have hkb : k ≤ 262144 := by omega
      clear hk hw hbad
      by_cases hs : 8 * n < k
      · have HE := Lib.hid (unpE_short (N := pk 8 bs) Hbad.out (show 8 * (n : Int) < (wn : Int) * (m : Int) by omega))
        have hlt : (n : Int) < ((k : Int) + 7) / 8 := by omega
        go_enter Try.func72, Try.ntmps72
        go_wp2_with (first | (go_at_call 66; refine (isWidth_yes _ _ hw0 hw1).mono ?_; rintro e w1 ⟨rfl, rfl⟩) | (go_at_call 67; refine (bytesFor_any _ _ _ hw0 hw1 hc0 (by omega) (by rw [Hmul.out]; omega) (by rw [Hmul.out]; omega)).mono ?_; rintro e w1 ⟨rfl, rfl⟩))
        go_ret2
        exact UnpPost.err HE.out (by decide) (Ext.refl _)
      · by_cases ht : 8 ≤ 8 * (n : Int) - (k : Int)
        · have HE := Lib.hid (unpE_trail (N := pk 8 bs) Hbad.out (show ¬ 8 * (n : Int) < (wn : Int) * (m : Int) by omega) (by omega))
          have hle : ((k : Int) + 7) / 8 < (n : Int) := by omega
          go_enter Try.func72, Try.ntmps72
          go_wp2_with (first | (go_at_call 66; refine (isWidth_yes _ _ hw0 hw1).mono ?_; rintro e w1 ⟨rfl, rfl⟩) | (go_at_call 67; refine (bytesFor_any _ _ _ hw0 hw1 hc0 (by omega) (by rw [Hmul.out]; omega) (by rw [Hmul.out]; omega)).mono ?_; rintro e w1 ⟨rfl, rfl⟩))
          go_ret2
          exact UnpPost.err HE.out (by decide) (Ext.refl _)
        · have HF := Lib.hid (fun h4 => unpE_form (N := pk 8 bs) Hbad.out (show ¬ 8 * (n : Int) < (wn : Int) * (m : Int) by omega) (by omega) h4)
          have HK := Lib.hid (fun h4 => unpE_ok (N := pk 8 bs) Hbad.out (show ¬ 8 * (n : Int) < (wn : Int) * (m : Int) by omega) (by omega) h4)
          have hat : ((wn : Int) * (m : Int)).toNat = k := by rw [hmul]; rfl
          rw [hat] at HF HK
          have hN : pk 8 bs < 2 ^ (8 * n) := by rw [← hx.len]; exact pk_lt (U8_wd.1 hu)
          have hneed : ((k : Int) + 7) / 8 = (n : Int) := by omega
          clear hat hs
          have hpl : (wn : Int) * (m : Int) ≤ 18446744073709551615 := by omega
          by_cases hform : 2 ^ k ≤ pk 8 bs
          · have HE := Lib.hid (HF.out hform)
            have hus : 0 < k % 8 := by
              rcases Nat.eq_zero_or_pos (k % 8) with h0 | h0
              · have : k = 8 * n := by omega
                rw [this] at hform
                omega
              · exact h0
            have htop := top_bits hN (show k ≤ 8 * n by omega) (by omega) hus
            have hk8 : k / 8 = n - 1 := by omega
            obtain ⟨b, o, rfl, hb, hc⟩ := hx.at_ (show n - 1 < n by omega)
            have hxb := hu.at_ (n - 1)
            rw [pk_at (U8_wd.1 hu), hk8] at htop
            obtain ⟨x, hx'⟩ : ∃ x, x = bs.getD (n - 1) 0 := ⟨_, rfl⟩
            rw [← hx'] at hc htop hxb
            have hpos : 0 < pk 8 bs / 2 ^ k := Nat.div_pos hform (Nat.two_pow_pos k)
            have hcast : ((x : Int) / 2 ^ (k % 8)) = ((x / 2 ^ (k % 8) : Nat) : Int) := by rw [Int.natCast_ediv]; norm_cast
            have hne : (((x : Int) / 2 ^ (k % 8)) != 0) = true := by rw [hcast, htop, bne_iff_ne]; omega
            have hn1 : (0 : Int) ≤ ((k : Int) + 7) / 8 - 1 := by omega
            have hn2 : ((k : Int) + 7) / 8 - 1 < (n : Int) := by omega
            have hn3 : (((k : Int) + 7) / 8 - 1).toNat = n - 1 := by omega
            clear hcast htop hpos hN hform hx' hmul
            go_enter Try.func72, Try.ntmps72
            go_wp2_with (first | (go_at_call 66; refine (isWidth_yes _ _ hw0 hw1).mono ?_; rintro e w1 ⟨rfl, rfl⟩) | (go_at_call 67; refine (bytesFor_any _ _ _ hw0 hw1 hc0 (by omega) (by rw [Hmul.out]; omega) (by rw [Hmul.out]; omega)).mono ?_; rintro e w1 ⟨rfl, rfl⟩; rw [Hmul.out]) | (go_at_call 69; refine (place_any _ _ _ hw0 hw1 hc0 (by omega) (by rw [Hmul.out]; omega) (by rw [Hmul.out]; omega)).mono ?_; rintro e w1 ⟨rfl, rfl⟩; rw [Hmul.out]))
            go_ret2
            exact UnpPost.err HE.out (by decide) (Ext.refl _)
          · have HE := Lib.hid (HK.out hform)
            have key : k % 8 = 0 ∨ (0 < k % 8 ∧ 0 < n ∧ ∃ b o x, A = some ⟨b, o, none⟩ ∧ w.cell? ⟨b, o + (n - 1), none⟩ = some (.int .u8 ((x : Nat) : Int)) ∧ (((x : Int) / 2 ^ (k % 8)) != 0) = false) := by
              rcases Nat.eq_zero_or_pos (k % 8) with h0 | hus
              · exact .inl h0
              · right
                have htop := top_bits hN (show k ≤ 8 * n by omega) (by omega) hus
                have hk8 : k / 8 = n - 1 := by omega
                obtain ⟨b, o, hA, hb, hc⟩ := hx.at_ (show n - 1 < n by omega)
                rw [pk_at (U8_wd.1 hu), hk8] at htop
                refine ⟨hus, by omega, b, o, _, hA, hc, ?_⟩
                have h0 : pk 8 bs / 2 ^ k = 0 := Nat.div_eq_of_lt (by omega)
                have hcast : ((bs.getD (n - 1) 0 : Int) / 2 ^ (k % 8)) = ((bs.getD (n - 1) 0 / 2 ^ (k % 8) : Nat) : Int) := by rw [Int.natCast_ediv]; norm_cast
                rw [hcast, htop, h0]
                rfl
            have hd64 : ∀ i, dig (pk 8 bs) (wn * i) wn ≤ 18446744073709551615 := fun i => by have := dig_le64 (pk 8 bs) (wn * i) wn (by omega); omega
            have hle8 : k ≤ 8 * n := by omega
            have Hd64 := Lib.hid hd64
            clear hN hform hmul hd64
            rcases key with hus | ⟨hus, hnp, b, o, x, rfl, hc, hne⟩
            all_goals
              go_enter Try.func72, Try.ntmps72
              go_wp2_with (first | (go_at_call 66; refine (isWidth_yes _ _ hw0 hw1).mono ?_; rintro e w1 ⟨rfl, rfl⟩) | (go_at_call 67; refine (bytesFor_any _ _ _ hw0 hw1 hc0 (by omega) (by rw [Hmul.out]; omega) (by rw [Hmul.out]; omega)).mono ?_; rintro e w1 ⟨rfl, rfl⟩; rw [Hmul.out]) | (go_at_call 69; refine (place_any _ _ _ hw0 hw1 hc0 (by omega) (by rw [Hmul.out]; omega) (by rw [Hmul.out]; omega)).mono ?_; rintro e w1 ⟨rfl, rfl⟩; rw [Hmul.out]) | (at_make; refine wpList_mk .u64 58 rfl _ _ 75 rfl 8 Try.underlying75 Try.infoU64 _ _ m rfl rfl rfl rfl (by omega) (by omega) ?_; intro w2 hown2 he2))
              have h0 : Own .u64 58 w2 w.heap.size (some ⟨w.heap.size, 0, none⟩) m (upk wn 0 (pk 8 bs) ++ List.replicate (m - 0) 0) := hown2
              clear hown2
              go_loopw [53] (fun i wr => ∃ j : Nat, j ≤ m ∧ i = .int .i64 j ∧ Own .u64 58 wr w.heap.size (some ⟨w.heap.size, 0, none⟩) m (upk wn j (pk 8 bs) ++ List.replicate (m - j) 0) ∧ Ext w wr) (fun i _ => m - (intOf i).toNat)
              case atStart => exact ⟨0, Nat.zero_le _, rfl, h0, he2⟩
              case round =>
                clear h0 he2
                obtain ⟨j, hj, rfl, hown, he⟩ := hrel
                by_cases hlt : j < m
                · have hle1 : wn * j + wn ≤ k := by
                    have := Nat.mul_le_mul_left wn (show j + 1 ≤ m by omega)
                    rw [Nat.mul_add, Nat.mul_one, ← Hk.out] at this
                    exact this
                  have hmj : (wn : Int) * (j : Int) = ((wn * j : Nat) : Int) := by norm_cast
                  have hmj0 : (0 : Int) ≤ (wn : Int) * (j : Int) := by omega
                  have hmj1 : (wn : Int) * (j : Int) ≤ 18446744073709551615 := by omega
                  have Hmj := Lib.hid hmj
                  have hxr := hx.ext he
                  obtain ⟨b2, hb2, hbase, hblt, hcell, hfro, hset⟩ := hown.at_ (show j < (upk wn j (pk 8 bs) ++ List.replicate (m - j) 0).length by rw [List.length_append, upk_len, List.length_replicate]; omega)
                  injection hb2 with hb2
                  injection hb2 with hb2
                  subst hb2
                  obtain ⟨hs1, hs2⟩ := hset (dig (pk 8 bs) (wn * j) wn)
                  rw [← upk_step hlt] at hs1
                  have Hs1 := Lib.hid hs1
                  have He := Lib.hid (he.setCell (p := ⟨w.heap.size, j, none⟩) (Nat.le_refl _) (.int .u64 (dig (pk 8 bs) (wn * j) wn : Int)))
                  obtain ⟨old, hold⟩ : ∃ v, v = Value.int .u64 (((upk wn j (pk 8 bs) ++ List.replicate (m - j) 0).getD j 0 : Nat) : Int) := ⟨_, rfl⟩
                  rw [← hold] at hcell
                  clear hold hs1 hs2 hset hmj hown he hbase
                  go_wp2_with (first | (go_at_call 69; refine (place_any _ _ _ hw0 hw1 (by omega) (by omega) hmj0 hmj1).mono ?_; rintro e w1 ⟨rfl, rfl⟩; rw [Hmj.out]) | (go_at_call 77; refine (read_any _ _ _ _ _ bs _ hxr hu hn (by omega) (by omega)).mono ?_; rintro e w1 ⟨rfl, rfl⟩))
                  go_roundw
                  case rel => exact ⟨j + 1, by omega, by go_num, Hs1.out, He.out⟩
                  case measure => simp [intOf]; omega
                · obtain rfl : j = m := by omega
                  rw [Nat.sub_self, List.replicate_zero, List.append_nil] at hown
                  go_wp2
                  go_ret2
                  exact UnpPost.ok HE.out (Int.toNat_natCast _) hown he

end Go.Proofs.Ytoefhblojoaikaa
