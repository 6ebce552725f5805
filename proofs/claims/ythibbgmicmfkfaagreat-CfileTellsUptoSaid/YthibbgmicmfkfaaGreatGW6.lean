import Derived.Test.YthibbgmicmfkfaaGreatGW5
import Derived.RegionTactic
import Derived.BigRegion
import Derived.Deep.RegionWith
-- part B6p
namespace Go.Proofs.YthibbgmicmfkfaaGreat
open Go.RowKit
set_option maxRecDepth 100000
theorem top_bits {N len k : Nat} (hN : N < 2 ^ (8 * len)) (h1 : k ≤ 8 * len) (h2 : 8 * len - k < 8) (h3 : 0 < k % 8) : N / 2 ^ (8 * (k / 8)) % 2 ^ 8 / 2 ^ (k % 8) = N / 2 ^ k := by
 rw [byte_from]
 apply Nat.mod_eq_of_lt
 apply Nat.div_lt_of_lt_mul
 rw [← Nat.pow_add]
 rwa [show k + (8 - k % 8) = 8 * len from by omega]
theorem upk_step {w i N : Nat} {n : Nat} (h : i < n) : upk w (i + 1) N ++ List.replicate (n - (i + 1)) 0 = (upk w i N ++ List.replicate (n - i) 0).set i (dig N (w * i) w) := by
 rw [upk_snoc, List.set_append_right _ _ (by rw [upk_len]; omega), upk_len, Nat.sub_self]
 obtain ⟨m, hm⟩ : ∃ m, n - i = m + 1 := ⟨n - i - 1, by omega⟩
 rw [hm, show n - (i + 1) = m from by omega, List.replicate_succ, List.set_cons_zero, List.append_assoc]
 rfl
set_option maxHeartbeats 1600000 in
theorem unpack_any (A : Option Addr) (n c : Nat) (wd cnt : Int) (bs : List Nat) (w : World) (hx : Rd .u8 w A n bs) (hu : U8 bs) (hn : n ≤ 140737488355328) :
   Calls Tryz.prog 154 #[.slice A n c, .int .i64 wd, .int .i64 cnt] w (UnpPost (pk 8 bs) n wd cnt w) := by
 by_cases hw : wd < 0 ∨ 64 < wd
 · have HE := Lib.hid (unpE_bad (N := pk 8 bs) (len := n) (cnt := cnt) (show wd < 0 ∨ 64 < wd ∨ cnt < 0 ∨ 4096 < cnt by omega))
   go_enter Tryz.func154, Tryz.ntmps154
   go_wp2_with (go_at_call 168; refine (isWidth_no _ _ hw).mono ?_; rintro e w1 ⟨rfl, rfl⟩)
   go_ret2
   exact UnpPost.err HE.out (by decide) (Ext.refl _)
 · have hw0 : 0 ≤ wd := by omega
   have hw1 : wd ≤ 64 := by omega
   by_cases hbad : cnt < 0 ∨ 4096 < cnt
   · have HE := Lib.hid (unpE_bad (N := pk 8 bs) (len := n) (cnt := cnt) (show wd < 0 ∨ 64 < wd ∨ cnt < 0 ∨ 4096 < cnt by omega))
     clear hw
     by_cases hc : cnt < 0
     · clear hbad
       go_enter Tryz.func154, Tryz.ntmps154
       go_wp2_with (go_at_call 168; refine (isWidth_yes _ _ hw0 hw1).mono ?_; rintro e w1 ⟨rfl, rfl⟩)
       go_ret2
       exact UnpPost.err HE.out (by decide) (Ext.refl _)
     · have hc2 : 4096 < cnt := by omega
       clear hbad
       go_enter Tryz.func154, Tryz.ntmps154
       go_wp2_with (go_at_call 168; refine (isWidth_yes _ _ hw0 hw1).mono ?_; rintro e w1 ⟨rfl, rfl⟩)
       go_ret2
       exact UnpPost.err HE.out (by decide) (Ext.refl _)
   · have hc0 : 0 ≤ cnt := by omega
     have hc1 : cnt ≤ 4096 := by omega
     have Hbad := Lib.hid (show ¬ (wd < 0 ∨ 64 < wd ∨ cnt < 0 ∨ 4096 < cnt) by omega)
     have hm0 : 0 ≤ wd * cnt := Int.mul_nonneg hw0 hc0
     have hm1 : wd * cnt ≤ 64 * 4096 := Int.mul_le_mul hw1 hc1 hc0 (by omega)
     obtain ⟨wn, rfl⟩ := Int.eq_ofNat_of_zero_le hw0
     obtain ⟨m, rfl⟩ := Int.eq_ofNat_of_zero_le hc0
     have hmul : (wn : Int) * (m : Int) = ((wn * m : Nat) : Int) := by norm_cast
     obtain ⟨k, hk⟩ : ∃ k, k = wn * m := ⟨_, rfl⟩
     rw [← hk] at hmul
     have hm2 : (wn : Int) * (m : Int) ≤ 9223372036854775807 := by omega
     have Hk := Lib.hid hk
     have Hmul := Lib.hid hmul
     have hkb : k ≤ 262144 := by omega
     clear hk hw hbad
     by_cases hs : 8 * n < k
     · have HE := Lib.hid (unpE_short (N := pk 8 bs) Hbad.out (show 8 * (n : Int) < (wn : Int) * (m : Int) by omega))
       have hlt : (n : Int) < ((k : Int) + 7) / 8 := by omega
       go_enter Tryz.func154, Tryz.ntmps154
       go_wp2_with (first | (go_at_call 168; refine (isWidth_yes _ _ hw0 hw1).mono ?_; rintro e w1 ⟨rfl, rfl⟩) | (go_at_call 170; refine (bytesFor_any _ _ _ hw0 hw1 hc0 (by omega) (by rw [Hmul.out]; omega) (by rw [Hmul.out]; omega)).mono ?_; rintro e w1 ⟨rfl, rfl⟩))
       go_ret2
       exact UnpPost.err HE.out (by decide) (Ext.refl _)
     · by_cases ht : 8 ≤ 8 * (n : Int) - (k : Int)
       · have HE := Lib.hid (unpE_trail (N := pk 8 bs) Hbad.out (show ¬ 8 * (n : Int) < (wn : Int) * (m : Int) by omega) (by omega))
         have hle : ((k : Int) + 7) / 8 < (n : Int) := by omega
         go_enter Tryz.func154, Tryz.ntmps154
         go_wp2_with (first | (go_at_call 168; refine (isWidth_yes _ _ hw0 hw1).mono ?_; rintro e w1 ⟨rfl, rfl⟩) | (go_at_call 170; refine (bytesFor_any _ _ _ hw0 hw1 hc0 (by omega) (by rw [Hmul.out]; omega) (by rw [Hmul.out]; omega)).mono ?_; rintro e w1 ⟨rfl, rfl⟩))
         go_ret2
         exact UnpPost.err HE.out (by decide) (Ext.refl _)
       · have HF := Lib.hid (fun h4 => unpE_form (N := pk 8 bs) Hbad.out (show ¬ 8 * (n : Int) < (wn : Int) * (m : Int) by omega) (by omega) h4)
         have HK := Lib.hid (fun h4 => unpE_ok (N := pk 8 bs) Hbad.out (show ¬ 8 * (n : Int) < (wn : Int) * (m : Int) by omega) (by omega) h4)
         have hat : ((wn : Int) * (m : Int)).toNat = k := by rw [hmul]; rfl
         rw [hat] at HF HK
         have hN : pk 8 bs < 2 ^ (8 * n) := by rw [← hx.len]; exact pk_lt (U8_wd.1 hu)
         have hneed : ((k : Int) + 7) / 8 = (n : Int) := by omega
         clear hat hs
         have hpl : (wn : Int) * (m : Int) ≤ 18446744073709551615 := by omega
         by_cases hform : 2 ^ k ≤ pk 8 bs
         · have HE := Lib.hid (HF.out hform)
           have hus : 0 < k % 8 := by
             rcases Nat.eq_zero_or_pos (k % 8) with h0 | h0
             · have : k = 8 * n := by omega
               rw [this] at hform
               omega
             · exact h0
           have htop := top_bits hN (show k ≤ 8 * n by omega) (by omega) hus
           have hk8 : k / 8 = n - 1 := by omega
           obtain ⟨b, o, rfl, hb, hc⟩ := hx.at_ (show n - 1 < n by omega)
           have hxb := hu.at_ (n - 1)
           rw [pk_at (U8_wd.1 hu), hk8] at htop
           obtain ⟨x, hx'⟩ : ∃ x, x = bs.getD (n - 1) 0 := ⟨_, rfl⟩
           rw [← hx'] at hc htop hxb
           have hpos : 0 < pk 8 bs / 2 ^ k := Nat.div_pos hform (Nat.two_pow_pos k)
           have hcast : ((x : Int) / 2 ^ (k % 8)) = ((x / 2 ^ (k % 8) : Nat) : Int) := by rw [Int.natCast_ediv]; norm_cast
           have hne : (((x : Int) / 2 ^ (k % 8)) != 0) = true := by rw [hcast, htop, bne_iff_ne]; omega
           have hn1 : (0 : Int) ≤ ((k : Int) + 7) / 8 - 1 := by omega
           have hn2 : ((k : Int) + 7) / 8 - 1 < (n : Int) := by omega
           have hn3 : (((k : Int) + 7) / 8 - 1).toNat = n - 1 := by omega
           clear hcast htop hpos hN hform hx' hmul
           go_enter Tryz.func154, Tryz.ntmps154
           go_wp2_with (first | (go_at_call 168; refine (isWidth_yes _ _ hw0 hw1).mono ?_; rintro e w1 ⟨rfl, rfl⟩) | (go_at_call 170; refine (bytesFor_any _ _ _ hw0 hw1 hc0 (by omega) (by rw [Hmul.out]; omega) (by rw [Hmul.out]; omega)).mono ?_; rintro e w1 ⟨rfl, rfl⟩; rw [Hmul.out]) | (go_at_call 172; refine (place_any _ _ _ hw0 hw1 hc0 (by omega) (by rw [Hmul.out]; omega) (by rw [Hmul.out]; omega)).mono ?_; rintro e w1 ⟨rfl, rfl⟩; rw [Hmul.out]))
           go_ret2
           exact UnpPost.err HE.out (by decide) (Ext.refl _)
         · have HE := Lib.hid (HK.out hform)
           have key : k % 8 = 0 ∨ (0 < k % 8 ∧ 0 < n ∧ ∃ b o x, A = some ⟨b, o, none⟩ ∧ w.cell? ⟨b, o + (n - 1), none⟩ = some (.int .u8 ((x : Nat) : Int)) ∧ (((x : Int) / 2 ^ (k % 8)) != 0) = false) := by
             rcases Nat.eq_zero_or_pos (k % 8) with h0 | hus
             · exact .inl h0
             · right
               have htop := top_bits hN (show k ≤ 8 * n by omega) (by omega) hus
               have hk8 : k / 8 = n - 1 := by omega
               obtain ⟨b, o, hA, hb, hc⟩ := hx.at_ (show n - 1 < n by omega)
               rw [pk_at (U8_wd.1 hu), hk8] at htop
               refine ⟨hus, by omega, b, o, _, hA, hc, ?_⟩
               have h0 : pk 8 bs / 2 ^ k = 0 := Nat.div_eq_of_lt (by omega)
               have hcast : ((bs.getD (n - 1) 0 : Int) / 2 ^ (k % 8)) = ((bs.getD (n - 1) 0 / 2 ^ (k % 8) : Nat) : Int) := by rw [Int.natCast_ediv]; norm_cast
               rw [hcast, htop, h0]
               rfl
           have hd64 : ∀ i, dig (pk 8 bs) (wn * i) wn ≤ 18446744073709551615 := fun i => by have := dig_le64 (pk 8 bs) (wn * i) wn (by omega); omega
           have hle8 : k ≤ 8 * n := by omega
           have Hd64 := Lib.hid hd64
           clear hN hform hmul hd64
           rcases key with hus | ⟨hus, hnp, b, o, x, rfl, hc, hne⟩
           all_goals
             go_enter Tryz.func154, Tryz.ntmps154
             go_wp2_with (first | (go_at_call 168; refine (isWidth_yes _ _ hw0 hw1).mono ?_; rintro e w1 ⟨rfl, rfl⟩) | (go_at_call 170; refine (bytesFor_any _ _ _ hw0 hw1 hc0 (by omega) (by rw [Hmul.out]; omega) (by rw [Hmul.out]; omega)).mono ?_; rintro e w1 ⟨rfl, rfl⟩; rw [Hmul.out]) | (go_at_call 172; refine (place_any _ _ _ hw0 hw1 hc0 (by omega) (by rw [Hmul.out]; omega) (by rw [Hmul.out]; omega)).mono ?_; rintro e w1 ⟨rfl, rfl⟩; rw [Hmul.out]) | (at_make; refine wpList_mk .u64 69 rfl _ _ 72 rfl 8 Tryz.underlying72 Tryz.infoU64 _ _ m rfl rfl rfl rfl (by omega) (by omega) ?_; intro w2 hown2 he2))
             have h0 : Own .u64 69 w2 w.heap.size (some ⟨w.heap.size, 0, none⟩) m (upk wn 0 (pk 8 bs) ++ List.replicate (m - 0) 0) := hown2
             clear hown2
             go_loopw [53] (fun i wr => ∃ j : Nat, j ≤ m ∧ i = .int .i64 j ∧ Own .u64 69 wr w.heap.size (some ⟨w.heap.size, 0, none⟩) m (upk wn j (pk 8 bs) ++ List.replicate (m - j) 0) ∧ Ext w wr) (fun i _ => m - (intOf i).toNat)
             case atStart => exact ⟨0, Nat.zero_le _, rfl, h0, he2⟩
             case round =>
               clear h0 he2
               obtain ⟨j, hj, rfl, hown, he⟩ := hrel
               by_cases hlt : j < m
               · have hle1 : wn * j + wn ≤ k := by
                   have := Nat.mul_le_mul_left wn (show j + 1 ≤ m by omega)
                   rw [Nat.mul_add, Nat.mul_one, ← Hk.out] at this
                   exact this
                 have hmj : (wn : Int) * (j : Int) = ((wn * j : Nat) : Int) := by norm_cast
                 have hmj0 : (0 : Int) ≤ (wn : Int) * (j : Int) := by omega
                 have hmj1 : (wn : Int) * (j : Int) ≤ 18446744073709551615 := by omega
                 have Hmj := Lib.hid hmj
                 have hxr := hx.ext he
                 obtain ⟨b2, hb2, hbase, hblt, hcell, hfro, hset⟩ := hown.at_ (show j < (upk wn j (pk 8 bs) ++ List.replicate (m - j) 0).length by rw [List.length_append, upk_len, List.length_replicate]; omega)
                 injection hb2 with hb2
                 injection hb2 with hb2
                 subst hb2
                 obtain ⟨hs1, hs2⟩ := hset (dig (pk 8 bs) (wn * j) wn)
                 rw [← upk_step hlt] at hs1
                 have Hs1 := Lib.hid hs1
                 have He := Lib.hid (he.setCell (p := ⟨w.heap.size, j, none⟩) (Nat.le_refl _) (.int .u64 (dig (pk 8 bs) (wn * j) wn : Int)))
                 obtain ⟨old, hold⟩ : ∃ v, v = Value.int .u64 (((upk wn j (pk 8 bs) ++ List.replicate (m - j) 0).getD j 0 : Nat) : Int) := ⟨_, rfl⟩
                 rw [← hold] at hcell
                 clear hold hs1 hs2 hset hmj hown he hbase
                 go_wp2_with (first | (go_at_call 172; refine (place_any _ _ _ hw0 hw1 (by omega) (by omega) hmj0 hmj1).mono ?_; rintro e w1 ⟨rfl, rfl⟩; rw [Hmj.out]) | (go_at_call 188; refine (read_any _ _ _ _ _ bs _ hxr hu hn (by omega) (by omega)).mono ?_; rintro e w1 ⟨rfl, rfl⟩))
                 go_roundw
                 case rel => exact ⟨j + 1, by omega, by go_num, Hs1.out, He.out⟩
                 case measure => simp [intOf]; omega
               · obtain rfl : j = m := by omega
                 rw [Nat.sub_self, List.replicate_zero, List.append_nil] at hown
                 go_wp2
                 go_ret2
                 exact UnpPost.ok HE.out (Int.toNat_natCast _) hown he
end Go.Proofs.YthibbgmicmfkfaaGreat
-- part B7p
namespace Go.Proofs.YthibbgmicmfkfaaGreat
open Go.RowKit
theorem lay_step {M v a j : Nat} (hM : M < 2 ^ a) :
   let P := M + 2 ^ a * (v % 2 ^ j)
   let d := v / 2 ^ j % 2 ^ (8 - (a + j) % 8) * 2 ^ ((a + j) % 8)
   P / 2 ^ (8 * ((a + j) / 8)) % 2 ^ 8 < 2 ^ ((a + j) % 8) ∧ d < 256 ∧ P / 2 ^ (8 * ((a + j) / 8)) % 2 ^ 8 + d < 256 ∧ M + 2 ^ a * (v % 2 ^ (j + (8 - (a + j) % 8))) = P + 2 ^ (8 * ((a + j) / 8)) * d := by
 intro P d
 have hs : (a + j) % 8 < 8 := Nat.mod_lt _ (by omega)
 have hk : 8 * ((a + j) / 8) + (a + j) % 8 = a + j := by omega
 have hP : P < 2 ^ (a + j) := by
   have h1 := Nat.mod_lt v (Nat.two_pow_pos j)
   rw [Nat.pow_add]
   calc P < 2 ^ a + 2 ^ a * (v % 2 ^ j) := by omega
     _ = 2 ^ a * (v % 2 ^ j + 1) := by rw [Nat.mul_succ, Nat.add_comm]
     _ ≤ 2 ^ a * 2 ^ j := Nat.mul_le_mul_left _ h1
 have hx : P / 2 ^ (8 * ((a + j) / 8)) < 2 ^ ((a + j) % 8) := by
   apply Nat.div_lt_of_lt_mul
   rw [← Nat.pow_add, hk]
   exact hP
 have hx2 := Nat.lt_of_le_of_lt (Nat.mod_le _ (2 ^ 8)) hx
 have h256 : 2 ^ (8 - (a + j) % 8) * 2 ^ ((a + j) % 8) = 256 := by rw [← Nat.pow_add, show 8 - (a + j) % 8 + (a + j) % 8 = 8 from by omega]
 have hd1 := Nat.mod_lt (v / 2 ^ j) (Nat.two_pow_pos (8 - (a + j) % 8))
 have hd2 : d + 2 ^ ((a + j) % 8) ≤ 256 := by
   have := Nat.mul_le_mul_right (2 ^ ((a + j) % 8)) (show v / 2 ^ j % 2 ^ (8 - (a + j) % 8) + 1 ≤ 2 ^ (8 - (a + j) % 8) from hd1)
   rw [h256, Nat.add_mul, Nat.one_mul] at this
   exact this
 refine ⟨hx2, by have := Nat.two_pow_pos ((a + j) % 8); omega, by omega, ?_⟩
 show _ = M + 2 ^ a * (v % 2 ^ j) + _
 rw [Nat.pow_add, Nat.mod_mul, Nat.mul_add, Nat.add_assoc]
 congr 2
 rw [← Nat.mul_assoc, ← Nat.pow_add]
 show 2 ^ (a + j) * _ = 2 ^ (8 * ((a + j) / 8)) * (v / 2 ^ j % 2 ^ (8 - (a + j) % 8) * 2 ^ ((a + j) % 8))
 rw [Nat.mul_comm (v / 2 ^ j % 2 ^ (8 - (a + j) % 8)), ← Nat.mul_assoc, ← Nat.pow_add, hk]
theorem lay_or {x v j s : Nat} (hs : s < 8) (hx : x < 2 ^ s) :
   bits .or .u8 (x : Int) (IntKind.u64.wrap ((v : Int) / 2 ^ j * 2 ^ s) % 256) = ((x + v / 2 ^ j % 2 ^ (8 - s) * 2 ^ s : Nat) : Int) := by
 have e1 : ((v : Int) / 2 ^ j * 2 ^ s) = ((v / 2 ^ j * 2 ^ s : Nat) : Int) := by norm_cast
 rw [e1, IntKind.wrap_u64]
 have h256 : (256 : Nat) = 2 ^ (8 - s) * 2 ^ s := by rw [← Nat.pow_add, show 8 - s + s = 8 from by omega]
 have e2 : v / 2 ^ j * 2 ^ s % 256 = v / 2 ^ j % 2 ^ (8 - s) * 2 ^ s := by rw [h256, Nat.mul_mod_mul_right]
 have hx8 : x < 256 := Nat.lt_of_lt_of_le hx (Nat.pow_le_pow_right (n := 2) (by omega) (show s ≤ 8 by omega))
 have hd : v / 2 ^ j % 2 ^ (8 - s) * 2 ^ s < 256 := by rw [← e2]; omega
 have hdm : v / 2 ^ j % 2 ^ (8 - s) * 2 ^ s % 2 ^ s = 0 := Nat.mul_mod_left _ _
 generalize v / 2 ^ j * 2 ^ s = Z at *
 generalize v / 2 ^ j % 2 ^ (8 - s) * 2 ^ s = d at *
 have e3 : (Z : Int) % 18446744073709551616 % 256 = (d : Int) := by omega
 rw [e3, u8_or_nat x d hx8 hd, Nat.or_comm, nat_join s d x hdm hx, Nat.add_comm]
set_option maxHeartbeats 1600000 in
theorem lay_any (A : Option Addr) (n c base a wd v M : Nat) (w : World) (hx : Own .u8 5 w base A c (upk 8 n M)) (hn : n ≤ 140737488355328) (hw : wd ≤ 64) (hk : a + wd ≤ 8 * n) (hv : v < 2 ^ wd) (hM : M < 2 ^ a) :
   Calls Tryz.prog 171 #[.slice A n c, .int .u64 a, .int .i64 wd, .int .u64 v] w fun e w' => e = .returned (.tuple #[]) ∧ Own .u8 5 w' base A c (upk 8 n (M + 2 ^ a * v)) ∧ w.grownBy w' (A.map (·.block)) := by
 have HM := Lib.hid hM
 have hv64 : v < 18446744073709551616 := Nat.lt_of_lt_of_le hv (Nat.pow_le_pow_right (by omega) hw)
 have Hv := Lib.hid hv
 clear hM hv
 go_enter Tryz.func171, Tryz.ntmps171
 go_wp2_with fail
 go_loopw [8, 9] (fun i _ wr => ∃ j : Nat, j ≤ wd + 7 ∧ i = .int .i64 j ∧ Own .u8 5 wr base A c (upk 8 n (M + 2 ^ a * (v % 2 ^ j))) ∧ w.grownBy wr (A.map (·.block))) (fun i _ _ => wd + 7 - (intOf i).toNat)
 case atStart => exact ⟨0, by omega, rfl, by rw [Nat.pow_zero, Nat.mod_one, Nat.mul_zero, Nat.add_zero]; exact hx, World.grownBy.refl _ _⟩
 case round =>
   obtain ⟨j, hj, rfl, hown, hg⟩ := hrel
   by_cases hlt : j < wd
   · obtain ⟨h1, h2, h3, h4⟩ := lay_step (M := M) (v := v) (a := a) (j := j) HM.out
     have hkn : (a + j) / 8 < n := by omega
     obtain ⟨b, rfl, hbb, hbl, hc, hf, hset⟩ := hown.at_ (show (a + j) / 8 < (upk 8 n (M + 2 ^ a * (v % 2 ^ j))).length by rw [upk_len]; exact hkn)
     rw [upk_at _ _ _ _ hkn] at hc
     obtain ⟨d, hd⟩ : ∃ d, d = v / 2 ^ j % 2 ^ (8 - (a + j) % 8) * 2 ^ ((a + j) % 8) := ⟨_, rfl⟩
     rw [← hd] at h2 h3 h4
     have hnew := upk_add (w := 8) (n := n) (N := M + 2 ^ a * (v % 2 ^ j)) hkn h3
     obtain ⟨x, hx'⟩ : ∃ x, x = (M + 2 ^ a * (v % 2 ^ j)) / 2 ^ (8 * ((a + j) / 8)) % 2 ^ 8 := ⟨_, rfl⟩
     rw [← hx'] at hc h1 h3 hnew
     have hor := lay_or (x := x) (v := v) (j := j) (Nat.mod_lt (a + j) (show 0 < 8 by omega)) h1
     rw [← hd] at hor
     obtain ⟨hs1, hs2⟩ := hset (x + d)
     rw [← hnew, ← h4] at hs1
     have Hs1 := Lib.hid hs1
     have Hg := Lib.hid (World.grownBy.trans hg hs2)
     have Hor := Lib.hid hor
     have f1 : IntKind.u64.wrap (((a : Int) + (j : Int)) / 8) = ((a : Int) + (j : Int)) / 8 := IntWalk.u64_in _ (by omega)
     have f2 : (((a : Int) + (j : Int)) / 8).toNat = (a + j) / 8 := by omega
     have f3 : (0 : Int) ≤ ((a : Int) + (j : Int)) / 8 := by omega
     have f4 : ((a : Int) + (j : Int)) / 8 < (n : Int) := by omega
     have f5 : ((a : Int) + (j : Int)).tmod 8 = ((a : Int) + (j : Int)) % 8 := Int.tmod_eq_emod_of_nonneg (by omega)
     have f6 : (((a : Int) + (j : Int)) % 8).toNat = (a + j) % 8 := by omega
     have f7 : (0 : Int) ≤ ((a : Int) + (j : Int)) % 8 := by omega
     clear hor hs1 hs2 hset hnew hx' hd hown hg h1 h2 h3 h4
     go_wp2_with fail
     go_region
     rw [Hor.out]
     go_wp2
     go_roundw
     case rel => exact ⟨j + (8 - (a + j) % 8), by omega, by go_num, Hs1.out.ext ((Ext.refl _).drew), ⟨Hg.out.os, Hg.out.tape, Hg.out.output, Hg.out.size, Hg.out.block⟩⟩
     case measure => simp [intOf]; omega
   · have hvm : v % 2 ^ j = v := Nat.mod_eq_of_lt (Nat.lt_of_lt_of_le Hv.out (Nat.pow_le_pow_right (by omega) (by omega)))
     rw [hvm] at hown
     go_wp2
     go_end0
     exact ⟨rfl, hown, hg⟩
end Go.Proofs.YthibbgmicmfkfaaGreat
-- part B8p
namespace Go.Proofs.YthibbgmicmfkfaaGreat
open Go.RowKit
def packE (wd : Int) (vs : List Nat) : Int := if wd < 0 ∨ 64 < wd then 1 else if 4096 < vs.length then 4 else if wd < (wdt vs : Int) then 10 else 0
def packB (wd : Nat) (vs : List Nat) : List Nat := upk 8 ((wd * vs.length + 7) / 8) (pk wd vs)
def packL (wd : Int) (vs : List Nat) : List Nat := if packE wd vs = 0 then packB wd.toNat vs else []
def PackPost (wd : Int) (vs : List Nat) (w : World) (e : Ending) (w' : World) : Prop :=
 ∃ A' c', e = .returned (.tuple #[.slice A' (packL wd vs).length c', .int .i64 (packE wd vs)]) ∧ Own .u8 5 w' w.heap.size A' c' (packL wd vs) ∧ Ext w w'
theorem PackPost.err {wd r : Int} {vs : List Nat} {w w' : World} (h : packE wd vs = r) (hr : r ≠ 0) (he : Ext w w') : PackPost wd vs w (.returned (.tuple #[.slice none 0 0, .int .i64 r])) w' := by
 have h0 : packL wd vs = [] := by unfold packL; rw [h, if_neg hr]
 refine ⟨none, 0, ?_, ?_, he⟩
 · rw [h0, h]; rfl
 · rw [h0]; exact Own.nil ..
theorem PackPost.ok {wd m : Nat} {vs : List Nat} {w w' : World} {A : Option Addr} {c : Nat} (h : packE wd vs = 0) (hm : m = (packB wd vs).length) (ho : Own .u8 5 w' w.heap.size A c (packB wd vs)) (he : Ext w w') :
   PackPost wd vs w (.returned (.tuple #[.slice A m c, .int .i64 0])) w' := by
 have h0 : packL wd vs = packB wd vs := by unfold packL; rw [h, if_pos rfl]; rfl
 refine ⟨A, c, ?_, ?_, he⟩
 · rw [h0, h, hm]
 · rw [h0]; exact ho
theorem packE_arg {wd : Int} {vs : List Nat} (h : wd < 0 ∨ 64 < wd) : packE wd vs = 1 := if_pos h
theorem packE_long {wd : Int} {vs : List Nat} (h : ¬ (wd < 0 ∨ 64 < wd)) (h2 : 4096 < vs.length) : packE wd vs = 4 := by unfold packE; rw [if_neg h, if_pos h2]
theorem packE_bits {wd : Int} {vs : List Nat} (h : ¬ (wd < 0 ∨ 64 < wd)) (h2 : ¬ 4096 < vs.length) (h3 : wd < (wdt vs : Int)) : packE wd vs = 10 := by unfold packE; rw [if_neg h, if_neg h2, if_pos h3]
theorem packE_ok {wd : Int} {vs : List Nat} (h : ¬ (wd < 0 ∨ 64 < wd)) (h2 : ¬ 4096 < vs.length) (h3 : ¬ wd < (wdt vs : Int)) : packE wd vs = 0 := by unfold packE; rw [if_neg h, if_neg h2, if_neg h3]
theorem Own.grown_ext {k : IntKind} {e : TypeId} {w0 w w' : World} {base c : Nat} {A : Option Addr} {xs : List Nat} (h : Own k e w base A c xs) (hE : Ext w0 w) (hb : w0.heap.size ≤ base) (hg : w.grownBy w' (A.map (·.block))) : Ext w0 w' :=
 grownBy_ext hE hg (by
   intro g hg
   cases hA : A with
   | none => rw [hA] at hg; simp at hg
   | some a => rw [hA] at hg; simp at hg; subst hg; exact Nat.le_trans hb (h.block a hA).1)
set_option maxHeartbeats 1600000 in
theorem pack_any (A : Option Addr) (n c : Nat) (wd : Int) (vs : List Nat) (w : World) (hx : Rd .u64 w A n vs) (hu : U64 vs) (hn : n * 8 ≤ 140737488355328) :
   Calls Tryz.prog 141 #[.int .i64 wd, .slice A n c] w (PackPost wd vs w) := by
 have hl := hx.len
 by_cases hw : wd < 0 ∨ 64 < wd
 · have HE := Lib.hid (packE_arg (vs := vs) hw)
   clear hl
   go_enter Tryz.func141, Tryz.ntmps141
   go_wp2_with (go_at_call 168; refine (isWidth_no _ _ hw).mono ?_; rintro e w1 ⟨rfl, rfl⟩)
   go_ret2
   exact PackPost.err HE.out (by decide) (Ext.refl _)
 · have hw0 : 0 ≤ wd := by omega
   have hw1 : wd ≤ 64 := by omega
   by_cases hlong : 4096 < n
   · have HE := Lib.hid (packE_long (vs := vs) hw (by omega))
     clear hl hw
     go_enter Tryz.func141, Tryz.ntmps141
     go_wp2_with (go_at_call 168; refine (isWidth_yes _ _ hw0 hw1).mono ?_; rintro e w1 ⟨rfl, rfl⟩)
     go_ret2
     exact PackPost.err HE.out (by decide) (Ext.refl _)
   · by_cases hbits : wd < (wdt vs : Int)
     · have HE := Lib.hid (packE_bits (vs := vs) hw (by omega) hbits)
       clear hl hw
       go_enter Tryz.func141, Tryz.ntmps141
       go_wp2_with (first | (go_at_call 168; refine (isWidth_yes _ _ hw0 hw1).mono ?_; rintro e w1 ⟨rfl, rfl⟩) | (go_at_call 169; refine (width_any _ _ _ vs _ hx hu (by omega)).mono ?_; rintro e w1 ⟨rfl, rfl⟩))
       go_ret2
       exact PackPost.err HE.out (by decide) (Ext.refl _)
     · have HE := Lib.hid (packE_ok (vs := vs) hw (by omega) hbits)
       obtain ⟨wn, rfl⟩ := Int.eq_ofNat_of_zero_le hw0
       have hwd : Wd wn vs := wdt_le.1 (by omega)
       have hmul : (wn : Int) * (n : Int) = ((wn * n : Nat) : Int) := by norm_cast
       have hmb : wn * n ≤ 64 * 4096 := Nat.mul_le_mul (by omega) (by omega)
       obtain ⟨k, hk⟩ : ∃ k, k = wn * n := ⟨_, rfl⟩
       rw [← hk] at hmul hmb
       obtain ⟨nb, hnb⟩ : ∃ nb, nb = (k + 7) / 8 := ⟨_, rfl⟩
       have hnb2 : ((k : Int) + 7) / 8 = (nb : Int) := by omega
       have hpb : packB wn vs = upk 8 nb (pk wn vs) := by unfold packB; rw [hl, ← hk, ← hnb]
       have h8 : k ≤ 8 * nb := by omega
       have hnbb : nb ≤ 40000 := by omega
       have Hl := Lib.hid hl
       have Hk := Lib.hid hk
       have Hmul := Lib.hid hmul
       have Hwd := Lib.hid hwd
       have Hpb := Lib.hid hpb
       clear hl hk hmul hnb hpb hwd hw
       go_enter Tryz.func141, Tryz.ntmps141
       go_wp2_with (first | (go_at_call 168; refine (isWidth_yes _ _ hw0 hw1).mono ?_; rintro e w1 ⟨rfl, rfl⟩) | (go_at_call 169; refine (width_any _ _ _ vs _ hx hu (by omega)).mono ?_; rintro e w1 ⟨rfl, rfl⟩) | (go_at_call 170; refine (bytesFor_any _ _ _ hw0 hw1 (by omega) (by omega) (by rw [Hmul.out]; omega) (by rw [Hmul.out]; omega)).mono ?_; rintro e w1 ⟨rfl, rfl⟩; rw [Hmul.out, hnb2]) | (at_make; refine wpList_mk .u8 5 rfl _ _ 22 rfl 1 Tryz.underlying22 Tryz.infoU8 _ _ nb rfl rfl rfl rfl (by omega) (by omega) ?_; intro w2 hown2 he2))
       have h0 : Own .u8 5 w2 w.heap.size (some ⟨w.heap.size, 0, none⟩) nb (upk 8 nb (pk wn (vs.take 0))) := by rw [List.take_zero]; show Own _ _ _ _ _ _ (upk 8 nb 0); rw [upk_zero]; exact hown2
       clear hown2
       go_loopw [25] (fun i wr => ∃ j : Nat, j ≤ n ∧ i = .int .i64 j ∧ Own .u8 5 wr w.heap.size (some ⟨w.heap.size, 0, none⟩) nb (upk 8 nb (pk wn (vs.take j))) ∧ Ext w wr) (fun i _ => n - (intOf i).toNat)
       case atStart => exact ⟨0, Nat.zero_le _, rfl, h0, he2⟩
       case round =>
         clear h0 he2
         obtain ⟨j, hj, rfl, hown, he⟩ := hrel
         by_cases hlt : j < n
         · have hle1 : wn * j + wn ≤ k := by
             have := Nat.mul_le_mul_left wn (show j + 1 ≤ n by omega)
             rw [Nat.mul_add, Nat.mul_one, ← Hk.out] at this
             exact this
           have hmj : (wn : Int) * (j : Int) = ((wn * j : Nat) : Int) := by norm_cast
           have hmj0 : (0 : Int) ≤ (wn : Int) * (j : Int) := by omega
           have hmj1 : (wn : Int) * (j : Int) ≤ 18446744073709551615 := by omega
           have Hmj := Lib.hid hmj
           obtain ⟨b, o, rfl, hb, hc⟩ := (hx.ext he).at_ hlt
           have hjl : j < vs.length := by have := Hl.out; omega
           have hvw : vs.getD j 0 < 2 ^ wn := by
             have := Hwd.out _ (List.getElem_mem hjl)
             simpa [List.getD, hjl] using this
           have hM : pk wn (vs.take j) < 2 ^ (wn * j) := by
             have := pk_lt (w := wn) (vs := vs.take j) (fun v hv => Hwd.out v (List.mem_of_mem_take hv))
             rwa [List.length_take, Nat.min_eq_left (by omega)] at this
           have hsn : pk wn (vs.take j) + 2 ^ (wn * j) * vs.getD j 0 = pk wn (vs.take (j + 1)) := by rw [take_next _ _ hjl, pk_snoc, List.length_take, Nat.min_eq_left (by omega)]
           obtain ⟨v, hv⟩ : ∃ v, v = vs.getD j 0 := ⟨_, rfl⟩
           rw [← hv] at hc hvw hsn
           have Hvw := Lib.hid hvw
           have HM := Lib.hid hM
           have Hsn := Lib.hid hsn
           clear hv hvw hM hsn hmj
           go_wp2_with fail
           go_region_with (first | (go_at_call 172; refine (place_any _ _ _ hw0 hw1 (by omega) (by omega) hmj0 hmj1).mono ?_; rintro e w1 ⟨rfl, rfl⟩; rw [Hmj.out]) | (go_at_call 171; refine (lay_any (some ⟨w.heap.size, 0, none⟩) nb nb w.heap.size (wn * j) wn v (pk wn (vs.take j)) _ ?_ (by omega) (by omega) (by omega) Hvw.out HM.out).mono ?_; exact hown.ext ((Ext.refl _).drew); rintro e w1 ⟨rfl, hown1, hg1⟩))
           all_goals
             rw [Hsn.out] at hown1
             have he1 := Lib.hid (Own.grown_ext (hown.ext ((Ext.refl _).drew)) he.drew (Nat.le_refl _) hg1)
             have Ho1 := Lib.hid hown1
             clear hown1 hg1 hown he
             go_wp2
             go_roundw
             case rel => exact ⟨j + 1, by omega, by go_num, Ho1.out, he1.out⟩
             case measure => simp [intOf]; omega
         · obtain rfl : j = n := by omega
           rw [List.take_of_length_le (Nat.le_of_eq Hl.out)] at hown
           go_wp2
           go_ret2
           exact PackPost.ok HE.out (by rw [Hpb.out, upk_len]) (by rw [Hpb.out]; exact hown) he
end Go.Proofs.YthibbgmicmfkfaaGreat
-- part B9p
namespace Go.Proofs.YthibbgmicmfkfaaGreat
open Go.RowKit
theorem num_bit {N w a x j : Nat} (hx : N / 2 ^ a % 2 ^ w = x) (hj : j < w) : x / 2 ^ j % 2 = bitAt N (a + j) := by
 unfold bitAt
 have hw : 2 ^ w = 2 ^ j * 2 ^ (w - j) := by rw [← Nat.pow_add]; congr 1; omega
 have hw2 : 2 ^ (w - j) = 2 * 2 ^ (w - j - 1) := by rw [Nat.mul_comm, ← Nat.pow_succ]; congr 1; omega
 rw [← hx, hw, Nat.mod_mul_right_div_self, Nat.div_div_eq_div_mul, ← Nat.pow_add, hw2, Nat.mod_mul_right_mod]
theorem bit_step {S k : Nat} :
   let M := S % 2 ^ k
   let β := bitAt S k
   M / 2 ^ (8 * (k / 8)) % 2 ^ 8 < 2 ^ (k % 8) ∧ M / 2 ^ (8 * (k / 8)) % 2 ^ 8 + β * pw (k % 8) < 256 ∧
     (upk 8 (k / 8 + 1) M).set (k / 8) (M / 2 ^ (8 * (k / 8)) % 2 ^ 8 + β * pw (k % 8)) = upk 8 ((k + 1 + 7) / 8) (S % 2 ^ (k + 1)) ∧
     (k % 8 = 0 → upk 8 ((k + 7) / 8) M ++ [0] = upk 8 (k / 8 + 1) M) := by
 intro M β
 have hk : 8 * (k / 8) + k % 8 = k := by omega
 have hs : k % 8 < 8 := Nat.mod_lt _ (by omega)
 have hM : M < 2 ^ k := Nat.mod_lt _ (Nat.two_pow_pos k)
 have hβ : β < 2 := bitAt_lt S k
 have hx : M / 2 ^ (8 * (k / 8)) < 2 ^ (k % 8) := by
   apply Nat.div_lt_of_lt_mul
   rw [← Nat.pow_add, hk]
   exact hM
 have hx2 := Nat.lt_of_le_of_lt (Nat.mod_le (M / 2 ^ (8 * (k / 8))) (2 ^ 8)) hx
 have hp : 2 ^ (k % 8) * 2 ≤ 256 := by rw [← Nat.pow_succ]; exact Nat.pow_le_pow_right (n := 2) (by omega) (show k % 8 + 1 ≤ 8 by omega)
 have hb : β * pw (k % 8) ≤ 2 ^ (k % 8) := by
   have := Nat.mul_le_mul_right (2 ^ (k % 8)) (show β ≤ 1 by omega)
   rw [Nat.one_mul] at this
   exact this
 have hlt : M / 2 ^ (8 * (k / 8)) % 2 ^ 8 + β * pw (k % 8) < 256 := by omega
 refine ⟨hx2, hlt, ?_, ?_⟩
 · rw [← upk_add (by omega) hlt, show (k + 1 + 7) / 8 = k / 8 + 1 from by omega]
   congr 1
   show M + 2 ^ (8 * (k / 8)) * (β * 2 ^ (k % 8)) = _
   rw [Nat.mul_comm β, ← Nat.mul_assoc, ← Nat.pow_add, hk, Nat.pow_succ, Nat.mod_mul]
   rfl
 · intro h0
   have hz : M / 2 ^ (8 * (k / 8)) = 0 := Nat.div_eq_of_lt (by rw [show 8 * (k / 8) = k from by omega]; exact hM)
   rw [show (k + 7) / 8 = k / 8 from by omega, upk_snoc, hz]
set_option maxHeartbeats 3200000 in
theorem refPack_any (A : Option Addr) (n c : Nat) (wd : Int) (vs : List Nat) (w : World) (hx : Rd .u64 w A n vs) (hu : U64 vs) (hn : n * 8 ≤ 140737488355328) :
   Calls Tryz.prog 165 #[.int .i64 wd, .slice A n c] w (PackPost wd vs w) := by
 have hl := hx.len
 by_cases hw : wd < 0 ∨ 64 < wd
 · have HE := Lib.hid (packE_arg (vs := vs) hw)
   clear hl
   go_enter Tryz.func165, Tryz.ntmps165
   rcases hw with h | h
   · go_wp2
     go_ret2
     exact PackPost.err HE.out (by decide) (Ext.refl _)
   · by_cases h2 : wd < 0
     all_goals
       go_wp2
       go_ret2
       exact PackPost.err HE.out (by decide) (Ext.refl _)
 · have hw0 : 0 ≤ wd := by omega
   have hw1 : wd ≤ 64 := by omega
   have b1 : decide (wd < 0) = false := by simp; omega
   have b2 : decide (64 < wd) = false := by simp; omega
   by_cases hlong : 4096 < n
   · have HE := Lib.hid (packE_long (vs := vs) hw (by omega))
     clear hl hw
     go_enter Tryz.func165, Tryz.ntmps165
     go_wp2
     go_ret2
     exact PackPost.err HE.out (by decide) (Ext.refl _)
   · have b3 : decide (4096 < (n : Int)) = false := by simp; omega
     by_cases hbits : wd < (wdt vs : Int)
     · have HE := Lib.hid (packE_bits (vs := vs) hw (by omega) hbits)
       clear hl hw
       go_enter Tryz.func165, Tryz.ntmps165
       go_wp2_with (go_at_call 84; refine (refWidth_any _ _ _ vs _ hx hu (by omega)).mono ?_; rintro e w1 ⟨rfl, rfl⟩)
       go_ret2
       exact PackPost.err HE.out (by decide) (Ext.refl _)
     · have HE := Lib.hid (packE_ok (vs := vs) hw (by omega) hbits)
       have b4 : decide (wd < (wdt vs : Int)) = false := by simp; omega
       obtain ⟨wn, rfl⟩ := Int.eq_ofNat_of_zero_le hw0
       have b5 : decide (wn < wdt vs) = false := by simp; omega
       have hwd : Wd wn vs := wdt_le.1 (by omega)
       obtain ⟨S, hS⟩ : ∃ S, S = pk wn vs := ⟨_, rfl⟩
       have Hat := Lib.hid (fun i => pk_at hwd i)
       rw [← hS] at Hat
       have hend : packB wn vs = upk 8 ((wn * n + 7) / 8) (S % 2 ^ (wn * n)) := by
         unfold packB
         rw [hl, hS, Nat.mod_eq_of_lt (by have := pk_lt hwd; rwa [hl] at this)]
       have hmb : wn * n ≤ 64 * 4096 := Nat.mul_le_mul (by omega) (by omega)
       have Hl := Lib.hid hl
       have Hend := Lib.hid hend
       clear hl hwd hw hend hS
       go_enter Tryz.func165, Tryz.ntmps165
       go_wp2_with (go_at_call 84; refine (refWidth_any _ _ _ vs _ hx hu (by omega)).mono ?_; rintro e w1 ⟨rfl, rfl⟩)
       go_loopw [6, 7, 8, 9, 10] (fun v kk i _ _ wr => ∃ (j : Nat) (A' : Option Addr) (c' : Nat), j ≤ n ∧ i = .int .i64 j ∧ kk = .int .i64 (wn * j : Nat) ∧ v = .slice A' ((wn * j + 7) / 8 : Nat) c' ∧ Own .u8 5 wr w.heap.size A' c' (upk 8 ((wn * j + 7) / 8) (S % 2 ^ (wn * j))) ∧ Ext w wr) (fun _ _ i _ _ _ => n - (intOf i).toNat)
       case atStart => exact ⟨0, _, _, Nat.zero_le _, rfl, rfl, by rw [Nat.mul_zero], by rw [Nat.mul_zero]; exact Own.made _ _ w (Nat.le_refl _), (Ext.refl w).alloc _⟩
       case round =>
         obtain ⟨j, A', c', hj, rfl, rfl, rfl, hown, he⟩ := hrel
         by_cases hlt : j < n
         · obtain ⟨b, o, rfl, hb, hc⟩ := (hx.ext he).at_ hlt
           have hx64 := hu.at_ j
           have hxa := Hat.out j
           have hle1 : wn * j + wn ≤ wn * n := by
             have := Nat.mul_le_mul_left wn (show j + 1 ≤ n by omega)
             rw [Nat.mul_add, Nat.mul_one] at this
             exact this
           obtain ⟨x, hx'⟩ : ∃ x, x = vs.getD j 0 := ⟨_, rfl⟩
           rw [← hx'] at hc hx64 hxa
           have Hxa := Lib.hid hxa
           clear hx' hxa
           obtain ⟨K, hK⟩ : ∃ K, K = wn * j := ⟨_, rfl⟩
           rw [← hK] at Hxa hle1 hown ⊢
           have HK := Lib.hid hK
           clear hK
           go_wp2_with fail
           go_loopw [6, 7, 9, 10] (fun v kk y i wr => ∃ (t : Nat) (A' : Option Addr) (c' : Nat), t ≤ wn ∧ i = .int .i64 t ∧ kk = .int .i64 (K + t : Nat) ∧ y = .int .u64 (x / 2 ^ t : Nat) ∧ v = .slice A' ((K + t + 7) / 8 : Nat) c' ∧ Own .u8 5 wr w.heap.size A' c' (upk 8 ((K + t + 7) / 8) (S % 2 ^ (K + t))) ∧ Ext w wr) (fun _ _ _ i _ => wn - (intOf i).toNat)
           case atStart => exact ⟨0, _, _, Nat.zero_le _, rfl, rfl, by rw [Nat.pow_zero, Nat.div_one], rfl, hown, he⟩
           case round =>
             clear hown he
             obtain ⟨t, A', c', ht, rfl, rfl, rfl, rfl, hown, he⟩ := hrel
             by_cases hlt2 : t < wn
             · have hbs := bit_step (S := S) (k := K + t)
               have hnb := num_bit (j := t) Hxa.out hlt2
               have hxt : x / 2 ^ t < 18446744073709551616 := Nat.lt_of_le_of_lt (Nat.div_le_self _ _) hx64
               obtain ⟨y, hy⟩ : ∃ y, y = x / 2 ^ t := ⟨_, rfl⟩
               have hy2 : x / 2 ^ (t + 1) = y / 2 := by rw [hy, Nat.div_div_eq_div_mul, ← Nat.pow_succ]
               rw [← hy] at hnb hxt ⊢
               have Hy2 := Lib.hid hy2
               obtain ⟨k, hk⟩ : ∃ k, k = K + t := ⟨_, rfl⟩
               have hk1 : K + (t + 1) = k + 1 := by omega
               rw [← hk] at hbs hnb hown ⊢
               have hkb : k ≤ 262144 := by omega
               have Hk1 := Lib.hid hk1
               obtain ⟨h1, h2, h3, h4⟩ := hbs
               obtain ⟨x0, hx0⟩ : ∃ x0, x0 = S % 2 ^ k / 2 ^ (8 * (k / 8)) % 2 ^ 8 := ⟨_, rfl⟩
               rw [← hnb] at h2 h3
               clear hy hy2 hk hk1 hnb
               have hpw := pw_le (show k % 8 ≤ 7 by omega)
               have hmul : y % 2 * pw (k % 8) ≤ 128 := by
                 have := Nat.mul_le_mul (show y % 2 ≤ 1 by omega) (show pw (k % 8) ≤ 128 from hpw)
                 omega
               have hmc : ((y % 2 : Nat) : Int) * ((pw (k % 8) : Nat) : Int) = ((y % 2 * pw (k % 8) : Nat) : Int) := by norm_cast
               have f2 : ((k : Int) / 8).toNat = k / 8 := by omega
               have f3 : (0 : Int) ≤ (k : Int) / 8 := by omega
               have f6 : ((k : Int) % 8).toNat = k % 8 := by omega
               have hz := he.size
               by_cases hk0 : k % 8 = 0
               · have h4' := h4 hk0
                 have hk0' : (((k : Int) % 8) == 0) = true := by rw [beq_iff_eq]; omega
                 have f4 : (k : Int) / 8 < ((k : Int) + 7) / 8 + 1 := by omega
                 have f5 : IntKind.i64.wrap ((k : Int) / 8) = (k : Int) / 8 := IntWalk.i64_in _ (by omega)
                 have f7 : (k : Int).tmod 8 = (k : Int) % 8 := Int.tmod_eq_emod_of_nonneg (by omega)
                 have f8 : (y : Int).tmod 2 = (y : Int) % 2 := Int.tmod_eq_emod_of_nonneg (by omega)
                 have Hk0 := Lib.hid hk0
                 clear h4 hk0
                 go_wp2_with (at_builtin; refine wpList_push .u8 0 5 rfl _ _ 22 rfl _ 1 Tryz.underlying22 Tryz.infoU8 rfl hown ((k + 7) / 8) (upk_len ..) rfl rfl rfl (by omega) (by omega) he hz ?_; intro A1 c1 w1 hown1 hb1 hz1)
                 rw [h4'] at hown1
                 obtain ⟨b2, rfl, hbase, hblt, hcell, hfro, hset⟩ := hown1.at_ (show k / 8 < (upk 8 (k / 8 + 1) (S % 2 ^ k)).length by rw [upk_len]; omega)
                 rw [upk_at _ _ _ _ (show k / 8 < k / 8 + 1 by omega), ← hx0] at hcell
                 rw [← hx0] at h1 h2 h3
                 obtain ⟨hs1, hs2⟩ := hset (x0 + y % 2 * pw (k % 8))
                 rw [h3] at hs1
                 have Hs1 := Lib.hid hs1
                 have He := Lib.hid (Ext.setCell hb1 (p := ⟨b2, k / 8, none⟩) hbase (.int .u8 ((x0 + y % 2 * pw (k % 8) : Nat) : Int)))
                 have hval : IntKind.u8.wrap ((x0 : Int) + IntKind.u8.wrap (IntKind.u64.wrap (((y : Int) % 2) * (pw (k % 8) : Int)))) = ((x0 + y % 2 * pw (k % 8) : Nat) : Int) := by
                   rw [show (y : Int) % 2 = ((y % 2 : Nat) : Int) from by omega, hmc]
                   generalize y % 2 * pw (k % 8) = z at *
                   rw [IntWalk.u64_in (z : Int) (by omega), IntWalk.u8_in (z : Int) (by omega), IntWalk.u8_in _ (by omega)]
                   omega
                 have Hval := Lib.hid hval
                 have Hy := Lib.hid Hy2.out
                 clear hval hs1 hs2 hset h3 hx0 hmc hown he hown1 hb1
                 go_region_with (go_at_call 160; refine (power_any _ _ (by omega) (by omega)).mono ?_; rintro e w' ⟨rfl, rfl⟩)
                 all_goals
                   rw [Hval.out]
                   go_wp2
                   go_roundw
                   case rel => exact ⟨t + 1, _, _, by omega, by go_num, by rw [Hk1.out]; go_num, by rw [Hy.out]; go_num, by rw [Hk1.out, show (k + 1 + 7) / 8 = (k + 7) / 8 + 1 from by have := Hk0.out; omega], by rw [Hk1.out]; exact Hs1.out.ext ((Ext.refl _).drew), Ext.drew He.out⟩
                   case measure => simp [intOf]; omega
               · have hlen : (k + 7) / 8 = k / 8 + 1 := by omega
                 rw [hlen] at hown
                 rw [hlen]
                 have hb1 := he
                 have hk0' : (((k : Int) % 8) == 0) = false := by rw [beq_eq_false_iff_ne]; omega
                 have f4 : (k : Int) / 8 < (k : Int) / 8 + 1 := by omega
                 have f5 : IntKind.i64.wrap ((k : Int) / 8) = (k : Int) / 8 := IntWalk.i64_in _ (by omega)
                 have f7 : (k : Int).tmod 8 = (k : Int) % 8 := Int.tmod_eq_emod_of_nonneg (by omega)
                 have f8 : (y : Int).tmod 2 = (y : Int) % 2 := Int.tmod_eq_emod_of_nonneg (by omega)
                 have Hk0 := Lib.hid hk0
                 clear h4 hk0
                 have hown1 := hown
                 clear hown
                 go_wp2_with fail
                 obtain ⟨b2, rfl, hbase, hblt, hcell, hfro, hset⟩ := hown1.at_ (show k / 8 < (upk 8 (k / 8 + 1) (S % 2 ^ k)).length by rw [upk_len]; omega)
                 rw [upk_at _ _ _ _ (show k / 8 < k / 8 + 1 by omega), ← hx0] at hcell
                 rw [← hx0] at h1 h2 h3
                 obtain ⟨hs1, hs2⟩ := hset (x0 + y % 2 * pw (k % 8))
                 rw [h3] at hs1
                 have Hs1 := Lib.hid hs1
                 have He := Lib.hid (Ext.setCell hb1 (p := ⟨b2, k / 8, none⟩) hbase (.int .u8 ((x0 + y % 2 * pw (k % 8) : Nat) : Int)))
                 have hval : IntKind.u8.wrap ((x0 : Int) + IntKind.u8.wrap (IntKind.u64.wrap (((y : Int) % 2) * (pw (k % 8) : Int)))) = ((x0 + y % 2 * pw (k % 8) : Nat) : Int) := by
                   rw [show (y : Int) % 2 = ((y % 2 : Nat) : Int) from by omega, hmc]
                   generalize y % 2 * pw (k % 8) = z at *
                   rw [IntWalk.u64_in (z : Int) (by omega), IntWalk.u8_in (z : Int) (by omega), IntWalk.u8_in _ (by omega)]
                   omega
                 have Hval := Lib.hid hval
                 have Hy := Lib.hid Hy2.out
                 clear hval hs1 hs2 hset h3 hx0 hmc he hown1 hb1 hlen
                 go_region_with (go_at_call 160; refine (power_any _ _ (by omega) (by omega)).mono ?_; rintro e w' ⟨rfl, rfl⟩)
                 all_goals
                   rw [Hval.out]
                   go_wp2
                   go_roundw
                   case rel => exact ⟨t + 1, _, _, by omega, by go_num, by rw [Hk1.out]; go_num, by rw [Hy.out]; go_num, by rw [Hk1.out, show (k + 1 + 7) / 8 = k / 8 + 1 from by have := Hk0.out; omega], by rw [Hk1.out]; exact Hs1.out.ext ((Ext.refl _).drew), Ext.drew He.out⟩
                   case measure => simp [intOf]; omega
             · obtain rfl : t = wn := by omega
               have hKt : K + t = t * (j + 1) := by rw [HK.out, Nat.mul_succ]
               rw [hKt] at hown ⊢
               go_wp2
               go_roundw
               case rel => exact ⟨j + 1, _, _, by omega, by go_num, rfl, rfl, hown, he⟩
               case measure => simp [intOf]; omega
         · obtain rfl : j = n := by omega
           go_wp2
           go_ret2
           exact PackPost.ok HE.out (by rw [Hend.out, upk_len]) (by rw [Hend.out]; exact hown) he
end Go.Proofs.YthibbgmicmfkfaaGreat
namespace Go.Proofs.YthibbgmicmfkfaaGreat
open Go.RowKit
set_option maxRecDepth 100000
theorem foldl_min_le (r : List Int) (x : Int) : r.foldl min x ≤ x ∧ ∀ v ∈ r, r.foldl min x ≤ v := by
 induction r generalizing x with
 | nil => exact ⟨Int.le_refl _, fun v hv => by cases hv⟩
 | cons y r ih =>
   obtain ⟨h1, h2⟩ := ih (min x y)
   refine ⟨by rw [List.foldl_cons]; omega, fun v hv => ?_⟩
   rw [List.foldl_cons]
   rcases List.mem_cons.1 hv with rfl | hv
   · omega
   · exact h2 v hv
theorem foldl_min_mem (r : List Int) (x : Int) : r.foldl min x = x ∨ r.foldl min x ∈ r := by
 induction r generalizing x with
 | nil => exact .inl rfl
 | cons y r ih =>
   rw [List.foldl_cons]
   rcases ih (min x y) with h | h
   · rcases Int.le_total x y with hxy | hxy
     · left; rw [h]; omega
     · right; rw [h, show min x y = y by omega]; simp
   · exact .inr (List.mem_cons_of_mem _ h)
theorem lo_le {xs : List Int} : ∀ v ∈ xs, lo xs ≤ v := by
 cases xs with
 | nil => intro v hv; cases hv
 | cons x r =>
   intro v hv
   rcases List.mem_cons.1 hv with rfl | hv
   · exact (foldl_min_le r v).1
   · exact (foldl_min_le r x).2 v hv
theorem lo_mem {xs : List Int} (h : 0 < xs.length) : lo xs ∈ xs := by
 cases xs with
 | nil => simp at h
 | cons x r =>
   rcases foldl_min_mem r x with h | h
   · show r.foldl min x ∈ x :: r
     rw [h]; simp
   · exact List.mem_cons_of_mem _ h
def dst (l : Int) (vs : List Int) : List Nat := vs.map fun v => (v - l).toNat
theorem dst_len (l : Int) (vs : List Int) : (dst l vs).length = vs.length := by simp [dst]
theorem dst_at {l : Int} {vs : List Int} {j : Nat} (h : j < vs.length) : (dst l vs).getD j 0 = (vs.getD j 0 - l).toNat := by simp [dst, List.getD, h]
theorem dst_u64 {l : Int} {vs : List Int} (hv : R64s vs) (hl : R64 l) : U64 (dst l vs) := by
 intro x hx
 obtain ⟨v, hvv, rfl⟩ := List.mem_map.1 hx
 have := hv v hvv
 unfold R64 at this hl
 omega
theorem wrap_dist {v l : Int} (hv : R64 v) (hl : R64 l) (h : l ≤ v) : IntKind.u64.wrap (IntKind.u64.wrap v - IntKind.u64.wrap l) = v - l := by
 simp only [IntKind.wrap_u64]
 unfold R64 at hv hl
 omega
theorem set_next {xs : List Nat} {n j : Nat} (hl : xs.length = n) (h : j < n) : (xs.take j ++ List.replicate (n - j) 0).set j (xs.getD j 0) = xs.take (j + 1) ++ List.replicate (n - (j + 1)) 0 := by
 have h1 : (xs.take j).length = j := by rw [List.length_take]; omega
 rw [List.set_append_right _ _ (by omega), h1, Nat.sub_self, show n - j = (n - (j + 1)) + 1 from by omega, List.replicate_succ, List.set_cons_zero, take_next xs j (by omega)]
 simp
set_option maxHeartbeats 1600000 in
theorem distances_any (l : Int) (A : Option Addr) (n c : Nat) (vs : List Int) (w : World) (hx : RdG shZ w A n vs) (hv : R64s vs) (hl : R64 l) (hle : ∀ v ∈ vs, l ≤ v) (hn : n ≤ 4096) :
   Calls Tryz.prog 176 #[.int .i64 l, .slice A n c] w fun e w' => ∃ A' c', e = .returned (.slice A' n c') ∧ Own .u64 69 w' w.heap.size A' c' (dst l vs) ∧ Ext w w' := by
 have Hl := Lib.hid hx.len
 obtain ⟨D, hD⟩ : ∃ D, D = dst l vs := ⟨_, rfl⟩
 rw [← hD]
 have HD := Lib.hid hD
 have HDl := Lib.hid (show D.length = n by rw [hD, dst_len]; exact Hl.out)
 have Hv := Lib.hid hv
 have Hle := Lib.hid hle
 have HL := Lib.hid hl
 clear hD hv hle hl
 go_enter Tryz.func176, Tryz.ntmps176
 go_wp2_with (refine wpList_mk .u64 69 rfl _ _ 72 rfl 8 Tryz.underlying72 Tryz.infoU64 .i64 .i64 n rfl rfl rfl rfl (by omega) (by omega) ?_; intro w1 hown1 he1)
 go_loopw [12] (fun i wr => ∃ j : Nat, j ≤ n ∧ i = .int .i64 j ∧ Own .u64 69 wr w.heap.size (some ⟨w.heap.size, 0, none⟩) n (D.take j ++ List.replicate (n - j) 0) ∧ Ext w wr) (fun i _ => n - (intOf i).toNat)
 case atStart => exact ⟨0, Nat.zero_le _, rfl, by simpa using hown1, he1⟩
 case round =>
   obtain ⟨j, hj, rfl, hown, hE⟩ := hrel
   by_cases hlt : j < n
   · obtain ⟨b, o, rfl, hbl, hc⟩ := (hx.ext hE).atZ hlt
     have hjl : j < (D.take j ++ List.replicate (n - j) 0).length := by rw [List.length_append, List.length_take, List.length_replicate, HDl.out]; omega
     obtain ⟨b', hA', hbb', hbl', hc', hf', hst⟩ := hown.at_ hjl
     injection hA' with hA'
     injection hA' with hA'
     subst hA'
     have hmem : vs.getD j 0 ∈ vs := by rw [List.getD, List.getElem?_eq_getElem (by have := Hl.out; omega)]; exact List.getElem_mem _
     have h64 := Hv.out _ hmem
     have hlev := Hle.out _ hmem
     have hDj := dst_at (l := l) (vs := vs) (j := j) (by have := Hl.out; omega)
     rw [← HD.out] at hDj
     obtain ⟨v, hve⟩ : ∃ v, v = vs.getD j 0 := ⟨_, rfl⟩
     rw [← hve] at hc h64 hlev hDj
     obtain ⟨x, hxe⟩ : ∃ x, x = D.getD j 0 := ⟨_, rfl⟩
     have hstep := set_next HDl.out hlt
     obtain ⟨hs1, hs2⟩ := hst x
     rw [hxe, hstep] at hs1
     rw [← hxe] at hDj
     have hw := wrap_dist h64 HL.out hlev
     rw [show v - l = (x : Int) by omega] at hw
     have Hs1 := Lib.hid hs1
     rw [← hxe] at Hs1
     have He := Lib.hid (hE.setCell (p := ⟨w.heap.size, j, none⟩) (Nat.le_refl _) (.int .u64 (x : Int)))
     obtain ⟨old, hold⟩ : ∃ v, v = Value.int .u64 (((D.take j ++ List.replicate (n - j) 0).getD j 0 : Nat) : Int) := ⟨_, rfl⟩
     rw [← hold] at hc'
     clear hold hs1 hs2 hst hown hE hxe hDj hstep hjl hmem h64 hlev hve
     go_wp2_with fail
     go_roundw
     case rel => exact ⟨j + 1, by omega, by go_num, Hs1.out, He.out⟩
     case measure => simp [intOf]; omega
   · obtain rfl : j = n := by omega
     rw [Nat.sub_self, List.replicate_zero, List.append_nil, List.take_of_length_le (by have := HDl.out; omega)] at hown
     go_wp2_with fail
     go_ret
     exact ⟨_, _, rfl, hown, hE⟩
theorem refFold_any (v : Int) (w : World) (h0 : -9223372036854775808 ≤ v) (h1 : v ≤ 9223372036854775807) :
   Calls Tryz.prog 196 #[.int .i64 v] w fun e w' => e = .returned (.int .u64 (foldS v)) ∧ w = w' := by
 obtain ⟨R, hR⟩ : ∃ R, R = foldS v := ⟨_, rfl⟩
 rw [← hR]
 unfold foldS at hR
 have HR := Lib.hid hR
 clear hR
 by_cases h : v < 0
 · have b1 : decide (0 ≤ v) = false := decide_eq_false (by omega)
   have h3 := HR.out
   rw [if_pos h] at h3
   have H3 := Lib.hid h3
   clear h3
   go_enter Tryz.func196, Tryz.ntmps196
   go_wp2
   go_ret
   refine ⟨ret_int ?_, rfl⟩
   have := H3.out
   omega
 · have h2 : 0 ≤ v := by omega
   have h3 := HR.out
   rw [if_neg h] at h3
   have H3 := Lib.hid h3
   clear h3
   go_enter Tryz.func196, Tryz.ntmps196
   go_wp2
   go_ret
   refine ⟨ret_int ?_, rfl⟩
   have := H3.out
   omega
def wid (vs : List Int) : Nat := wdt (dst (lo vs) vs)
def encP (vs : List Int) : List Nat := if vs.length = 0 then vput 0 else vput vs.length ++ (vput (foldS (lo vs)).toNat ++ ([wid vs] ++ packB (wid vs) (dst (lo vs) vs)))
def encode9 (vs : List Int) : List Nat × Int := if 4096 < vs.length then ([], 4) else (encP vs, 0)
def Enc9Post (vs : List Int) (w : World) (e : Ending) (w' : World) : Prop :=
 ∃ A' c', e = .returned (.tuple #[.slice A' (encode9 vs).1.length c', .int .i64 (encode9 vs).2]) ∧ Own .u8 5 w' w.heap.size A' c' (encode9 vs).1 ∧ Ext w w'
theorem wid_le {vs : List Int} (h : R64s vs) (hn : 0 < vs.length) : wid vs ≤ 64 := wdt_le.2 (U64_wd.1 (dst_u64 h (h _ (lo_mem hn))))
theorem packB_len9 (wd : Nat) (vs : List Nat) : (packB wd vs).length = (wd * vs.length + 7) / 8 := upk_len ..
theorem pack_dst {vs : List Int} (h : R64s vs) (hn : 0 < vs.length) (h4 : vs.length ≤ 4096) : packE (wid vs) (dst (lo vs) vs) = 0 ∧ packL (wid vs) (dst (lo vs) vs) = packB (wid vs) (dst (lo vs) vs) := by
 have h1 := wid_le h hn
 have hE : packE (wid vs) (dst (lo vs) vs) = 0 := packE_ok (by omega) (by rw [dst_len]; omega) (by show ¬ ((wid vs : Nat) : Int) < ((wid vs : Nat) : Int); omega)
 exact ⟨hE, by unfold packL; rw [if_pos hE]; rfl⟩
theorem RdSS.four (e : TypeId) (w : World) {b n c n2 c2 n3 c3 n4 c4 : Nat} {A A2 A3 A4 : Option Addr} {xs ys zs us : List Nat} (hb : w.heap.size = b) (h : Rd .u8 w A n xs) (h2 : Rd .u8 w A2 n2 ys) (h3 : Rd .u8 w A3 n3 zs) (h4 : Rd .u8 w A4 n4 us) :
   RdSS (w.alloc (.cells #[.slice A n c, .slice A2 n2 c2, .slice A3 n3 c3, .slice A4 n4 c4] e)) (some ⟨b, 0, none⟩) 4 [xs, ys, zs, us] := by
 subst hb
 exact RdSS.lit e w [(A, n, c), (A2, n2, c2), (A3, n3, c3), (A4, n4, c4)] [xs, ys, zs, us] rfl (fun j hj => by
   have hj2 : j < 4 := hj
   rcases (show j = 0 ∨ j = 1 ∨ j = 2 ∨ j = 3 by omega) with rfl | rfl | rfl | rfl
   · exact h
   · exact h2
   · exact h3
   · exact h4)
set_option maxHeartbeats 3200000 in
theorem p9encode_any (A : Option Addr) (n c : Nat) (vs : List Int) (w : World) (hx : RdG shZ w A n vs) (hv : R64s vs) :
   Calls Tryz.prog 144 #[.slice A n c] w (Enc9Post vs w) := by
 have hl := hx.len
 unfold Enc9Post
 by_cases hbig : 4096 < n
 · rw [show encode9 vs = ([], 4) by unfold encode9; rw [if_pos (by omega)]]
   clear hl
   go_enter Tryz.func144, Tryz.ntmps144
   go_wp2_with fail
   go_ret2
   exact ⟨none, 0, rfl, Own.nil _ _ _ _, Ext.refl w⟩
 · have hd4 : decide ((4096 : Int) < (n : Int)) = false := decide_eq_false (by omega)
   rw [show encode9 vs = (encP vs, 0) by unfold encode9; rw [if_neg (by omega)]]
   rcases Nat.eq_zero_or_pos n with h0 | hp
   · subst h0
     have hP : encP vs = vput 0 := by unfold encP; rw [if_pos hl]
     rw [hP]
     have HV := Lib.hid hP
     clear hl hP
     go_enter Tryz.func144, Tryz.ntmps144
     go_wp2_with fail
     refine (put_any 0 _ (by omega)).mono ?_
     rintro e w2 ⟨A2, c2, rfl, hown2, he2⟩
     go_wp2_with fail
     go_ret2
     exact ⟨A2, c2, rfl, hown2, he2⟩
   · have hP : encP vs = vput n ++ (vput (foldS (lo vs)).toNat ++ ([wid vs] ++ packB (wid vs) (dst (lo vs) vs))) := by unfold encP; rw [if_neg (by omega), hl]
     rw [hP]
     have hlm := hv _ (lo_mem (show 0 < vs.length by omega))
     have hle := lo_le (xs := vs)
     have hw64 := wid_le hv (show 0 < vs.length by omega)
     obtain ⟨hpE, hpL⟩ := pack_dst hv (show 0 < vs.length by omega) (by omega)
     have hpl := packB_len9 (wid vs) (dst (lo vs) vs)
     rw [dst_len, hl] at hpl
     have hdu := dst_u64 hv hlm
     have hdl := (dst_len (lo vs) vs).trans hl
     obtain ⟨f0, f1⟩ := fold_range hlm
     obtain ⟨u, hu⟩ : ∃ u : Nat, foldS (lo vs) = (u : Int) := ⟨(foldS (lo vs)).toNat, by omega⟩
     rw [hu, Int.toNat_natCast]
     have hMin : Hid (∀ W, Ext w W → Calls Tryz.prog 175 #[.slice A n c] W fun e w' => e = .returned (.int .i64 (lo vs)) ∧ W = w') := Lib.hid fun W hW => minZ_any A n c vs W (hx.ext hW) hp (by omega)
     have hDis : Hid (∀ W, Ext w W → Calls Tryz.prog 176 #[.int .i64 (lo vs), .slice A n c] W fun e w' => ∃ A' c', e = .returned (.slice A' n c') ∧ Own .u64 69 w' W.heap.size A' c' (dst (lo vs) vs) ∧ Ext W w') := Lib.hid fun W hW => distances_any (lo vs) A n c vs W (hx.ext hW) hv hlm hle (by omega)
     have hPk : Hid (∀ (B : Option Addr) (cb : Nat) W, Rd .u64 W B n (dst (lo vs) vs) → Calls Tryz.prog 141 #[.int .i64 (wid vs : Nat), .slice B n cb] W fun e w' => ∃ A' c', e = .returned (.tuple #[.slice A' (packB (wid vs) (dst (lo vs) vs)).length c', .int .i64 0]) ∧ Own .u8 5 w' W.heap.size A' c' (packB (wid vs) (dst (lo vs) vs)) ∧ Ext W w') := Lib.hid fun B cb W h => by
       have := pack_any B n cb (wid vs) (dst (lo vs) vs) W h hdu (by omega)
       unfold PackPost at this
       rw [hpE, hpL] at this
       exact this
     have hWd : Hid (∀ (B : Option Addr) (cb : Nat) W, Rd .u64 W B n (dst (lo vs) vs) → Calls Tryz.prog 169 #[.slice B n cb] W fun e w' => e = .returned (.int .i64 (wid vs : Nat)) ∧ W = w') := Lib.hid fun B cb W h => width_any B n cb (dst (lo vs) vs) W h hdu (by omega)
     have hFo : Hid (∀ W, Calls Tryz.prog 174 #[.int .i64 (lo vs)] W fun e w' => e = .returned (.int .u64 (u : Int)) ∧ W = w') := Lib.hid fun W => by rw [← hu]; exact fold_any _ W hlm.1 hlm.2
     obtain ⟨l, hle'⟩ : ∃ l, l = lo vs := ⟨_, rfl⟩
     obtain ⟨d, hde⟩ : ∃ d, d = wid vs := ⟨_, rfl⟩
     obtain ⟨D, hDe⟩ : ∃ D, D = dst (lo vs) vs := ⟨_, rfl⟩
     rw [← hDe, ← hde] at hPk hpl
     rw [← hDe] at hDis hWd hdl
     rw [← hde] at hWd hw64
     rw [← hDe, ← hde]
     rw [← hle'] at hMin hDis hFo
     obtain ⟨Q, hQ⟩ : ∃ Q, Q = packB d D := ⟨_, rfl⟩
     rw [← hQ] at hPk hpl ⊢
     obtain ⟨q, hq⟩ : ∃ q, q = Q.length := ⟨_, rfl⟩
     rw [← hq] at hPk hpl
     have Hq := Lib.hid hq.symm
     have Hdl := Lib.hid hdl
     have hdn : d * n ≤ 64 * 4096 := Nat.mul_le_mul hw64 (by omega)
     have hq4 : q ≤ 40000 := by rw [hpl]; omega
     have hvn := vsize_le (u := n) (by omega)
     have hvu := vsize_le (u := u) (by omega)
     rw [← vput_len] at hvn hvu
     obtain ⟨V1, hV1⟩ : ∃ V, V = vput n := ⟨_, rfl⟩
     obtain ⟨V2, hV2⟩ : ∃ V, V = vput u := ⟨_, rfl⟩
     have HV1 := Lib.hid hV1
     have HV2 := Lib.hid hV2
     rw [← hV1] at hvn ⊢
     rw [← hV2] at hvu ⊢
     have hfl : ([V1, V2, [d], Q] : List (List Nat)).flatten = V1 ++ (V2 ++ ([d] ++ Q)) := by simp
     have hfl2 : ([V1, V2, [d], Q] : List (List Nat)).flatten.length ≤ 180000000000000 := by rw [hfl]; simp; omega
     obtain ⟨L, hL⟩ : ∃ L, L = V1 ++ (V2 ++ ([d] ++ Q)) := ⟨_, rfl⟩
     rw [← hL] at hfl ⊢
     have Hfl := Lib.hid hfl
     have hn4 : n ≤ 4096 := by omega
     have Hu64 := Lib.hid (show u < 18446744073709551616 by omega)
     have hd8 : IntKind.u8.wrap (d : Int) = (d : Int) := IntWalk.u8_in _ (by omega)
     have hn0 : ((n : Int) == 0) = false := by rw [beq_eq_false_iff_ne]; omega
     have hwn : IntKind.u64.wrap (n : Int) = (n : Int) := IntWalk.u64_in _ (by omega)
     clear hl hlm hle hpE hpL hdu hdl f0 f1 hu hle' hde hDe hQ hq hpl hdn hV1 hV2 hfl hL hP hv hbig
     go_enter Tryz.func144, Tryz.ntmps144
     go_wp2_with fail
     refine (put_any n _ (by omega)).mono ?_
     rintro e w1 ⟨A1, c1, rfl, hown1, he1⟩
     rw [← HV1.out] at hown1 ⊢
     have hr1 := hown1.rd
     clear hown1
     go_wp2_with fail
     refine (hMin.out _ he1).mono ?_
     rintro e w2 ⟨rfl, rfl⟩
     go_wp2_with fail
     refine (hDis.out _ he1).mono ?_
     rintro e w2 ⟨A2, c2, rfl, hown2, he2⟩
     have hr2 := hown2.rd' Hdl.out
     clear hown2
     go_wp2_with fail
     refine (hWd.out _ _ _ hr2).mono ?_
     rintro e w3 ⟨rfl, rfl⟩
     go_wp2_with fail
     refine (hPk.out _ _ _ hr2).mono ?_
     rintro e w3 ⟨A3, c3, rfl, hown3, he3⟩
     have hr3 := hown3.rd' Hq.out
     clear hown3
     go_wp2_with fail
     refine (hFo.out _).mono ?_
     rintro e w4 ⟨rfl, rfl⟩
     go_wp2_with fail
     refine (put_any u _ Hu64.out).mono ?_
     rintro e w4 ⟨A4, c4, rfl, hown4, he4⟩
     rw [← HV2.out] at hown4 ⊢
     have hr4 := hown4.rd
     clear hown4
     have hX : ∀ o, Ext w4 (w4.alloc o) := fun o => (Ext.refl w4).alloc o
     go_wp2_with fail
     refine (concat_any _ 4 4 [V1, V2, [d], Q] _ (RdSS.four 22 _ (by simp) (((((hr1.ext he2).ext he3).ext he4).ext (hX _))) (hr4.ext (hX _)) (Rd.lit_at .u8 5 w4 [d] rfl rfl) ((hr3.ext he4).ext (hX _))) hfl2 (by omega)).mono ?_
     rintro e w5 ⟨A5, c5, rfl, hown5, he5⟩
     rw [Hfl.out] at hown5 ⊢
     have hE5 : Ext w w5 := (((he1.trans he2).trans he3).trans he4).trans (((hX _).alloc _).trans he5)
     have hb5 := (((he1.trans he2).trans he3).trans he4).size
     go_wp2_with fail
     go_ret2
     exact ⟨A5, c5, rfl, hown5.mono (by simp; omega), hE5⟩
def onlyF (l : Int) (wd : Int) (far : List Nat) : Bool := decide ((wdt far : Int) = wd) && (decide (loN far = 0) && decide ((hiN far : Int) ≤ 9223372036854775807 - l))
def secE (bs : List Nat) (a n : Nat) : Int := unpE (pk 8 (bs.drop (a + 1))) (bs.length - (a + 1)) (bs.getD a 0 : Nat) n
def secL (bs : List Nat) (a n : Nat) : List Nat := unpL (pk 8 (bs.drop (a + 1))) (bs.length - (a + 1)) (bs.getD a 0 : Nat) n
def above (l : Int) (far : List Nat) : List Int := far.map fun x : Nat => l + (x : Int)
theorem above_len (l : Int) (far : List Nat) : (above l far).length = far.length := by simp [above]
def decTail (bs : List Nat) (l : Int) (a n : Nat) : List Int × Int :=
 if a = bs.length then ([], 2) else if 64 < bs.getD a 0 then ([], 5) else if secE bs a n ≠ 0 then ([], secE bs a n) else if onlyF l (bs.getD a 0 : Nat) (secL bs a n) = true then (above l (secL bs a n), 0) else ([], 5)
def decSome (bs : List Nat) (a : Int) (n : Nat) : List Int × Int :=
 if (vget bs a).2.2 ≠ 0 then ([], (vget bs a).2.2) else decTail bs (unfS (vget bs a).1) (vget bs a).2.1.toNat n
def decode9 (bs : List Nat) : List Int × Int :=
 if (vget bs 0).2.2 ≠ 0 then ([], (vget bs 0).2.2) else if 4096 < (vget bs 0).1 then ([], 4) else
 if (vget bs 0).1 = 0 then (if (vget bs 0).2.1 < (bs.length : Int) then ([], 3) else ([], 0)) else decSome bs (vget bs 0).2.1 (vget bs 0).1
def Dec9Post (R : List Int × Int) (w : World) (e : Ending) (w' : World) : Prop :=
 ∃ A' c', e = .returned (.tuple #[.slice A' R.1.length c', .int .i64 R.2]) ∧ OwnG shZ 2 w' w.heap.size A' c' R.1 ∧ Ext w w'
theorem Rd.dropAt {w : World} {b o n k : Nat} {bs : List Nat} (h : Rd .u8 w (some ⟨b, o, none⟩) n bs) (hk : k ≤ n) : Rd .u8 w (some ⟨b, o + k, none⟩) (n - k) (bs.drop k) := by
 refine ⟨by rw [List.length_drop, h.1], fun hn => ?_⟩
 obtain ⟨b', o', e, hb, hc⟩ := h.2 (by omega)
 injection e with e
 injection e with e1 e2
 subst e1 e2
 refine ⟨b, o + k, rfl, hb, fun j hj => ?_⟩
 have := hc (k + j) (by omega)
 rw [Nat.add_assoc, this]
 simp [List.getD, List.getElem?_drop]
theorem wrap_room {l : Int} (hl : R64 l) : IntKind.u64.wrap (9223372036854775807 - IntKind.u64.wrap l) = 9223372036854775807 - l := by
 simp only [IntKind.wrap_u64]
 unfold R64 at hl
 omega
theorem wrap_above {l : Int} {x : Nat} (hl : R64 l) (h : (x : Int) ≤ 9223372036854775807 - l) : IntKind.i64.wrap (IntKind.u64.wrap (IntKind.u64.wrap l + (x : Int))) = l + (x : Int) := by
 simp only [IntKind.wrap_u64, IntKind.wrap_i64]
 unfold R64 at hl
 omega
set_option maxHeartbeats 1600000 in
theorem isOnly_any (l wd : Int) (A : Option Addr) (n c : Nat) (far : List Nat) (w : World) (hl : R64 l) (hx : Rd .u64 w A n far) (hu : U64 far) (hp : 0 < n) (hn : n ≤ 140737488355328) :
   Calls Tryz.prog 208 #[.int .i64 l, .int .i64 wd, .slice A n c] w fun e w' => e = .returned (.bool (onlyF l wd far)) ∧ w = w' := by
 have hw := wrap_room hl
 obtain ⟨R, hR⟩ : ∃ R, R = onlyF l wd far := ⟨_, rfl⟩
 rw [← hR]
 unfold onlyF at hR
 have h1 : Hid (Calls Tryz.prog 169 #[.slice A n c] w fun e w' => e = .returned (.int .i64 (wdt far)) ∧ w = w') := Lib.hid (width_any A n c far w hx hu hn)
 have h2 : Hid (Calls Tryz.prog 217 #[.slice A n c] w fun e w' => e = .returned (.int .u64 (loN far : Nat)) ∧ w = w') := Lib.hid (minU_any A n c far w hx hp (by omega))
 have h3 : Hid (Calls Tryz.prog 218 #[.slice A n c] w fun e w' => e = .returned (.int .u64 (hiN far : Nat)) ∧ w = w') := Lib.hid (maxU_any A n c far w hx hp (by omega))
 obtain ⟨a, ha⟩ : ∃ a, a = wdt far := ⟨_, rfl⟩
 obtain ⟨b, hb⟩ : ∃ b, b = loN far := ⟨_, rfl⟩
 obtain ⟨d, hd⟩ : ∃ d, d = hiN far := ⟨_, rfl⟩
 rw [← ha] at h1 hR
 rw [← hb] at h2 hR
 rw [← hd] at h3 hR
 have HR := Lib.hid hR
 clear hR ha hb hd hx hu hl
 by_cases c1 : (a : Int) = wd
 · have k1 : ((a : Int) == wd) = true := by simpa using c1
   by_cases c2 : b = 0
   · have k2 : ((b : Int) == 0) = true := by simpa using c2
     have HE := Lib.hid (show R = decide ((d : Int) ≤ 9223372036854775807 - l) by rw [HR.out, decide_eq_true c1, decide_eq_true c2]; rfl)
     clear c1 c2
     go_enter Tryz.func208, Tryz.ntmps208
     go_wp2_with fail
     refine h1.out.mono ?_
     rintro e w1 ⟨rfl, rfl⟩
     go_wp2_with fail
     refine h2.out.mono ?_
     rintro e w1 ⟨rfl, rfl⟩
     go_wp2_with fail
     refine h3.out.mono ?_
     rintro e w1 ⟨rfl, rfl⟩
     go_wp2_with fail
     go_ret
     exact ⟨by rw [HE.out]; rfl, rfl⟩
   · have k2 : ((b : Int) == 0) = false := by rw [beq_eq_false_iff_ne]; omega
     have HE := Lib.hid (show R = false by rw [HR.out, decide_eq_false c2]; simp)
     clear c1 c2
     go_enter Tryz.func208, Tryz.ntmps208
     go_wp2_with fail
     refine h1.out.mono ?_
     rintro e w1 ⟨rfl, rfl⟩
     go_wp2_with fail
     refine h2.out.mono ?_
     rintro e w1 ⟨rfl, rfl⟩
     go_wp2_with fail
     go_ret
     exact ⟨by rw [HE.out]; rfl, rfl⟩
 · have k1 : ((a : Int) == wd) = false := by simpa using c1
   have HE := Lib.hid (show R = false by rw [HR.out, decide_eq_false c1]; rfl)
   clear c1
   go_enter Tryz.func208, Tryz.ntmps208
   go_wp2_with fail
   refine h1.out.mono ?_
   rintro e w1 ⟨rfl, rfl⟩
   go_wp2_with fail
   go_ret
   exact ⟨by rw [HE.out]; rfl, rfl⟩
theorem wpList_mkZ {P : Program} {w : World} {ops : Array Oper} {rest : List Oper} {o : Oper} {a : Act} {Q : Exit → Act → World → Prop} (e : TypeId) (hgd : o.guard = none) (l c : Operand) (t : TypeId)
   (hop : o.op = Op.makeSlice t l c) (bytes : Nat) (ht : P.underlying t = some (.slice e)) (hi : (P.info? e).map (fun i => (i.zero, i.size, i.bytes)) = some (some (.int .i64 0), 1, bytes))
   (kl kc : IntKind) {L C : Int} (n : Nat) (hl : a.eval l = .int kl L) (hc : a.eval c = .int kc C) (hL : L = (n : Int)) (hC : C = (n : Int)) (hb : bytes * n ≤ 281474976710656) (hn : n ≤ 9223372036854775807)
   (h : ∀ w', OwnG shZ e w' w.heap.size (some ⟨w.heap.size, 0, none⟩) n (List.replicate n 0) → Ext w w' → wpList P ops Q rest (a.put o.dst (.slice (some ⟨w.heap.size, 0, none⟩) n n)) w') :
   wpList P ops Q (o :: rest) a w := by
 obtain ⟨i, hi0, hz, hsz, hbs⟩ := info_parts hi
 refine wpList_make_full w hgd l c t hop w.heap.size e i (.int .i64 0) 1 ht hi0 hz hsz kl kc L C n hl hc hL hC (by rw [hbs]; exact hb) (by unfold maxLen; omega) (Nat.le_refl _) ?_
 intro w' h1 h2
 refine h w' ?_ ⟨h2.os, h2.tape, h2.output, h2.size, fun j hj => h2.block j hj (by simp)⟩
 unfold OwnG
 have e1 : (madeCells (Value.int .i64 0).cells (n * 1)).toList = List.replicate n (Value.int .i64 0) := by
   rw [Nat.mul_one]; exact toList_madeCells_one _ _
 rw [e1] at h1
 rw [shZ.all]
 simpa [shZ] using h1
theorem set_nextZ {xs : List Int} {n j : Nat} (hl : xs.length = n) (h : j < n) : (xs.take j ++ List.replicate (n - j) 0).set j (xs.getD j 0) = xs.take (j + 1) ++ List.replicate (n - (j + 1)) 0 := by
 have h1 : (xs.take j).length = j := by rw [List.length_take]; omega
 rw [List.set_append_right _ _ (by omega), h1, Nat.sub_self, show n - j = (n - (j + 1)) + 1 from by omega, List.replicate_succ, List.set_cons_zero, take_nextG xs j (x := xs.getD j 0) (by rw [List.getD, List.getElem?_eq_getElem (by omega)]; rfl)]
 simp
theorem secL_len {bs : List Nat} {a n : Nat} (h : secE bs a n = 0) : (secL bs a n).length = n := by
 unfold secL
 rw [unp_ok h, upk_len, Int.toNat_natCast]
theorem secL_u64 (bs : List Nat) (a n : Nat) (h : bs.getD a 0 ≤ 64) : U64 (secL bs a n) := by
 unfold secL unpL
 split
 · rw [Int.toNat_natCast]
   intro v hv
   have := upk_wd _ _ _ v hv
   exact Nat.lt_of_lt_of_le this (Nat.pow_le_pow_right (by omega) h)
 · intro v hv; cases hv
theorem le_hiN {xs : List Nat} : ∀ x ∈ xs, x ≤ hiN xs := by
 have key : ∀ (r : List Nat) (x : Nat), x ≤ r.foldl max x ∧ ∀ y ∈ r, y ≤ r.foldl max x := by
   intro r
   induction r with
   | nil => intro x; exact ⟨Nat.le_refl _, fun y hy => by cases hy⟩
   | cons z r ih =>
     intro x
     obtain ⟨h1, h2⟩ := ih (max x z)
     refine ⟨by rw [List.foldl_cons]; omega, fun y hy => ?_⟩
     rw [List.foldl_cons]
     rcases List.mem_cons.1 hy with rfl | hy
     · omega
     · exact h2 y hy
 cases xs with
 | nil => intro x hx; cases hx
 | cons z r =>
   intro x hx
   rcases List.mem_cons.1 hx with rfl | hx
   · exact (key r x).1
   · exact (key r z).2 x hx
def nn (xs : List Ci) : List Ci := xs.filter fun x => !x.nul
theorem nn_snoc (xs : List Ci) (x : Ci) : nn (xs ++ [x]) = nn xs ++ (if x.nul then [] else [x]) := by
 unfold nn
 rw [List.filter_append]
 cases h : x.nul <;> simp [h]
theorem nn_le (xs : List Ci) : (nn xs).length ≤ xs.length := List.length_filter_le _ _
theorem nn_take {xs : List Ci} {j : Nat} {x : Ci} (h : xs[j]? = some x) : nn (xs.take (j + 1)) = nn (xs.take j) ++ (if x.nul then [] else [x]) := by
 rw [List.take_add_one, h]; exact nn_snoc _ _
theorem nn_mem {xs : List Ci} {x : Ci} (h : x ∈ nn xs) : x ∈ xs := (List.mem_filter.1 h).1
set_option maxHeartbeats 2000000 in
theorem withoutNulls_any (A : Option Addr) (n c : Nat) (xs : List Ci) (w : World) (hx : RdX w A n xs) (hn : n ≤ 4398046511104) :
   Calls Tryz.prog 108 #[.slice A n c] w fun e w' => ∃ A' c', e = .returned (.slice A' (nn xs).length c') ∧ OwnX w' w.heap.size A' c' (nn xs) ∧ Ext w w' := by
 have Hx := Lib.hid hx
 have Hl := Lib.hid hx.1
 clear hx
 go_enter Tryz.func108, Tryz.ntmps108
 go_wp2_with fail
 go_loopw [3, 8] (fun y i wr => ∃ (j k : Nat) (A' : Option Addr) (c' : Nat), j ≤ n ∧ k ≤ j ∧ i = .int .i64 (j : Int) ∧ y = .slice A' k c' ∧ Hid ((nn (xs.take j)).length = k) ∧ OwnX wr w.heap.size A' c' (nn (xs.take j)) ∧ Ext w wr ∧ w.heap.size ≤ wr.heap.size) (fun _ i _ => n - (intOf i).toNat)
 case atStart => exact ⟨0, 0, none, 0, Nat.zero_le _, Nat.le_refl _, rfl, rfl, Lib.hid rfl, OwnX.nil _ _, Ext.refl _, Nat.le_refl _⟩
 case round =>
   obtain ⟨j, k, A', c', hj, hkj, rfl, rfl, HK, hO, hE, hz⟩ := hrel
   by_cases hlt : j < n
   · obtain ⟨b, o, x, rfl, hb, hxj, hc0, hc1, hc2, hin⟩ := (Hx.out.ext hE).at_ hlt
     have Ht := Lib.hid (nn_take hxj)
     have HO := Lib.hid hO
     have hg1 := heap_alloc_new wr (.cells #[.bool x.nul, .int .i64 x.num, .slice x.A x.txt.length x.c] 61)
     clear hO hxj hin
     obtain ⟨nu, num, xA, xc, xt⟩ := x
     simp only at hc0 hc1 hc2 Ht hg1
     cases nu with
     | true =>
       have hcb : (wr.alloc (.cells #[.bool true, .int .i64 num, .slice xA xt.length xc] 61)).cell? ⟨wr.heap.size, 0, none⟩ = some (.bool true) := cell_of_row _ wr.heap.size 0 _ _ (0, 0) hg1
       go_wp2_with fail
       go_roundw
       case rel => exact ⟨j + 1, k, A', c', hlt, by omega, by go_num, rfl, Lib.hid (by rw [Ht.out]; simpa using HK.out), by rw [Ht.out]; simpa using HO.out.ext ((Ext.refl _).alloc _), hE.alloc _, by simp; omega⟩
       case measure => simp [intOf]; omega
     | false =>
       have hcb : (wr.alloc (.cells #[.bool false, .int .i64 num, .slice xA xt.length xc] 61)).cell? ⟨wr.heap.size, 0, none⟩ = some (.bool false) := cell_of_row _ wr.heap.size 0 _ _ (0, 0) hg1
       go_wp2_with (at_builtin; refine wpList_pushX (w0 := w) (base := w.heap.size) ⟨false, num, xA, xc, xt⟩ rfl _ _ rfl (HO.out.ext (((Ext.refl _).alloc _).alloc _)) k HK.out rfl rfl ?_ (by omega) ((hE.alloc _).alloc _) (by simp; omega) ?_; (focus (exact heap_at (by simp))); intro A3 c3 w3 hO3 _ hE3 hz3)
       go_roundw
       case rel => exact ⟨j + 1, k + 1, A3, c3, hlt, by omega, by go_num, rfl, Lib.hid (by rw [Ht.out, List.length_append, HK.out]; rfl), by rw [Ht.out]; exact hO3, hE3, hz3⟩
       case measure => simp [intOf]; omega
   · obtain rfl : j = n := by omega
     rw [List.take_of_length_le (Nat.le_of_eq Hl.out)] at hO
     have Hk2 : Hid ((nn xs).length = k) := Lib.hid (by have := HK.out; rwa [List.take_of_length_le (Nat.le_of_eq Hl.out)] at this)
     go_wp2
     go_ret
     exact ⟨A', c', by rw [Hk2.out]; rfl, hO, hE⟩
theorem heap_cell {w : World} {o : Obj} (x : Ci) (ho : o = .cells #[.bool x.nul, .int .i64 x.num, .slice x.A x.txt.length x.c] 61) :
   (w.alloc o).cell? ⟨w.heap.size, 0, none⟩ = some (.bool x.nul) ∧ (w.alloc o).cell? ⟨w.heap.size, 1, none⟩ = some (.int .i64 x.num) ∧ (w.alloc o).cell? ⟨w.heap.size, 2, none⟩ = some (.slice x.A x.txt.length x.c) := by
 subst ho
 have h := heap_alloc_new w (.cells #[.bool x.nul, .int .i64 x.num, .slice x.A x.txt.length x.c] 61)
 exact ⟨cell_of_row _ w.heap.size 0 _ _ (0, 0) h, cell_of_row _ w.heap.size 1 _ _ (0, 0) h, cell_of_row _ w.heap.size 2 _ _ (0, 0) h⟩
set_option maxHeartbeats 2000000 in
theorem toNumbers_any (A : Option Addr) (n c : Nat) (xs : List Ci) (w : World) (hx : RdX w A n xs) (hn : n ≤ 4398046511104) :
   Calls Tryz.prog 143 #[.slice A n c] w fun e w' => ∃ A' c', e = .returned (.slice A' n c') ∧ OwnG shZ 2 w' w.heap.size A' c' (xs.map Ci.num) ∧ Ext w w' := by
 have Hx := Lib.hid hx
 have Hl := Lib.hid hx.1
 have Hml := Lib.hid (show (xs.map Ci.num).length = n by rw [List.length_map]; exact hx.1)
 clear hx
 go_enter Tryz.func143, Tryz.ntmps143
 go_wp2_with (first | (at_make; refine wpList_mkZ 2 rfl _ _ 115 rfl 8 Tryz.underlying115 Tryz.infoI64 _ _ n rfl rfl rfl rfl (by omega) (by omega) ?_; intro w7 hown7 he7) | fail)
 have hz7 := he7.size
 have hb7 := (hown7.block _ rfl).2
 go_loopw [11] (fun i wr => ∃ j : Nat, j ≤ n ∧ i = .int .i64 (j : Int) ∧ OwnG shZ 2 wr w.heap.size (some ⟨w.heap.size, 0, none⟩) n ((xs.map Ci.num).take j ++ List.replicate (n - j) 0) ∧ Ext w wr ∧ w.heap.size < wr.heap.size) (fun i _ => n - (intOf i).toNat)
 case atStart => exact ⟨0, Nat.zero_le _, rfl, by simpa using hown7, he7, hb7⟩
 case round =>
   clear hown7 he7
   obtain ⟨j, hj, rfl, hO, hE, hsz⟩ := hrel
   by_cases hlt : j < n
   · obtain ⟨b, o, x, rfl, hb, hxj, hc0, hc1, hc2, hin⟩ := (Hx.out.ext hE).at_ hlt
     have hnum : (xs.map Ci.num).getD j 0 = x.num := by rw [List.getD, List.getElem?_map, hxj]; rfl
     have Hn := Lib.hid (set_nextZ (j := j) Hml.out hlt)
     rw [hnum] at Hn
     have hg := heap_cell (w := wr) x rfl
     have hO2 := hO.ext ((Ext.refl wr).alloc (.cells #[.bool x.nul, .int .i64 x.num, .slice x.A x.txt.length x.c] 61))
     obtain ⟨b', y, e', hb1, hb2, hy, hcell, hfr, hset⟩ := hO2.at_ (j := j) (by rw [List.length_append, List.length_take, List.length_replicate, Hml.out]; omega)
     injection e' with e'
     injection e' with e1
     subst e1
     obtain ⟨hO3, hg3⟩ := hset 0 x.num (.int .i64 x.num) (by decide) rfl
     have hf0 := hfr j
     have ej : j * shZ.sz + 0 = j := by show j * 1 + 0 = j; omega
     rw [ej] at hO3 hg3
     have hold : ∃ v, (wr.alloc (.cells #[.bool x.nul, .int .i64 x.num, .slice x.A x.txt.length x.c] 61)).cell? ⟨w.heap.size, j, none⟩ = some (.int .i64 v) := ⟨y, by have := hcell 0 (.int .i64 y) rfl; rwa [ej] at this⟩
     obtain ⟨v0, hold⟩ := hold
     rw [Hn.out] at hO3
     obtain ⟨_, _, e4, _, _, _, _, _, hset4⟩ := hO.at_ (j := j) (by rw [List.length_append, List.length_take, List.length_replicate, Hml.out]; omega)
     injection e4 with e4
     injection e4 with e4
     subst e4
     obtain ⟨hO5, hg5⟩ := hset4 0 x.num (.int .i64 x.num) (by decide) rfl
     rw [ej] at hO5 hg5
     rw [Hn.out] at hO5
     have HO3 := Lib.hid hO5
     have HE3 := Lib.hid (grownBy_ext hE hg5 (fun x e => by have e2 : w.heap.size = x := Option.some.inj e; omega))
     have hs3 := hg5.size
     obtain ⟨nu, num, xA, xc, xt⟩ := x
     simp only at hc0 hc1 hc2 hg HO3 HE3 hold hf0 hs3 ⊢
     obtain ⟨hg0, hg1, hg2⟩ := hg
     clear hO hO2 hO3 hO5 hg5 hg3 hset hset4 hcell hfr hin hxj hnum
     go_wp2_with fail
     go_roundw
     case rel => exact ⟨j + 1, hlt, by go_num, HO3.out.ext ((Ext.refl _).alloc _), HE3.out.alloc _, by simp; omega⟩
     case measure => simp [intOf]; omega
   · obtain rfl : j = n := by omega
     rw [List.take_of_length_le (Nat.le_of_eq Hml.out), Nat.sub_self, List.replicate_zero, List.append_nil] at hO
     go_wp2
     go_ret
     exact ⟨_, _, rfl, hO, hE⟩
end Go.Proofs.YthibbgmicmfkfaaGreat
