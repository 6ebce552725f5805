/-
  Layer 3: the law of sums, however the bytes are cut.
-/
import Derived.Test.YtegplcllimoakaaW4
import Derived.Deep.RegionHeld3
namespace Go.Proofs.Ytegplcllimoakaa
open Go.RowKit

set_option maxHeartbeats 800000 in
theorem crcSums_in (A : Option Addr) (n c : Nat) (bs : List Nat) (k : Nat) (hk : k ≤ n) (w : World) (hx : Rd .u8 w A n bs) (hu : U8 bs) (hn : n ≤ 140737488351232) :
    Calls Try.prog 3 #[.slice A n c, .int .i64 (k : Int)] w fun e w' => e = .returned (.bool true) ∧ Ext w w' := by
  have b1 : decide ((k : Int) < 0) = false := by simp
  have b2 : decide ((n : Int) < (k : Int)) = false := by simp; omega
  have hlen := hx.len
  have hcrc : crc (bs.take k ++ bs.drop k) = crc bs := by rw [List.take_append_drop]
  have hext : ext (crc (bs.take k)) (bs.drop k) = crc bs := by rw [ext_crc (u8_take hu k), List.take_append_drop]
  have hLt : (bs.take k).length = k := by rw [List.length_take]; omega
  have hLd : (bs.drop k).length = n - k := by rw [List.length_drop]; omega
  have hl1 := crc_lt (u8_take hu k)
  have hl0 := crc_lt hu
  have Hcrc := Lib.hid hcrc
  have Hext := Lib.hid hext
  have HLt := Lib.hid hLt
  have HLd := Lib.hid hLd
  have Hlen := Lib.hid hlen
  clear hcrc hext hLt hLd hlen
  go_enter Try.func3, Try.ntmps3
  go_wp2_with fail
  refine (alive3 _).mono ?_
  rintro e w1 ⟨rfl, he1⟩
  go_wp2_with fail
  refine (wide_any _ _ _ _ _ (hx.ext he1) (by omega)).mono ?_
  rintro e w2 ⟨A2, c2, rfl, hown2, he2⟩
  have hr2 := hown2.rd_take (n := n) (by rw [List.length_append, hx.len]; omega)
  rw [List.take_left' hx.len] at hr2
  have hri := hown2.rd' (n := n + 64) (by rw [List.length_append, hx.len]; rfl)
  obtain ⟨b, rfl, _, hb, hcap, hcm⟩ := hown2.form (by rw [List.length_append, marks_len]; omega)
  rw [List.length_append, hx.len, marks_len] at hcap
  have hx2 := (hx.ext he1).ext he2
  have hE2 := he1.trans he2
  have hnc : n ≤ c2 := by omega
  have hkc : k ≤ c2 := by omega
  have hrT : Rd .u8 w2 (some ⟨b, 0, none⟩) k (bs.take k) := hr2.take hk
  have hrD : Rd .u8 w2 (some ⟨b, 0 + k, none⟩) (n - k) (bs.drop k) := hr2.drop hk
  rw [Nat.zero_add] at hrD
  clear hown2 hx
  go_wp2_with fail
  refine (refSum_any _ _ _ bs _ hx2 hu (by omega)).mono ?_
  rintro e w3 ⟨rfl, rfl⟩
  go_wp2_with fail
  have hck : ¬ c2 = k := by omega
  have hkn : (k : Int) ≤ (n : Int) := by omega
  have hle1 : bs.length ≤ 180000000000000 := by have := Hlen.out; omega
  have hle2 : (bs.take k).length ≤ 180000000000000 := by have := HLt.out; omega
  have hle3 : (bs.drop k).length ≤ 180000000000000 := by have := HLd.out; omega
  obtain ⟨X, hX⟩ : ∃ X, X = bs.take k := ⟨_, rfl⟩
  obtain ⟨Y, hY⟩ : ∃ Y, Y = bs.drop k := ⟨_, rfl⟩
  have hXu : U8 X := by rw [hX]; exact u8_take hu k
  have hYu : U8 Y := by rw [hY]; exact u8_drop hu k
  rw [← hX] at Hcrc Hext hl1 hrT hle2
  rw [← hY] at Hcrc Hext hrD hle3
  clear hX hY HLt HLd
  obtain ⟨S0, hS0⟩ : ∃ S, S = crc bs := ⟨_, rfl⟩
  obtain ⟨S1, hS1⟩ : ∃ S, S = crc X := ⟨_, rfl⟩
  rw [← hS0] at Hcrc Hext hl0 ⊢
  rw [← hS1] at Hext hl1
  have HS0 := Lib.hid hS0
  have HS1 := Lib.hid hS1
  clear hS0 hS1
  have tok1 : True := trivial
  go_region_held3 (fun w' => w'.heap.size = w'.heap.size) (rfl) (first
    | (go_at_call 17; have _t := tok1; refine (sum1_any _ bs _ ?_ hu hle1).mono ?_; exact RdSS.drew (RdSS.one _ _ (by simp) hr2); rintro e w4 ⟨rfl, hw4⟩; have hE4 : Ext w2 w4 := (by rw [← hw4]; repeat (first | exact Ext.refl _ | apply Ext.drew | apply Ext.alloc)); rw [← HS0.out]; clear _t tok1 hw4)
    | (go_at_call 17; refine (sum3_any _ X Y _ ?_ hXu hYu hle2 hle3).mono ?_; exact RdSS.three _ _ (by simp) (hrT.ext hE4) (Rd.nil _ _ _) (hrD.ext hE4); rintro e w5 ⟨rfl, hw5⟩; have hE5 : Ext w2 w5 := (by rw [← hw5]; repeat (first | exact hE4 | apply Ext.drew | apply Ext.alloc)); rw [Hcrc.out]; clear hw5))
  clear hE4
  go_wp2_with fail
  have tok2 : True := trivial
  go_region_held3 (fun w' => w'.heap.size = w'.heap.size) (rfl) (first
    | (go_at_call 17; refine (sum1_any _ X _ ?_ hXu hle2).mono ?_; exact RdSS.drew (RdSS.one _ _ (by simp) (hrT.ext hE5)); rintro e w6 ⟨rfl, hw6⟩; have hE6 : Ext w2 w6 := (by rw [← hw6]; repeat (first | exact hE5 | apply Ext.drew | apply Ext.alloc)); rw [← HS1.out]; clear hw6)
    | (go_at_call 18; refine (extend_any S1 _ _ _ Y _ hl1 ?_ hYu (by omega)).mono ?_; exact hrD.ext hE6; rintro e w7 ⟨rfl, hw7⟩; have hE7 : Ext w2 w7 := (by rw [← hw7]; repeat (first | exact hE6 | apply Ext.drew | apply Ext.alloc)); rw [Hext.out]; clear hw7)
    | (go_at_call 19; refine (intact_yes (ys := bs) ?_ ?_ (by omega) (by omega)).mono ?_; exact hri.ext hE7; exact hx2.ext hE7; rintro e w8 ⟨rfl, q, rfl⟩))
  go_wp2_with fail
  go_ret
  exact ⟨rfl, (hE2.trans hE7).drewN _⟩

set_option maxHeartbeats 800000 in
theorem crcSums_low (A : Option Addr) (n c : Nat) (bs : List Nat) (cut : Int) (hcut : cut < 0) (w : World) (hx : Rd .u8 w A n bs) (hu : U8 bs) (hn : n ≤ 140737488351232) :
    Calls Try.prog 3 #[.slice A n c, .int .i64 cut] w fun e w' => e = .returned (.bool true) ∧ Ext w w' := by
  have hlen := hx.len
  have hcrc : crc (bs.take n ++ bs.drop n) = crc bs := by rw [List.take_append_drop]
  have hext : ext (crc (bs.take n)) (bs.drop n) = crc bs := by rw [ext_crc (u8_take hu n), List.take_append_drop]
  have hLt : (bs.take n).length = n := by rw [List.length_take]; omega
  have hLd : (bs.drop n).length = n - n := by rw [List.length_drop]; omega
  have hl1 := crc_lt (u8_take hu n)
  have hl0 := crc_lt hu
  have Hcrc := Lib.hid hcrc
  have Hext := Lib.hid hext
  have HLt := Lib.hid hLt
  have HLd := Lib.hid hLd
  have Hlen := Lib.hid hlen
  clear hcrc hext hLt hLd hlen
  go_enter Try.func3, Try.ntmps3
  go_wp2_with fail
  refine (alive3 _).mono ?_
  rintro e w1 ⟨rfl, he1⟩
  go_wp2_with fail
  refine (wide_any _ _ _ _ _ (hx.ext he1) (by omega)).mono ?_
  rintro e w2 ⟨A2, c2, rfl, hown2, he2⟩
  have hr2 := hown2.rd_take (n := n) (by rw [List.length_append, hx.len]; omega)
  rw [List.take_left' hx.len] at hr2
  have hri := hown2.rd' (n := n + 64) (by rw [List.length_append, hx.len]; rfl)
  obtain ⟨b, rfl, _, hb, hcap, hcm⟩ := hown2.form (by rw [List.length_append, marks_len]; omega)
  rw [List.length_append, hx.len, marks_len] at hcap
  have hx2 := (hx.ext he1).ext he2
  have hE2 := he1.trans he2
  have hnc : n ≤ c2 := by omega
  have hkc : n ≤ c2 := by omega
  have hrT : Rd .u8 w2 (some ⟨b, 0, none⟩) n (bs.take n) := hr2.take (Nat.le_refl _)
  have hrD : Rd .u8 w2 (some ⟨b, 0 + n, none⟩) (n - n) (bs.drop n) := hr2.drop (Nat.le_refl _)
  rw [Nat.zero_add, Nat.sub_self] at hrD
  clear hown2 hx
  go_wp2_with fail
  refine (refSum_any _ _ _ bs _ hx2 hu (by omega)).mono ?_
  rintro e w3 ⟨rfl, rfl⟩
  go_wp2_with fail
  have hck : ¬ c2 = n := by omega
  have hkn : (n : Int) ≤ (n : Int) := by omega
  have hle1 : bs.length ≤ 180000000000000 := by have := Hlen.out; omega
  have hle2 : (bs.take n).length ≤ 180000000000000 := by have := HLt.out; omega
  have hle3 : (bs.drop n).length ≤ 180000000000000 := by have := HLd.out; omega
  obtain ⟨X, hX⟩ : ∃ X, X = bs.take n := ⟨_, rfl⟩
  obtain ⟨Y, hY⟩ : ∃ Y, Y = bs.drop n := ⟨_, rfl⟩
  have hXu : U8 X := by rw [hX]; exact u8_take hu n
  have hYu : U8 Y := by rw [hY]; exact u8_drop hu n
  rw [← hX] at Hcrc Hext hl1 hrT hle2
  rw [← hY] at Hcrc Hext hrD hle3
  clear hX hY HLt HLd
  obtain ⟨S0, hS0⟩ : ∃ S, S = crc bs := ⟨_, rfl⟩
  obtain ⟨S1, hS1⟩ : ∃ S, S = crc X := ⟨_, rfl⟩
  rw [← hS0] at Hcrc Hext hl0 ⊢
  rw [← hS1] at Hext hl1
  have HS0 := Lib.hid hS0
  have HS1 := Lib.hid hS1
  clear hS0 hS1
  have tok1 : True := trivial
  go_region_held3 (fun w' => w'.heap.size = w'.heap.size) (rfl) (first
    | (go_at_call 17; have _t := tok1; refine (sum1_any _ bs _ ?_ hu hle1).mono ?_; exact RdSS.drew (RdSS.one _ _ (by simp) hr2); rintro e w4 ⟨rfl, hw4⟩; have hE4 : Ext w2 w4 := (by rw [← hw4]; repeat (first | exact Ext.refl _ | apply Ext.drew | apply Ext.alloc)); rw [← HS0.out]; clear _t tok1 hw4)
    | (go_at_call 17; refine (sum3_any _ X Y _ ?_ hXu hYu hle2 hle3).mono ?_; exact RdSS.three _ _ (by simp) (hrT.ext hE4) (Rd.nil _ _ _) (hrD.ext hE4); rintro e w5 ⟨rfl, hw5⟩; have hE5 : Ext w2 w5 := (by rw [← hw5]; repeat (first | exact hE4 | apply Ext.drew | apply Ext.alloc)); rw [Hcrc.out]; clear hw5))
  clear hE4
  go_wp2_with fail
  have tok2 : True := trivial
  go_region_held3 (fun w' => w'.heap.size = w'.heap.size) (rfl) (first
    | (go_at_call 17; refine (sum1_any _ X _ ?_ hXu hle2).mono ?_; exact RdSS.drew (RdSS.one _ _ (by simp) (hrT.ext hE5)); rintro e w6 ⟨rfl, hw6⟩; have hE6 : Ext w2 w6 := (by rw [← hw6]; repeat (first | exact hE5 | apply Ext.drew | apply Ext.alloc)); rw [← HS1.out]; clear hw6)
    | (go_at_call 18; refine (extend_any S1 _ _ _ Y _ hl1 ?_ hYu (by omega)).mono ?_; exact hrD.ext hE6; rintro e w7 ⟨rfl, hw7⟩; have hE7 : Ext w2 w7 := (by rw [← hw7]; repeat (first | exact hE6 | apply Ext.drew | apply Ext.alloc)); rw [Hext.out]; clear hw7)
    | (go_at_call 19; refine (intact_yes (ys := bs) ?_ ?_ (by omega) (by omega)).mono ?_; exact hri.ext hE7; exact hx2.ext hE7; rintro e w8 ⟨rfl, q, rfl⟩))
  go_wp2_with fail
  go_ret
  exact ⟨rfl, (hE2.trans hE7).drewN _⟩

set_option maxHeartbeats 800000 in
theorem crcSums_high (A : Option Addr) (n c : Nat) (bs : List Nat) (cut : Int) (hcut : (n : Int) < cut) (w : World) (hx : Rd .u8 w A n bs) (hu : U8 bs) (hn : n ≤ 140737488351232) :
    Calls Try.prog 3 #[.slice A n c, .int .i64 cut] w fun e w' => e = .returned (.bool true) ∧ Ext w w' := by
  have b1 : decide (cut < 0) = false := by simp; omega
  have hlen := hx.len
  have hcrc : crc (bs.take n ++ bs.drop n) = crc bs := by rw [List.take_append_drop]
  have hext : ext (crc (bs.take n)) (bs.drop n) = crc bs := by rw [ext_crc (u8_take hu n), List.take_append_drop]
  have hLt : (bs.take n).length = n := by rw [List.length_take]; omega
  have hLd : (bs.drop n).length = n - n := by rw [List.length_drop]; omega
  have hl1 := crc_lt (u8_take hu n)
  have hl0 := crc_lt hu
  have Hcrc := Lib.hid hcrc
  have Hext := Lib.hid hext
  have HLt := Lib.hid hLt
  have HLd := Lib.hid hLd
  have Hlen := Lib.hid hlen
  clear hcrc hext hLt hLd hlen
  go_enter Try.func3, Try.ntmps3
  go_wp2_with fail
  refine (alive3 _).mono ?_
  rintro e w1 ⟨rfl, he1⟩
  go_wp2_with fail
  refine (wide_any _ _ _ _ _ (hx.ext he1) (by omega)).mono ?_
  rintro e w2 ⟨A2, c2, rfl, hown2, he2⟩
  have hr2 := hown2.rd_take (n := n) (by rw [List.length_append, hx.len]; omega)
  rw [List.take_left' hx.len] at hr2
  have hri := hown2.rd' (n := n + 64) (by rw [List.length_append, hx.len]; rfl)
  obtain ⟨b, rfl, _, hb, hcap, hcm⟩ := hown2.form (by rw [List.length_append, marks_len]; omega)
  rw [List.length_append, hx.len, marks_len] at hcap
  have hx2 := (hx.ext he1).ext he2
  have hE2 := he1.trans he2
  have hnc : n ≤ c2 := by omega
  have hkc : n ≤ c2 := by omega
  have hrT : Rd .u8 w2 (some ⟨b, 0, none⟩) n (bs.take n) := hr2.take (Nat.le_refl _)
  have hrD : Rd .u8 w2 (some ⟨b, 0 + n, none⟩) (n - n) (bs.drop n) := hr2.drop (Nat.le_refl _)
  rw [Nat.zero_add, Nat.sub_self] at hrD
  clear hown2 hx
  go_wp2_with fail
  refine (refSum_any _ _ _ bs _ hx2 hu (by omega)).mono ?_
  rintro e w3 ⟨rfl, rfl⟩
  go_wp2_with fail
  have hck : ¬ c2 = n := by omega
  have hkn : (n : Int) ≤ (n : Int) := by omega
  have hle1 : bs.length ≤ 180000000000000 := by have := Hlen.out; omega
  have hle2 : (bs.take n).length ≤ 180000000000000 := by have := HLt.out; omega
  have hle3 : (bs.drop n).length ≤ 180000000000000 := by have := HLd.out; omega
  obtain ⟨X, hX⟩ : ∃ X, X = bs.take n := ⟨_, rfl⟩
  obtain ⟨Y, hY⟩ : ∃ Y, Y = bs.drop n := ⟨_, rfl⟩
  have hXu : U8 X := by rw [hX]; exact u8_take hu n
  have hYu : U8 Y := by rw [hY]; exact u8_drop hu n
  rw [← hX] at Hcrc Hext hl1 hrT hle2
  rw [← hY] at Hcrc Hext hrD hle3
  clear hX hY HLt HLd
  obtain ⟨S0, hS0⟩ : ∃ S, S = crc bs := ⟨_, rfl⟩
  obtain ⟨S1, hS1⟩ : ∃ S, S = crc X := ⟨_, rfl⟩
  rw [← hS0] at Hcrc Hext hl0 ⊢
  rw [← hS1] at Hext hl1
  have HS0 := Lib.hid hS0
  have HS1 := Lib.hid hS1
  clear hS0 hS1
  have tok1 : True := trivial
  go_region_held3 (fun w' => w'.heap.size = w'.heap.size) (rfl) (first
    | (go_at_call 17; have _t := tok1; refine (sum1_any _ bs _ ?_ hu hle1).mono ?_; exact RdSS.drew (RdSS.one _ _ (by simp) hr2); rintro e w4 ⟨rfl, hw4⟩; have hE4 : Ext w2 w4 := (by rw [← hw4]; repeat (first | exact Ext.refl _ | apply Ext.drew | apply Ext.alloc)); rw [← HS0.out]; clear _t tok1 hw4)
    | (go_at_call 17; refine (sum3_any _ X Y _ ?_ hXu hYu hle2 hle3).mono ?_; exact RdSS.three _ _ (by simp) (hrT.ext hE4) (Rd.nil _ _ _) (hrD.ext hE4); rintro e w5 ⟨rfl, hw5⟩; have hE5 : Ext w2 w5 := (by rw [← hw5]; repeat (first | exact hE4 | apply Ext.drew | apply Ext.alloc)); rw [Hcrc.out]; clear hw5))
  clear hE4
  go_wp2_with fail
  have tok2 : True := trivial
  go_region_held3 (fun w' => w'.heap.size = w'.heap.size) (rfl) (first
    | (go_at_call 17; refine (sum1_any _ X _ ?_ hXu hle2).mono ?_; exact RdSS.drew (RdSS.one _ _ (by simp) (hrT.ext hE5)); rintro e w6 ⟨rfl, hw6⟩; have hE6 : Ext w2 w6 := (by rw [← hw6]; repeat (first | exact hE5 | apply Ext.drew | apply Ext.alloc)); rw [← HS1.out]; clear hw6)
    | (go_at_call 18; refine (extend_any S1 _ _ _ Y _ hl1 ?_ hYu (by omega)).mono ?_; exact hrD.ext hE6; rintro e w7 ⟨rfl, hw7⟩; have hE7 : Ext w2 w7 := (by rw [← hw7]; repeat (first | exact hE6 | apply Ext.drew | apply Ext.alloc)); rw [Hext.out]; clear hw7)
    | (go_at_call 19; refine (intact_yes (ys := bs) ?_ ?_ (by omega) (by omega)).mono ?_; exact hri.ext hE7; exact hx2.ext hE7; rintro e w8 ⟨rfl, q, rfl⟩))
  go_wp2_with fail
  go_ret
  exact ⟨rfl, (hE2.trans hE7).drewN _⟩

theorem walk_CrcSums (A : Option Addr) (n c : Nat) (bs : List Nat) (cut : Int) (w : World) (hx : Rd .u8 w A n bs) (hu : U8 bs) (hn : n ≤ 140737488351232) (_h1 : -9223372036854775808 ≤ cut) (_h2 : cut ≤ 9223372036854775807) :
    Calls Try.prog 3 #[.slice A n c, .int .i64 cut] w fun e w' => e = .returned (.bool true) ∧ Ext w w' := by
  by_cases h0 : cut < 0
  · exact crcSums_low A n c bs cut h0 w hx hu hn
  · by_cases h1 : (n : Int) < cut
    · exact crcSums_high A n c bs cut h1 w hx hu hn
    · obtain ⟨k, rfl⟩ := Int.eq_ofNat_of_zero_le (show 0 ≤ cut by omega)
      exact crcSums_in A n c bs k (by omega) w hx hu hn

end Go.Proofs.Ytegplcllimoakaa
