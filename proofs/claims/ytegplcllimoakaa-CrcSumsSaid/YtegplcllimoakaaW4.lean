/-
  Layer 3: the laws of joined sums, of sealed bytes, of added sums.
-/
import Derived.Test.YtegplcllimoakaaW3
namespace Go.Proofs.Ytegplcllimoakaa
open Go.RowKit

theorem joined_zero (x y : Nat) : joined x y 0 = x ^^^ y := rfl

set_option maxHeartbeats 800000 in
theorem walk_CrcJoins (A : Option Addr) (n c : Nat) (xs : List Nat) (A2 : Option Addr) (n2 c2 : Nat) (ys : List Nat) (first second m : Int) (w : World) (hx : Rd .u8 w A n xs) (hu : U8 xs) (hn : n ≤ 140737488351232) (hy : Rd .u8 w A2 n2 ys) (hv : U8 ys) (hn2 : n2 ≤ 140737488351232)
    (hf0 : 0 ≤ first) (hf : first < 4294967296) (hs0 : 0 ≤ second) (hs : second < 4294967296) (_hm0 : -9223372036854775808 ≤ m) (hm : m ≤ 9223372036854775807) :
    Calls Try.prog 5 #[.slice A n c, .slice A2 n2 c2, .int .u32 first, .int .u32 second, .int .i64 m] w fun e w' => e = .returned (.bool true) ∧ Ext w w' := by
  obtain ⟨f, rfl⟩ := Int.eq_ofNat_of_zero_le hf0
  obtain ⟨s, rfl⟩ := Int.eq_ofNat_of_zero_le hs0
  have hfl : f < 4294967296 := by omega
  have hsl : s < 4294967296 := by omega
  have hjoin := (crc_append hu ys).symm
  rw [hy.len] at hjoin
  have h1l := crc_lt hu
  have h2l := crc_lt hv
  have hln := hx.len
  have hln2 := hy.len
  have hLx : xs.length ≤ 180000000000000 := by omega
  have hLy : ys.length ≤ 180000000000000 := by omega
  go_enter Try.func5, Try.ntmps5
  clear hln hln2
  go_wp2_with fail
  refine (alive3 _).mono ?_
  rintro e w1 ⟨rfl, he1⟩
  have hx1 := hx.ext he1
  have hy1 := hy.ext he1
  obtain ⟨S1, hS1⟩ : ∃ S, S = crc xs := ⟨_, rfl⟩
  obtain ⟨S2, hS2⟩ : ∃ S, S = crc ys := ⟨_, rfl⟩
  rw [← hS1] at hjoin h1l
  rw [← hS2] at hjoin h2l
  have Hj := Lib.hid hjoin
  have HS1 := Lib.hid hS1
  have HS2 := Lib.hid hS2
  clear hjoin hS1 hS2
  go_wp2_with fail
  refine (sum1_any _ xs _ ?_ hu hLx).mono ?_
  · exact RdSS.one _ _ (by simp) hx1
  rintro e w2 ⟨rfl, hw⟩
  have hE2 : Ext w1 w2 := by rw [← hw]; repeat (first | exact Ext.refl _ | apply Ext.drew | apply Ext.alloc)
  clear hw
  rw [← HS1.out]
  go_wp2_with fail
  refine (sum1_any _ ys _ ?_ hv hLy).mono ?_
  · exact RdSS.one _ _ (by simp) (hy1.ext hE2)
  rintro e w3 ⟨rfl, hw⟩
  have hE3 : Ext w1 w3 := by rw [← hw]; repeat (first | exact hE2 | apply Ext.drew | apply Ext.alloc)
  clear hw
  rw [← HS2.out]
  go_wp2_with fail
  refine (join_any S1 S2 _ _ h1l h2l (by omega)).mono ?_
  rintro e w4 ⟨rfl, rfl⟩
  rw [Int.toNat_natCast, Hj.out]
  go_wp2_with fail
  refine (sum2_any _ xs ys _ ?_ hu hv hLx hLy).mono ?_
  · exact RdSS.two _ _ (by simp) (hx1.ext hE3) (hy1.ext hE3)
  rintro e w5 ⟨rfl, hw⟩
  have hE5 : Ext w w5 := by rw [← hw]; repeat (first | exact he1.trans hE3 | apply Ext.drew | apply Ext.alloc)
  clear hw
  by_cases hpos : 0 < m
  · go_wp2_with fail
    go_ret
    exact ⟨rfl, hE5⟩
  · have b1 : decide (0 < m) = false := by simp; omega
    have h0 : m.toNat = 0 := by omega
    have H0 := Lib.hid h0
    clear h0
    go_wp2_with fail
    refine (join_any f s m _ hfl hsl hm).mono ?_
    rintro e w6 ⟨rfl, rfl⟩
    rw [H0.out, joined_zero]
    have hxo : bits .xor .u32 (f : Int) (s : Int) = ((f ^^^ s : Nat) : Int) := u32_xor_nat _ _ hfl hsl
    go_wp2_with fail
    go_ret
    exact ⟨rfl, hE5⟩

theorem RdSS.drew {w : World} {A : Option Addr} {n : Nat} {xss : List (List Nat)} (h : RdSS w A n xss) : RdSS w.drew A n xss := h

/-- Three rows that were made one behind the other lie apart. -/
theorem apart3 {w2 w3 w4 w5 : World} {A3 A4 A5 : Option Addr} {c3 c4 c5 n : Nat} {xs : List Nat} (h3 : Own .u8 5 w3 w2.heap.size A3 c3 xs) (e3 : Ext w2 w3) (h4 : Own .u8 5 w4 w3.heap.size A4 c4 xs) (e4 : Ext w3 w4)
    (h5 : Own .u8 5 w5 w4.heap.size A5 c5 xs) (e5 : Ext w4 w5) (hl : xs.length = n) (hu : U8 xs) (hn : n + 70 ≤ 180000000000000) :
    Calls Try.prog 20 #[.slice A3 n c3, .slice A4 n c4, .slice A5 n c5] w5 fun e w' => e = .returned (.bool true) ∧ Ext w2 w' := by
  refine apart_any A3 A4 A5 n c3 c4 c5 w2.heap.size xs w2 w5 ((h3.ext e4).ext e5) hl hu ((h4.ext e5).rd' hl) (h5.rd' hl) ?_ ?_ ((e3.trans e4).trans e5) (Nat.le_refl _) ((e3.trans e4).trans e5).size hn
  · intro a a2 ha ha2
    have := (h3.block a ha).2
    have := (h4.block a2 ha2).1
    omega
  · intro a a3 ha ha3
    have := (h3.block a ha).2
    have := (h5.block a3 ha3).1
    have := e4.size
    omega

theorem Ext.undrew {w w' : World} (h : Ext w.drew w') : Ext w w' := ⟨h.os, h.tape, h.output, h.size, h.block⟩

set_option maxHeartbeats 1600000 in
theorem walk_CrcSeals (A : Option Addr) (n c : Nat) (bs : List Nat) (w : World) (hx : Rd .u8 w A n bs) (hu : U8 bs) (hn : n ≤ 140737488351232) :
    Calls Try.prog 4 #[.slice A n c] w fun e w' => e = .returned (.bool true) ∧ Ext w w' := by
  have hsu := sl_u8 hu
  have hd1 : decide (sld (sl bs)) = true := decide_eq_true (sld_seal hu)
  have Hsl := Lib.hid (show (sl bs).length = n + 4 by rw [sl_len, hx.len])
  have Hd1 := Lib.hid hd1
  clear hd1
  go_enter Try.func4, Try.ntmps4
  go_wp2_with fail
  refine (alive3 _).mono ?_
  rintro e w1 ⟨rfl, he1⟩
  go_wp2_with fail
  refine (wide_any _ _ _ _ _ (hx.ext he1) (by omega)).mono ?_
  rintro e w2 ⟨A2, c2, rfl, hown2, he2⟩
  have hr2 := hown2.rd_take (n := n) (by rw [List.length_append, hx.len]; omega)
  rw [List.take_left' hx.len] at hr2
  have hri := hown2.rd' (n := n + 64) (by rw [List.length_append, hx.len]; rfl)
  obtain ⟨b, rfl, _, hb, hcap, hcm⟩ := hown2.form (by rw [List.length_append, marks_len]; omega)
  rw [List.length_append, hx.len, marks_len] at hcap
  have hx2 := (hx.ext he1).ext he2
  have hE2 := he1.trans he2
  have hnc : n ≤ c2 := by omega
  clear hown2 hx
  have tok1 : True := trivial
  go_wp2_with fail
  go_region_with (first
    | (go_at_call 21; have _t := tok1; refine (seal_any _ _ _ bs _ ?_ hu (by omega)).mono ?_; exact hr2; rintro e w3 ⟨A3, c3, rfl, hown3, he3⟩; clear _t tok1)
    | (go_at_call 21; refine (seal_any _ _ _ bs _ ?_ hu (by omega)).mono ?_; exact hr2.ext he3.undrew; rintro e w4 ⟨A4, c4, rfl, hown4, he4⟩)
    | (go_at_call 22; refine (refSeal_any _ _ _ bs _ ?_ hu (by omega)).mono ?_; exact (hx2.ext he3.undrew).ext he4; rintro e w5 ⟨A5, c5, rfl, hown5, he5⟩)
    | (go_at_call 20; refine (apart3 hown3 he3 hown4 he4 hown5 he5 Hsl.out hsu (by omega)).mono ?_; rintro e w6 ⟨rfl, he6⟩)
    | (go_at_call 19; refine (intact_yes (ys := bs) ?_ ?_ (by omega) (by omega)).mono ?_; exact hri.ext he6.undrew; exact hx2.ext he6.undrew; rintro e w7 ⟨rfl, q, rfl⟩))
  have hE6 : Ext w2 (w6.drewN q) := (he6.undrew).drewN q
  obtain ⟨w7, hw7⟩ : ∃ w7, w7 = w6.drewN q := ⟨_, rfl⟩
  rw [← hw7] at hE6
  go_wp2_with fail
  refine (sealed_any _ _ _ bs _ ?_ hu (by omega) hnc hcm).mono ?_
  · exact hr2.ext (he6.undrew.drewN q)
  rintro e w8 ⟨rfl, he8⟩
  have hE8 : Ext w2 w8 := (he6.undrew.drewN q).trans he8
  clear hw7 hE6
  go_wp2_with fail
  refine (refSealed_any _ _ _ bs _ (hx2.ext hE8) hu (by omega)).mono ?_
  rintro e w9 ⟨rfl, he9⟩
  obtain ⟨B1, hB1⟩ : ∃ B, B = decide (sld bs) := ⟨_, rfl⟩
  rw [← hB1]
  clear hB1
  go_wp2_with fail
  refine (seal_any _ _ _ bs _ (hx2.ext (hE8.trans he9)) hu (by omega)).mono ?_
  rintro e w10 ⟨A10, c10, rfl, hown10, he10⟩
  obtain ⟨hcap10, hcm10⟩ := hown10.cap
  rw [Hsl.out] at hcap10
  go_wp2_with fail
  refine (sealed_any _ _ _ (sl bs) _ (hown10.rd' Hsl.out) hsu (by omega) hcap10 hcm10).mono ?_
  rintro e w11 ⟨rfl, he11⟩
  rw [Hd1.out]
  have hE11 := ((hE8.trans he9).trans he10).trans he11
  go_wp2_with fail
  refine (intact_yes (ys := bs) (hri.ext hE11) (hx2.ext hE11) (by omega) (by omega)).mono ?_
  rintro e w12 ⟨rfl, q2, rfl⟩
  go_wp2_with fail
  go_ret
  exact ⟨rfl, (hE2.trans hE11).drewN _⟩

theorem Rd.take {k : IntKind} {w : World} {b o n : Nat} {xs : List Nat} (h : Rd k w (some ⟨b, o, none⟩) n xs) {m : Nat} (hm : m ≤ n) : Rd k w (some ⟨b, o, none⟩) m (xs.take m) :=
  ⟨by rw [List.length_take, h.len]; omega, fun h0 => by
    obtain ⟨b', o', e, hlt, hc⟩ := h.2 (by omega)
    injection e with e
    injection e with e1 e2
    subst e1 e2
    exact ⟨b, o, rfl, hlt, fun j hj => by rw [hc j (by omega)]; simp [List.getD, hj]⟩⟩
theorem Rd.drop {k : IntKind} {w : World} {b o n : Nat} {xs : List Nat} (h : Rd k w (some ⟨b, o, none⟩) n xs) {m : Nat} (hm : m ≤ n) : Rd k w (some ⟨b, o + m, none⟩) (n - m) (xs.drop m) :=
  ⟨by rw [List.length_drop, h.len], fun h0 => by
    obtain ⟨b', o', e, hlt, hc⟩ := h.2 (by omega)
    injection e with e
    injection e with e1 e2
    subst e1 e2
    exact ⟨b, o + m, rfl, hlt, fun j hj => by rw [Nat.add_assoc, hc (m + j) (by omega)]; simp [List.getD]⟩⟩

end Go.Proofs.Ytegplcllimoakaa
