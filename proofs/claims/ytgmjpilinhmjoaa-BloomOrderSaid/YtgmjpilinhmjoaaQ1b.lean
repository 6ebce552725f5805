/-
  Layer 13: the reference's place.
-/
import Derived.Test.YtgmjpilinhmjoaaQ1
namespace Go.Proofs.Ytgmjpilinhmjoaa
open Go.RowKit
set_option maxRecDepth 100000

theorem place_num {h m i B : Nat} (hh : h < 18446744073709551616) (hi : i ≤ 5) (hm0 : 0 < m) (hm : m ≤ 1000000) (hB : B = hb h) :
    wrap64 ((IntKind.u64.wrap ((h : Int) % 4294967296 + IntKind.u64.wrap ((i : Int) * (B : Int)))).tmod (m : Int)) = ((kk h m i : Nat) : Int) := by
  have hlin := kk_lin hh hi
  rw [← hB] at hlin
  have hkm : kk h m i < m := kk_lt hm0
  have hk : kk h m i = (h % 4294967296 + i * B) % m := by rw [kk, ← hB]
  obtain ⟨p, hp⟩ : ∃ p, p = i * B := ⟨_, rfl⟩
  rw [← hp] at hk hlin
  have e1 : (i : Int) * (B : Int) = (p : Int) := by rw [hp, Int.natCast_mul]
  have e2 : IntKind.u64.wrap (p : Int) = (p : Int) := by rw [IntKind.wrap_u64]; omega
  have e3 : IntKind.u64.wrap ((h : Int) % 4294967296 + (p : Int)) = (((h % 4294967296 + p : Nat)) : Int) := by rw [IntKind.wrap_u64]; omega
  rw [e1, e2, e3, Int.tmod_eq_emod_of_nonneg (by omega), ← Int.natCast_emod, ← hk]
  exact IntWalk.wrap64_in _ (by omega)

set_option maxHeartbeats 400000 in
theorem place_any (A : Option Addr) (n c i m : Nat) (bs : List Nat) (w : World) (hx : Rd .u8 w A n bs) (hu : U8 bs) (hn : n ≤ 281474976710656) (hi : i ≤ 5) (hm0 : 0 < m) (hm : m ≤ 1000000) :
    Calls Try.prog 33 #[.slice A n c, .int .i64 (i : Int), .int .i64 (m : Int)] w fun e w' => e = .returned (.int .i64 (kk (fnv bs) m i : Nat)) ∧ w = w' := by
  have hh := fnv_lt bs
  have hcall := refHash_any A n c bs w hx hu hn
  obtain ⟨h, hH⟩ : ∃ h, h = fnv bs := ⟨_, rfl⟩
  rw [← hH] at hh hcall ⊢
  have hpl : ∀ B, B = hb h → wrap64 ((IntKind.u64.wrap ((h : Int) % 4294967296 + IntKind.u64.wrap ((i : Int) * (B : Int)))).tmod (m : Int)) = ((kk h m i : Nat) : Int) := fun B hB => place_num hh hi hm0 hm hB
  have hor : hb h = if h / 4294967296 % 2 = 0 then h / 4294967296 + 1 else h / 4294967296 := or_one _
  have Hh := Lib.hid hh
  have Hpl := Lib.hid hpl
  have Hor := Lib.hid hor
  have Hcall := Lib.hid hcall
  clear hH hx hu hh hpl hor hcall
  have hw0 : Hid (IntKind.u64.wrap ((h : Int) / 4294967296) = ((h / 4294967296 : Nat) : Int)) := Lib.hid (by rw [IntKind.wrap_u64]; have := Hh.out; omega)
  go_enter Try.func33, Try.ntmps33
  go_wp2_with fail
  refine Hcall.out.mono ?_
  rintro e w1 ⟨rfl, rfl⟩
  go_wp2_with fail
  · go_ret
    have hz : ((IntKind.u64.wrap ((h : Int) / 4294967296)).tmod 2 == 0) = true := by assumption
    have hz2 := eq_of_beq hz
    rw [hw0.out, Int.tmod_eq_emod_of_nonneg (by omega)] at hz2
    have hB : h / 4294967296 + 1 = hb h := by rw [Hor.out, if_pos (by omega)]
    have hh := Hh.out
    refine ⟨ret_int' ?_, rfl⟩
    rw [hw0.out, show IntKind.u64.wrap (((h / 4294967296 : Nat) : Int) + 1) = ((h / 4294967296 + 1 : Nat) : Int) from by rw [IntKind.wrap_u64]; omega]
    exact Hpl.out _ hB
  · go_ret
    have hz : ((IntKind.u64.wrap ((h : Int) / 4294967296)).tmod 2 == 0) = false := by assumption
    have hz2 : ¬ ((IntKind.u64.wrap ((h : Int) / 4294967296)).tmod 2 = 0) := fun e => by rw [e] at hz; simp at hz
    rw [hw0.out, Int.tmod_eq_emod_of_nonneg (by omega)] at hz2
    have hB : h / 4294967296 = hb h := by rw [Hor.out, if_neg (by omega)]
    refine ⟨ret_int' ?_, rfl⟩
    rw [hw0.out]
    exact Hpl.out _ hB

end Go.Proofs.Ytgmjpilinhmjoaa
