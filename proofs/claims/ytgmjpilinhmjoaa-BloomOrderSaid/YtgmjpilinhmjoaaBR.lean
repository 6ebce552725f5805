import Derived.Test.YtgmjpilinhmjoaaB0
import Derived.Test.YtgmjpilinhmjoaaA1P
import Derived.Test.YtgmjpilinhmjoaaA1U
import Derived.Test.YtgmjpilinhmjoaaBL
import Derived.RegionTactic
import Derived.BigRegion
import Derived.Deep.RegionWith
/-
  The reference's Width and Pack.
-/
-- part B1p
namespace Go.Proofs.Ytgmjpilinhmjoaa
open Go.RowKit

/-- Bit k of a number; the w bits of N from place at on. -/
def bitAt (N k : Nat) : Nat := N / 2 ^ k % 2
def dig (N at_ w : Nat) : Nat := N / 2 ^ at_ % 2 ^ w
theorem bitAt_lt (N k : Nat) : bitAt N k < 2 := Nat.mod_lt _ (by omega)
theorem dig_zero (N a : Nat) : dig N a 0 = 0 := by simp [dig, Nat.mod_one]
theorem dig_lt (N a w : Nat) : dig N a w < 2 ^ w := Nat.mod_lt _ (Nat.two_pow_pos w)
/-- One more bit from below. -/
theorem dig_low (N a w : Nat) : dig N a (w + 1) = dig N (a + 1) w * 2 + bitAt N a := by
  unfold dig bitAt
  rw [Nat.pow_succ 2 w, Nat.mul_comm (2 ^ w) 2, Nat.mod_mul, Nat.pow_succ 2 a, ← Nat.div_div_eq_div_mul]
  omega

theorem bit_of_byte {bs : List Nat} (h : U8 bs) (k : Nat) : bs.getD (k / 8) 0 / pw (k % 8) % 2 = bitAt (pk 8 bs) k := by
  unfold bitAt pw
  rw [← pk_at (U8_wd.1 h) (k / 8)]
  have hk : 8 * (k / 8) + k % 8 = k := by omega
  have h2 : 2 ^ 8 = 2 ^ (k % 8) * 2 ^ (8 - k % 8) := by rw [← Nat.pow_add]; congr 1; omega
  rw [h2, Nat.mod_mul_right_div_self, Nat.div_div_eq_div_mul, ← Nat.pow_add, hk]
  have h3 : 2 ^ (8 - k % 8) = 2 * 2 ^ (7 - k % 8) := by rw [Nat.mul_comm, ← Nat.pow_succ]; congr 1; omega
  rw [h3, Nat.mod_mul_right_mod]


end Go.Proofs.Ytgmjpilinhmjoaa

-- part B3p
/-
  Width, the program's and the document's.
-/
namespace Go.Proofs.Ytgmjpilinhmjoaa
open Go.RowKit

set_option maxHeartbeats 400000 in
theorem refWidth_any (A : Option Addr) (n c : Nat) (vs : List Nat) (w : World) (hx : Rd .u64 w A n vs) (hu : U64 vs) (hn : n ≤ 140737488355328) :
    Calls Try.prog 53 #[.slice A n c] w fun e w' => e = .returned (.int .i64 (wdt vs)) ∧ w = w' := by
  have hl := hx.len
  have Hl := Lib.hid hl
  clear hl
  go_enter Try.func53, Try.ntmps53
  go_wp2_with fail
  go_loop [3, 4] (fun v i => ∃ j : Nat, j ≤ n ∧ i = .int .i64 j ∧ v = .int .i64 (wdt (vs.take j))) (fun _ i => n - (intOf i).toNat)
  case atStart => exact ⟨0, Nat.zero_le _, rfl, rfl⟩
  case round =>
    obtain ⟨j, hj, rfl, rfl⟩ := hrel
    by_cases hlt : j < n
    · obtain ⟨b, o, rfl, hb, hc⟩ := hx.at_ hlt
      have h2 := hu.at_ j
      have Ht := Lib.hid (take_next vs j (by have := Hl.out; omega))
      obtain ⟨x, hx'⟩ : ∃ x, x = vs.getD j 0 := ⟨_, rfl⟩
      rw [← hx'] at hc h2 Ht
      clear hx'
      go_wp2_with fail
      have h64 := bl_64 h2
      go_loop [5, 6] (fun m v => ∃ k y : Nat, m = .int .i64 k ∧ v = .int .u64 y ∧ Hid (bl x = bl y + k) ∧ k ≤ 64 ∧ y < 18446744073709551616) (fun m v => (intOf v).toNat)
      case atStart => exact ⟨0, x, rfl, rfl, rfl, by omega, h2⟩
      case round =>
        obtain ⟨k, y, rfl, rfl, Hk, hk64, hy⟩ := hrel
        by_cases hy0 : 0 < y
        · have Hb := Lib.hid (bl_half hy0)
          have hk2 : k + 1 ≤ 64 := by have := Hb.out; have := Hk.out; omega
          go_wp2
          go_round
          case rel => exact ⟨k + 1, y / 2, by go_num, by go_num, by have := Hb.out; have := Hk.out; show bl x = _; omega, hk2, by omega⟩
          case measure => simp [intOf]; omega
        · obtain rfl : y = 0 := by omega
          have hk3 : bl x = k := by have := Hk.out; rw [bl_zero] at this; omega
          have Hk3 := Lib.hid hk3
          clear hk3
          by_cases hg : wdt (vs.take j) < k
          · go_wp2
            go_round
            case rel => exact ⟨j + 1, by omega, by go_num, by rw [Ht.out, wdt_snoc, Hk3.out, Nat.max_eq_right (by omega)]⟩
            case measure => simp [intOf]; omega
          · go_wp2
            go_round
            case rel => exact ⟨j + 1, by omega, by go_num, by rw [Ht.out, wdt_snoc, Hk3.out, Nat.max_eq_left (by omega)]⟩
            case measure => simp [intOf]; omega
    · obtain rfl : j = n := by omega
      rw [List.take_of_length_le (Nat.le_of_eq Hl.out)]
      go_wp2
      go_ret
      exact ⟨rfl, rfl⟩

end Go.Proofs.Ytgmjpilinhmjoaa

-- part B8p
namespace Go.Proofs.Ytgmjpilinhmjoaa
open Go.RowKit

/-- What Pack answers. -/
def packE (wd : Int) (vs : List Nat) : Int := if wd < 0 ∨ 64 < wd then 1 else if 4096 < vs.length then 4 else if wd < (wdt vs : Int) then 10 else 0
def packB (wd : Nat) (vs : List Nat) : List Nat := upk 8 ((wd * vs.length + 7) / 8) (pk wd vs)
def packL (wd : Int) (vs : List Nat) : List Nat := if packE wd vs = 0 then packB wd.toNat vs else []

def PackPost (wd : Int) (vs : List Nat) (w : World) (e : Ending) (w' : World) : Prop :=
  ∃ A' c', e = .returned (.tuple #[.slice A' (packL wd vs).length c', .int .i64 (packE wd vs)]) ∧ Own .u8 5 w' w.heap.size A' c' (packL wd vs) ∧ Ext w w'

theorem PackPost.err {wd r : Int} {vs : List Nat} {w w' : World} (h : packE wd vs = r) (hr : r ≠ 0) (he : Ext w w') : PackPost wd vs w (.returned (.tuple #[.slice none 0 0, .int .i64 r])) w' := by
  have h0 : packL wd vs = [] := by unfold packL; rw [h, if_neg hr]
  refine ⟨none, 0, ?_, ?_, he⟩
  · rw [h0, h]; rfl
  · rw [h0]; exact Own.nil ..

theorem PackPost.ok {wd m : Nat} {vs : List Nat} {w w' : World} {A : Option Addr} {c : Nat} (h : packE wd vs = 0) (hm : m = (packB wd vs).length) (ho : Own .u8 5 w' w.heap.size A c (packB wd vs)) (he : Ext w w') :
    PackPost wd vs w (.returned (.tuple #[.slice A m c, .int .i64 0])) w' := by
  have h0 : packL wd vs = packB wd vs := by unfold packL; rw [h, if_pos rfl]; rfl
  refine ⟨A, c, ?_, ?_, he⟩
  · rw [h0, h, hm]
  · rw [h0]; exact ho

theorem packE_arg {wd : Int} {vs : List Nat} (h : wd < 0 ∨ 64 < wd) : packE wd vs = 1 := if_pos h
theorem packE_long {wd : Int} {vs : List Nat} (h : ¬ (wd < 0 ∨ 64 < wd)) (h2 : 4096 < vs.length) : packE wd vs = 4 := by unfold packE; rw [if_neg h, if_pos h2]
theorem packE_bits {wd : Int} {vs : List Nat} (h : ¬ (wd < 0 ∨ 64 < wd)) (h2 : ¬ 4096 < vs.length) (h3 : wd < (wdt vs : Int)) : packE wd vs = 10 := by unfold packE; rw [if_neg h, if_neg h2, if_pos h3]
theorem packE_ok {wd : Int} {vs : List Nat} (h : ¬ (wd < 0 ∨ 64 < wd)) (h2 : ¬ 4096 < vs.length) (h3 : ¬ wd < (wdt vs : Int)) : packE wd vs = 0 := by unfold packE; rw [if_neg h, if_neg h2, if_neg h3]

theorem Own.grown_ext {k : IntKind} {e : TypeId} {w0 w w' : World} {base c : Nat} {A : Option Addr} {xs : List Nat} (h : Own k e w base A c xs) (hE : Ext w0 w) (hb : w0.heap.size ≤ base) (hg : w.grownBy w' (A.map (·.block))) : Ext w0 w' :=
  grownBy_ext hE hg (by
    intro g hg
    cases hA : A with
    | none => rw [hA] at hg; simp at hg
    | some a => rw [hA] at hg; simp at hg; subst hg; exact Nat.le_trans hb (h.block a hA).1)

end Go.Proofs.Ytgmjpilinhmjoaa

-- part B9p
namespace Go.Proofs.Ytgmjpilinhmjoaa
open Go.RowKit

theorem num_bit {N w a x j : Nat} (hx : N / 2 ^ a % 2 ^ w = x) (hj : j < w) : x / 2 ^ j % 2 = bitAt N (a + j) := by
  unfold bitAt
  have hw : 2 ^ w = 2 ^ j * 2 ^ (w - j) := by rw [← Nat.pow_add]; congr 1; omega
  have hw2 : 2 ^ (w - j) = 2 * 2 ^ (w - j - 1) := by rw [Nat.mul_comm, ← Nat.pow_succ]; congr 1; omega
  rw [← hx, hw, Nat.mod_mul_right_div_self, Nat.div_div_eq_div_mul, ← Nat.pow_add, hw2, Nat.mod_mul_right_mod]

/-- What one bit more does to the bytes. -/
theorem bit_step {S k : Nat} :
    let M := S % 2 ^ k
    let β := bitAt S k
    M / 2 ^ (8 * (k / 8)) % 2 ^ 8 < 2 ^ (k % 8) ∧ M / 2 ^ (8 * (k / 8)) % 2 ^ 8 + β * pw (k % 8) < 256 ∧
      (upk 8 (k / 8 + 1) M).set (k / 8) (M / 2 ^ (8 * (k / 8)) % 2 ^ 8 + β * pw (k % 8)) = upk 8 ((k + 1 + 7) / 8) (S % 2 ^ (k + 1)) ∧
      (k % 8 = 0 → upk 8 ((k + 7) / 8) M ++ [0] = upk 8 (k / 8 + 1) M) := by
  intro M β
  have hk : 8 * (k / 8) + k % 8 = k := by omega
  have hs : k % 8 < 8 := Nat.mod_lt _ (by omega)
  have hM : M < 2 ^ k := Nat.mod_lt _ (Nat.two_pow_pos k)
  have hβ : β < 2 := bitAt_lt S k
  have hx : M / 2 ^ (8 * (k / 8)) < 2 ^ (k % 8) := by
    apply Nat.div_lt_of_lt_mul
    rw [← Nat.pow_add, hk]
    exact hM
  have hx2 := Nat.lt_of_le_of_lt (Nat.mod_le (M / 2 ^ (8 * (k / 8))) (2 ^ 8)) hx
  have hp : 2 ^ (k % 8) * 2 ≤ 256 := by rw [← Nat.pow_succ]; exact Nat.pow_le_pow_right (n := 2) (by omega) (show k % 8 + 1 ≤ 8 by omega)
  have hb : β * pw (k % 8) ≤ 2 ^ (k % 8) := by
    have := Nat.mul_le_mul_right (2 ^ (k % 8)) (show β ≤ 1 by omega)
    rw [Nat.one_mul] at this
    exact this
  have hlt : M / 2 ^ (8 * (k / 8)) % 2 ^ 8 + β * pw (k % 8) < 256 := by omega
  refine ⟨hx2, hlt, ?_, ?_⟩
  · rw [← upk_add (by omega) hlt, show (k + 1 + 7) / 8 = k / 8 + 1 from by omega]
    congr 1
    show M + 2 ^ (8 * (k / 8)) * (β * 2 ^ (k % 8)) = _
    rw [Nat.mul_comm β, ← Nat.mul_assoc, ← Nat.pow_add, hk, Nat.pow_succ, Nat.mod_mul]
    rfl
  · intro h0
    have hz : M / 2 ^ (8 * (k / 8)) = 0 := Nat.div_eq_of_lt (by rw [show 8 * (k / 8) = k from by omega]; exact hM)
    rw [show (k + 7) / 8 = k / 8 from by omega, upk_snoc, hz]

set_option maxHeartbeats 3200000 in
theorem refPack_any (A : Option Addr) (n c : Nat) (wd : Int) (vs : List Nat) (w : World) (hx : Rd .u64 w A n vs) (hu : U64 vs) (hn : n * 8 ≤ 140737488355328) :
    Calls Try.prog 40 #[.int .i64 wd, .slice A n c] w (PackPost wd vs w) := by
  have hl := hx.len
  by_cases hw : wd < 0 ∨ 64 < wd
  · have HE := Lib.hid (packE_arg (vs := vs) hw)
    clear hl
    go_enter Try.func40, Try.ntmps40
    rcases hw with h | h
    · go_wp2
      go_ret2
      exact PackPost.err HE.out (by decide) (Ext.refl _)
    · by_cases h2 : wd < 0
      all_goals
        go_wp2
        go_ret2
        exact PackPost.err HE.out (by decide) (Ext.refl _)
  · have hw0 : 0 ≤ wd := by omega
    have hw1 : wd ≤ 64 := by omega
    have b1 : decide (wd < 0) = false := by simp; omega
    have b2 : decide (64 < wd) = false := by simp; omega
    by_cases hlong : 4096 < n
    · have HE := Lib.hid (packE_long (vs := vs) hw (by omega))
      clear hl hw
      go_enter Try.func40, Try.ntmps40
      go_wp2
      go_ret2
      exact PackPost.err HE.out (by decide) (Ext.refl _)
    · have b3 : decide (4096 < (n : Int)) = false := by simp; omega
      by_cases hbits : wd < (wdt vs : Int)
      · have HE := Lib.hid (packE_bits (vs := vs) hw (by omega) hbits)
        clear hl hw
        go_enter Try.func40, Try.ntmps40
        go_wp2_with (go_at_call 53; refine (refWidth_any _ _ _ vs _ hx hu (by omega)).mono ?_; rintro e w1 ⟨rfl, rfl⟩)
        go_ret2
        exact PackPost.err HE.out (by decide) (Ext.refl _)
      · have HE := Lib.hid (packE_ok (vs := vs) hw (by omega) hbits)
        have b4 : decide (wd < (wdt vs : Int)) = false := by simp; omega
        obtain ⟨wn, rfl⟩ := Int.eq_ofNat_of_zero_le hw0
        have b5 : decide (wn < wdt vs) = false := by simp; omega
        have hwd : Wd wn vs := wdt_le.1 (by omega)
        obtain ⟨S, hS⟩ : ∃ S, S = pk wn vs := ⟨_, rfl⟩
        have Hat := Lib.hid (fun i => pk_at hwd i)
        rw [← hS] at Hat
        have hend : packB wn vs = upk 8 ((wn * n + 7) / 8) (S % 2 ^ (wn * n)) := by
          unfold packB
          rw [hl, hS, Nat.mod_eq_of_lt (by have := pk_lt hwd; rwa [hl] at this)]
        have hmb : wn * n ≤ 64 * 4096 := Nat.mul_le_mul (by omega) (by omega)
        have Hl := Lib.hid hl
        have Hend := Lib.hid hend
        clear hl hwd hw hend hS
        go_enter Try.func40, Try.ntmps40
        go_wp2_with (go_at_call 53; refine (refWidth_any _ _ _ vs _ hx hu (by omega)).mono ?_; rintro e w1 ⟨rfl, rfl⟩)
        go_loopw [6, 7, 8, 9, 10] (fun v kk i _ _ wr => ∃ (j : Nat) (A' : Option Addr) (c' : Nat), j ≤ n ∧ i = .int .i64 j ∧ kk = .int .i64 (wn * j : Nat) ∧ v = .slice A' ((wn * j + 7) / 8 : Nat) c' ∧ Own .u8 5 wr w.heap.size A' c' (upk 8 ((wn * j + 7) / 8) (S % 2 ^ (wn * j))) ∧ Ext w wr) (fun _ _ i _ _ _ => n - (intOf i).toNat)
        case atStart => exact ⟨0, _, _, Nat.zero_le _, rfl, rfl, by rw [Nat.mul_zero], by rw [Nat.mul_zero]; exact Own.made _ _ w (Nat.le_refl _), (Ext.refl w).alloc _⟩
        case round =>
          obtain ⟨j, A', c', hj, rfl, rfl, rfl, hown, he⟩ := hrel
          by_cases hlt : j < n
          · obtain ⟨b, o, rfl, hb, hc⟩ := (hx.ext he).at_ hlt
            have hx64 := hu.at_ j
            have hxa := Hat.out j
            have hle1 : wn * j + wn ≤ wn * n := by
              have := Nat.mul_le_mul_left wn (show j + 1 ≤ n by omega)
              rw [Nat.mul_add, Nat.mul_one] at this
              exact this
            obtain ⟨x, hx'⟩ : ∃ x, x = vs.getD j 0 := ⟨_, rfl⟩
            rw [← hx'] at hc hx64 hxa
            have Hxa := Lib.hid hxa
            clear hx' hxa
            obtain ⟨K, hK⟩ : ∃ K, K = wn * j := ⟨_, rfl⟩
            rw [← hK] at Hxa hle1 hown ⊢
            have HK := Lib.hid hK
            clear hK
            go_wp2_with fail
            go_loopw [6, 7, 9, 10] (fun v kk y i wr => ∃ (t : Nat) (A' : Option Addr) (c' : Nat), t ≤ wn ∧ i = .int .i64 t ∧ kk = .int .i64 (K + t : Nat) ∧ y = .int .u64 (x / 2 ^ t : Nat) ∧ v = .slice A' ((K + t + 7) / 8 : Nat) c' ∧ Own .u8 5 wr w.heap.size A' c' (upk 8 ((K + t + 7) / 8) (S % 2 ^ (K + t))) ∧ Ext w wr) (fun _ _ _ i _ => wn - (intOf i).toNat)
            case atStart => exact ⟨0, _, _, Nat.zero_le _, rfl, rfl, by rw [Nat.pow_zero, Nat.div_one], rfl, hown, he⟩
            case round =>
              clear hown he
              obtain ⟨t, A', c', ht, rfl, rfl, rfl, rfl, hown, he⟩ := hrel
              by_cases hlt2 : t < wn
              · have hbs := bit_step (S := S) (k := K + t)
                have hnb := num_bit (j := t) Hxa.out hlt2
                have hxt : x / 2 ^ t < 18446744073709551616 := Nat.lt_of_le_of_lt (Nat.div_le_self _ _) hx64
                obtain ⟨y, hy⟩ : ∃ y, y = x / 2 ^ t := ⟨_, rfl⟩
                have hy2 : x / 2 ^ (t + 1) = y / 2 := by rw [hy, Nat.div_div_eq_div_mul, ← Nat.pow_succ]
                rw [← hy] at hnb hxt ⊢
                have Hy2 := Lib.hid hy2
                obtain ⟨k, hk⟩ : ∃ k, k = K + t := ⟨_, rfl⟩
                have hk1 : K + (t + 1) = k + 1 := by omega
                rw [← hk] at hbs hnb hown ⊢
                have hkb : k ≤ 262144 := by omega
                have Hk1 := Lib.hid hk1
                obtain ⟨h1, h2, h3, h4⟩ := hbs
                obtain ⟨x0, hx0⟩ : ∃ x0, x0 = S % 2 ^ k / 2 ^ (8 * (k / 8)) % 2 ^ 8 := ⟨_, rfl⟩
                rw [← hnb] at h2 h3
                clear hy hy2 hk hk1 hnb
                have hpw := pw_le (show k % 8 ≤ 7 by omega)
                have hmul : y % 2 * pw (k % 8) ≤ 128 := by
                  have := Nat.mul_le_mul (show y % 2 ≤ 1 by omega) (show pw (k % 8) ≤ 128 from hpw)
                  omega
                have hmc : ((y % 2 : Nat) : Int) * ((pw (k % 8) : Nat) : Int) = ((y % 2 * pw (k % 8) : Nat) : Int) := by norm_cast
                have f2 : ((k : Int) / 8).toNat = k / 8 := by omega
                have f3 : (0 : Int) ≤ (k : Int) / 8 := by omega
                have f6 : ((k : Int) % 8).toNat = k % 8 := by omega
                have hz := he.size
                by_cases hk0 : k % 8 = 0
                · have h4' := h4 hk0
                  have hk0' : (((k : Int) % 8) == 0) = true := by rw [beq_iff_eq]; omega
                  have f4 : (k : Int) / 8 < ((k : Int) + 7) / 8 + 1 := by omega
                  have f5 : IntKind.i64.wrap ((k : Int) / 8) = (k : Int) / 8 := IntWalk.i64_in _ (by omega)
                  have f7 : (k : Int).tmod 8 = (k : Int) % 8 := Int.tmod_eq_emod_of_nonneg (by omega)
                  have f8 : (y : Int).tmod 2 = (y : Int) % 2 := Int.tmod_eq_emod_of_nonneg (by omega)
                  have Hk0 := Lib.hid hk0
                  clear h4 hk0
                  go_wp2_with (at_builtin; refine wpList_push .u8 0 5 rfl _ _ 23 rfl _ 1 Try.underlying23 Try.infoU8 rfl hown ((k + 7) / 8) (upk_len ..) rfl rfl rfl (by omega) (by omega) he hz ?_; intro A1 c1 w1 hown1 hb1 hz1)
                  rw [h4'] at hown1
                  obtain ⟨b2, rfl, hbase, hblt, hcell, hfro, hset⟩ := hown1.at_ (show k / 8 < (upk 8 (k / 8 + 1) (S % 2 ^ k)).length by rw [upk_len]; omega)
                  rw [upk_at _ _ _ _ (show k / 8 < k / 8 + 1 by omega), ← hx0] at hcell
                  rw [← hx0] at h1 h2 h3
                  obtain ⟨hs1, hs2⟩ := hset (x0 + y % 2 * pw (k % 8))
                  rw [h3] at hs1
                  have Hs1 := Lib.hid hs1
                  have He := Lib.hid (Ext.setCell hb1 (p := ⟨b2, k / 8, none⟩) hbase (.int .u8 ((x0 + y % 2 * pw (k % 8) : Nat) : Int)))
                  have hval : IntKind.u8.wrap ((x0 : Int) + IntKind.u8.wrap (IntKind.u64.wrap (((y : Int) % 2) * (pw (k % 8) : Int)))) = ((x0 + y % 2 * pw (k % 8) : Nat) : Int) := by
                    rw [show (y : Int) % 2 = ((y % 2 : Nat) : Int) from by omega, hmc]
                    generalize y % 2 * pw (k % 8) = z at *
                    rw [IntWalk.u64_in (z : Int) (by omega), IntWalk.u8_in (z : Int) (by omega), IntWalk.u8_in _ (by omega)]
                    omega
                  have Hval := Lib.hid hval
                  have Hy := Lib.hid Hy2.out
                  clear hval hs1 hs2 hset h3 hx0 hmc hown he hown1 hb1
                  go_region_with (go_at_call 54; refine (power_any _ _ (by omega) (by omega)).mono ?_; rintro e w' ⟨rfl, rfl⟩)
                  all_goals
                    rw [Hval.out]
                    go_wp2
                    go_roundw
                    case rel => exact ⟨t + 1, _, _, by omega, by go_num, by rw [Hk1.out]; go_num, by rw [Hy.out]; go_num, by rw [Hk1.out, show (k + 1 + 7) / 8 = (k + 7) / 8 + 1 from by have := Hk0.out; omega], by rw [Hk1.out]; exact Hs1.out.ext ((Ext.refl _).drew), Ext.drew He.out⟩
                    case measure => simp [intOf]; omega
                · have hlen : (k + 7) / 8 = k / 8 + 1 := by omega
                  rw [hlen] at hown
                  rw [hlen]
                  have hb1 := he
                  have hk0' : (((k : Int) % 8) == 0) = false := by rw [beq_eq_false_iff_ne]; omega
                  have f4 : (k : Int) / 8 < (k : Int) / 8 + 1 := by omega
                  have f5 : IntKind.i64.wrap ((k : Int) / 8) = (k : Int) / 8 := IntWalk.i64_in _ (by omega)
                  have f7 : (k : Int).tmod 8 = (k : Int) % 8 := Int.tmod_eq_emod_of_nonneg (by omega)
                  have f8 : (y : Int).tmod 2 = (y : Int) % 2 := Int.tmod_eq_emod_of_nonneg (by omega)
                  have Hk0 := Lib.hid hk0
                  clear h4 hk0
                  have hown1 := hown
                  clear hown
                  go_wp2_with fail
                  obtain ⟨b2, rfl, hbase, hblt, hcell, hfro, hset⟩ := hown1.at_ (show k / 8 < (upk 8 (k / 8 + 1) (S % 2 ^ k)).length by rw [upk_len]; omega)
                  rw [upk_at _ _ _ _ (show k / 8 < k / 8 + 1 by omega), ← hx0] at hcell
                  rw [← hx0] at h1 h2 h3
                  obtain ⟨hs1, hs2⟩ := hset (x0 + y % 2 * pw (k % 8))
                  rw [h3] at hs1
                  have Hs1 := Lib.hid hs1
                  have He := Lib.hid (Ext.setCell hb1 (p := ⟨b2, k / 8, none⟩) hbase (.int .u8 ((x0 + y % 2 * pw (k % 8) : Nat) : Int)))
                  have hval : IntKind.u8.wrap ((x0 : Int) + IntKind.u8.wrap (IntKind.u64.wrap (((y : Int) % 2) * (pw (k % 8) : Int)))) = ((x0 + y % 2 * pw (k % 8) : Nat) : Int) := by
                    rw [show (y : Int) % 2 = ((y % 2 : Nat) : Int) from by omega, hmc]
                    generalize y % 2 * pw (k % 8) = z at *
                    rw [IntWalk.u64_in (z : Int) (by omega), IntWalk.u8_in (z : Int) (by omega), IntWalk.u8_in _ (by omega)]
                    omega
                  have Hval := Lib.hid hval
                  have Hy := Lib.hid Hy2.out
                  clear hval hs1 hs2 hset h3 hx0 hmc he hown1 hb1 hlen
                  go_region_with (go_at_call 54; refine (power_any _ _ (by omega) (by omega)).mono ?_; rintro e w' ⟨rfl, rfl⟩)
                  all_goals
                    rw [Hval.out]
                    go_wp2
                    go_roundw
                    case rel => exact ⟨t + 1, _, _, by omega, by go_num, by rw [Hk1.out]; go_num, by rw [Hy.out]; go_num, by rw [Hk1.out, show (k + 1 + 7) / 8 = k / 8 + 1 from by have := Hk0.out; omega], by rw [Hk1.out]; exact Hs1.out.ext ((Ext.refl _).drew), Ext.drew He.out⟩
                    case measure => simp [intOf]; omega
              · obtain rfl : t = wn := by omega
                have hKt : K + t = t * (j + 1) := by rw [HK.out, Nat.mul_succ]
                rw [hKt] at hown ⊢
                go_wp2
                go_roundw
                case rel => exact ⟨j + 1, _, _, by omega, by go_num, rfl, rfl, hown, he⟩
                case measure => simp [intOf]; omega
          · obtain rfl : j = n := by omega
            go_wp2
            go_ret2
            exact PackPost.ok HE.out (by rw [Hend.out, upk_len]) (by rw [Hend.out]; exact hown) he

end Go.Proofs.Ytgmjpilinhmjoaa
