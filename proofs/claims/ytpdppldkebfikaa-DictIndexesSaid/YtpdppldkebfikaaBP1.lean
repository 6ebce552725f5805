import Derived.Test.YtpdppldkebfikaaB0
import Derived.Test.YtpdppldkebfikaaA1P
import Derived.Test.YtpdppldkebfikaaA1U
import Derived.Test.YtpdppldkebfikaaBL

-- part B1p
namespace Go.Proofs.Ytpdppldkebfikaa
open Go.RowKit

/-- Bit k of a number; the w bits of N from place at on. -/
def bitAt (N k : Nat) : Nat := N / 2 ^ k % 2
def dig (N at_ w : Nat) : Nat := N / 2 ^ at_ % 2 ^ w
theorem bitAt_lt (N k : Nat) : bitAt N k < 2 := Nat.mod_lt _ (by omega)
theorem dig_zero (N a : Nat) : dig N a 0 = 0 := by simp [dig, Nat.mod_one]
theorem dig_lt (N a w : Nat) : dig N a w < 2 ^ w := Nat.mod_lt _ (Nat.two_pow_pos w)
/-- One more bit from below. -/
theorem dig_low (N a w : Nat) : dig N a (w + 1) = dig N (a + 1) w * 2 + bitAt N a := by
  unfold dig bitAt
  rw [Nat.pow_succ 2 w, Nat.mul_comm (2 ^ w) 2, Nat.mod_mul, Nat.pow_succ 2 a, ← Nat.div_div_eq_div_mul]
  omega

theorem bit_of_byte {bs : List Nat} (h : U8 bs) (k : Nat) : bs.getD (k / 8) 0 / pw (k % 8) % 2 = bitAt (pk 8 bs) k := by
  unfold bitAt pw
  rw [← pk_at (U8_wd.1 h) (k / 8)]
  have hk : 8 * (k / 8) + k % 8 = k := by omega
  have h2 : 2 ^ 8 = 2 ^ (k % 8) * 2 ^ (8 - k % 8) := by rw [← Nat.pow_add]; congr 1; omega
  rw [h2, Nat.mod_mul_right_div_self, Nat.div_div_eq_div_mul, ← Nat.pow_add, hk]
  have h3 : 2 ^ (8 - k % 8) = 2 * 2 ^ (7 - k % 8) := by rw [Nat.mul_comm, ← Nat.pow_succ]; congr 1; omega
  rw [h3, Nat.mod_mul_right_mod]


set_option maxHeartbeats 400000 in
theorem bit_nat (A : Option Addr) (n c : Nat) (k : Nat) (bs : List Nat) (w : World) (hx : Rd .u8 w A n bs) (hu : U8 bs) (hn : n ≤ 281474976710656) (hk : k < 8 * n) :
    Calls Try.prog 87 #[.slice A n c, .int .i64 k] w fun e w' => e = .returned (.int .u64 (bitAt (pk 8 bs) k)) ∧ ∃ q, w' = w.drewN q := by
  obtain ⟨b, o, rfl, hb, hc⟩ := hx.at_ (show k / 8 < n by omega)
  have hbit := bit_of_byte hu k
  have hlt := hu.at_ (k / 8)
  obtain ⟨x, hx'⟩ : ∃ x, x = bs.getD (k / 8) 0 := ⟨_, rfl⟩
  rw [← hx'] at hc hbit hlt
  have Hbit := Lib.hid hbit
  clear hbit hx'
  have h1 : (0 : Int) ≤ (k : Int) / 8 := by omega
  have h2 : (k : Int) / 8 < (n : Int) := by omega
  have h3 : (0 : Int) ≤ (k : Int) % 8 := by omega
  have hp := pw_pos (k % 8)
  have w1 : IntKind.i64.wrap ((k : Int) / 8) = (k : Int) / 8 := IntWalk.i64_in _ (by omega)
  have w2 : ((k : Int) / 8).toNat = k / 8 := by omega
  have w3 : (k : Int).tmod 8 = (k : Int) % 8 := Int.tmod_eq_emod_of_nonneg (by omega)
  have w4 : ((k : Int) % 8).toNat = k % 8 := by omega
  go_enter Try.func87, Try.ntmps87
  go_wp2_with fail
  go_quiet ((go_at_call 84; exact Calls.quiet_of_same (power_any _ _ (by omega) (by omega))))
  go_wp2
  go_ret
  have e1 : (IntKind.u64.wrap ((x : Int) / (pw (k % 8) : Int))).tmod 2 = (bitAt (pk 8 bs) k : Int) := by
    have e2 : x / pw (k % 8) ≤ x := Nat.div_le_self _ _
    rw [← Hbit.out, ← Int.natCast_ediv]
    generalize x / pw (k % 8) = Q at *
    rw [IntWalk.u64_in _ (by omega), Int.tmod_eq_emod_of_nonneg (by omega)]
    omega
  exact ⟨ret_int e1, _, rfl⟩

theorem bit_any (A : Option Addr) (n c : Nat) (k : Int) (bs : List Nat) (w : World) (hx : Rd .u8 w A n bs) (hu : U8 bs) (hn : n ≤ 281474976710656) (h0 : 0 ≤ k) (hk : k < 8 * n) :
    Calls Try.prog 87 #[.slice A n c, .int .i64 k] w fun e w' => e = .returned (.int .u64 (bitAt (pk 8 bs) k.toNat)) ∧ ∃ q, w' = w.drewN q := by
  obtain ⟨k', rfl⟩ := Int.eq_ofNat_of_zero_le h0
  exact bit_nat A n c k' bs w hx hu hn (by omega)

set_option maxHeartbeats 400000 in
theorem number_any (A : Option Addr) (n c : Nat) (a wd : Nat) (bs : List Nat) (w : World) (hx : Rd .u8 w A n bs) (hu : U8 bs) (hn : n ≤ 281474976710656) (hk : a + wd ≤ 8 * n) (hw : wd ≤ 64) :
    Calls Try.prog 88 #[.slice A n c, .int .i64 a, .int .i64 wd] w fun e w' => e = .returned (.int .u64 (dig (pk 8 bs) a wd)) ∧ ∃ q, w' = w.drewN q := by
  go_enter Try.func88, Try.ntmps88
  go_wp2
  go_loopw [7, 8] (fun v i wr => ∃ j q : Nat, j ≤ wd ∧ i = .int .i64 ((wd : Int) - 1 - (j : Int)) ∧ v = .int .u64 (dig (pk 8 bs) (a + (wd - j)) j) ∧ wr = w.drewN q) (fun _ i _ => (intOf i + 1).toNat)
  case atStart => exact ⟨0, 0, Nat.zero_le _, by go_num, by rw [dig_zero]; rfl, rfl⟩
  case round =>
    obtain ⟨j, q, hj, rfl, rfl, rfl⟩ := hrel
    by_cases hlt : j < wd
    · have h1 : (0 : Int) ≤ (wd : Int) - 1 - (j : Int) := by omega
      have hl := dig_lt (pk 8 bs) (a + (wd - j)) j
      have hp : 2 ^ (j + 1) ≤ 2 ^ 64 := Nat.pow_le_pow_right (by omega) (by omega)
      have hp1 : 2 ^ (j + 1) = 2 * 2 ^ j := by rw [Nat.pow_succ, Nat.mul_comm]
      have hb := bitAt_lt (pk 8 bs) (a + (wd - 1 - j))
      have hd := dig_low (pk 8 bs) (a + (wd - 1 - j)) j
      rw [show a + (wd - 1 - j) + 1 = a + (wd - j) from by omega] at hd
      have hs := dig_lt (pk 8 bs) (a + (wd - 1 - j)) (j + 1)
      have e1 : a + (wd - (j + 1)) = a + (wd - 1 - j) := by omega
      obtain ⟨d, hde⟩ : ∃ d, d = dig (pk 8 bs) (a + (wd - j)) j := ⟨_, rfl⟩
      rw [← hde] at hl hd ⊢
      rw [hd] at hs
      have hl2 : (d : Int) * 2 ≤ 18446744073709551615 := by omega
      have hs2 : d * 2 + bitAt (pk 8 bs) (a + (wd - 1 - j)) ≤ 18446744073709551615 := by omega
      have Hd := Lib.hid hd
      have E1 := Lib.hid e1
      clear hd hde e1 hp hp1 hs hl
      go_wp2_with (go_at_call 87; refine (bit_any _ _ _ _ bs _ (hx.drewN q) hu hn (by omega) (by omega)).mono ?_; rintro e w1 ⟨rfl, q1, rfl⟩)
      go_roundw
      case rel => exact ⟨j + 1, _, by omega, by go_num, by rw [E1.out, Hd.out]; go_num, rfl⟩
      case measure => simp [intOf]; omega
    · obtain rfl : j = wd := by omega
      go_wp2
      go_ret
      exact ⟨ret_int (by rw [show a + (j - j) = a from by omega]), q, rfl⟩

end Go.Proofs.Ytpdppldkebfikaa

-- part B2p
namespace Go.Proofs.Ytpdppldkebfikaa
open Go.RowKit

/-- What Unpack answers: the error's number, and the numbers. -/
def unpE (N len : Nat) (wd cnt : Int) : Int :=
  if wd < 0 ∨ 64 < wd ∨ cnt < 0 ∨ 4096 < cnt then 1 else if 8 * (len : Int) < wd * cnt then 2 else if 8 ≤ 8 * (len : Int) - wd * cnt then 3 else if 2 ^ (wd * cnt).toNat ≤ N then 5 else 0
def unpL (N len : Nat) (wd cnt : Int) : List Nat := if unpE N len wd cnt = 0 then upk wd.toNat cnt.toNat N else []

theorem unp_err {N len : Nat} {wd cnt r : Int} (h : unpE N len wd cnt = r) (hr : r ≠ 0) : unpL N len wd cnt = [] := by unfold unpL; rw [h, if_neg hr]
theorem unp_ok {N len : Nat} {wd cnt : Int} (h : unpE N len wd cnt = 0) : unpL N len wd cnt = upk wd.toNat cnt.toNat N := by unfold unpL; rw [h, if_pos rfl]

/-- What a call of Unpack leaves: the numbers in new memory, and the error's number. -/
def UnpPost (N len : Nat) (wd cnt : Int) (w : World) (e : Ending) (w' : World) : Prop :=
  ∃ A' c', e = .returned (.tuple #[.slice A' (unpL N len wd cnt).length c', .int .i64 (unpE N len wd cnt)]) ∧ Own .u64 71 w' w.heap.size A' c' (unpL N len wd cnt) ∧ Ext w w'

theorem UnpPost.err {N len : Nat} {wd cnt r : Int} {w w' : World} (h : unpE N len wd cnt = r) (hr : r ≠ 0) (he : Ext w w') : UnpPost N len wd cnt w (.returned (.tuple #[.slice none 0 0, .int .i64 r])) w' := by
  refine ⟨none, 0, ?_, ?_, he⟩
  · rw [unp_err h hr, h]; rfl
  · rw [unp_err h hr]; exact Own.nil ..

theorem UnpPost.ok {N len m : Nat} {wd cnt : Int} {w w' : World} {A : Option Addr} {c : Nat} (h : unpE N len wd cnt = 0) (hm : cnt.toNat = m) (ho : Own .u64 71 w' w.heap.size A c (upk wd.toNat m N)) (he : Ext w w') :
    UnpPost N len wd cnt w (.returned (.tuple #[.slice A m c, .int .i64 0])) w' := by
  subst hm
  refine ⟨A, c, ?_, ?_, he⟩
  · rw [unp_ok h, h, upk_len]
  · rw [unp_ok h]; exact ho

theorem unpE_bad {N len : Nat} {wd cnt : Int} (h : wd < 0 ∨ 64 < wd ∨ cnt < 0 ∨ 4096 < cnt) : unpE N len wd cnt = 1 := if_pos h
theorem unpE_short {N len : Nat} {wd cnt : Int} (h : ¬ (wd < 0 ∨ 64 < wd ∨ cnt < 0 ∨ 4096 < cnt)) (h2 : 8 * (len : Int) < wd * cnt) : unpE N len wd cnt = 2 := by unfold unpE; rw [if_neg h, if_pos h2]
theorem unpE_trail {N len : Nat} {wd cnt : Int} (h : ¬ (wd < 0 ∨ 64 < wd ∨ cnt < 0 ∨ 4096 < cnt)) (h2 : ¬ 8 * (len : Int) < wd * cnt) (h3 : 8 ≤ 8 * (len : Int) - wd * cnt) : unpE N len wd cnt = 3 := by unfold unpE; rw [if_neg h, if_neg h2, if_pos h3]
theorem unpE_form {N len : Nat} {wd cnt : Int} (h : ¬ (wd < 0 ∨ 64 < wd ∨ cnt < 0 ∨ 4096 < cnt)) (h2 : ¬ 8 * (len : Int) < wd * cnt) (h3 : ¬ 8 ≤ 8 * (len : Int) - wd * cnt) (h4 : 2 ^ (wd * cnt).toNat ≤ N) : unpE N len wd cnt = 5 := by
  unfold unpE; rw [if_neg h, if_neg h2, if_neg h3, if_pos h4]
theorem unpE_ok {N len : Nat} {wd cnt : Int} (h : ¬ (wd < 0 ∨ 64 < wd ∨ cnt < 0 ∨ 4096 < cnt)) (h2 : ¬ 8 * (len : Int) < wd * cnt) (h3 : ¬ 8 ≤ 8 * (len : Int) - wd * cnt) (h4 : ¬ 2 ^ (wd * cnt).toNat ≤ N) : unpE N len wd cnt = 0 := by
  unfold unpE; rw [if_neg h, if_neg h2, if_neg h3, if_neg h4]

/-- No bit of N between a and k is set. -/
def clear_ (N a k : Nat) : Prop := N / 2 ^ a % 2 ^ (k - a) = 0
theorem clear_start (N a : Nat) : clear_ N a a := by simp [clear_, Nat.mod_one]
theorem clear_next {N a k : Nat} (h : a ≤ k) (hc : clear_ N a k) (hb : bitAt N k = 0) : clear_ N a (k + 1) := by
  unfold clear_ bitAt at *
  rw [show k + 1 - a = (k - a) + 1 from by omega, Nat.pow_succ, Nat.mod_mul, hc, Nat.div_div_eq_div_mul, ← Nat.pow_add, show a + (k - a) = k from by omega, hb]
  simp
theorem clear_end {N a k : Nat} (h : a ≤ k) (hc : clear_ N a k) (hN : N < 2 ^ k) : ¬ 2 ^ a ≤ N := by
  unfold clear_ at hc
  have h1 : 2 ^ k = 2 ^ a * 2 ^ (k - a) := by rw [← Nat.pow_add]; congr 1; omega
  have h2 : N / 2 ^ a < 2 ^ (k - a) := Nat.div_lt_of_lt_mul (by rw [← h1]; exact hN)
  rw [Nat.mod_eq_of_lt h2] at hc
  intro hle
  have := Nat.div_pos hle (Nat.two_pow_pos a)
  omega
theorem bit_set {N a k : Nat} (h : a ≤ k) (hb : ¬ bitAt N k = 0) : 2 ^ a ≤ N := by
  unfold bitAt at hb
  rcases Nat.lt_or_ge N (2 ^ a) with hlt | hge
  · have : N < 2 ^ k := Nat.lt_of_lt_of_le hlt (Nat.pow_le_pow_right (by omega) h)
    rw [Nat.div_eq_of_lt this] at hb
    exact absurd rfl hb
  · exact hge

theorem number_int (A : Option Addr) (n c : Nat) (a wd : Int) (bs : List Nat) (w : World) (hx : Rd .u8 w A n bs) (hu : U8 bs) (hn : n ≤ 281474976710656) (h0 : 0 ≤ a) (h1 : 0 ≤ wd) (hk : a + wd ≤ 8 * n) (hw : wd ≤ 64) :
    Calls Try.prog 88 #[.slice A n c, .int .i64 a, .int .i64 wd] w fun e w' => e = .returned (.int .u64 (dig (pk 8 bs) a.toNat wd.toNat)) ∧ ∃ q, w' = w.drewN q := by
  obtain ⟨a', rfl⟩ := Int.eq_ofNat_of_zero_le h0
  obtain ⟨wd', rfl⟩ := Int.eq_ofNat_of_zero_le h1
  exact number_any A n c a' wd' bs w hx hu hn (by omega) (by omega)

set_option maxHeartbeats 1600000 in
theorem refUnpack_any (A : Option Addr) (n c : Nat) (wd cnt : Int) (bs : List Nat) (w : World) (hx : Rd .u8 w A n bs) (hu : U8 bs) (hn : n ≤ 140737488355328) :
    Calls Try.prog 60 #[.slice A n c, .int .i64 wd, .int .i64 cnt] w (UnpPost (pk 8 bs) n wd cnt w) := by
  by_cases hbad : wd < 0 ∨ 64 < wd ∨ cnt < 0 ∨ 4096 < cnt
  · have HE := Lib.hid (unpE_bad (N := pk 8 bs) (len := n) hbad)
    go_enter Try.func60, Try.ntmps60
    go_wp2
    all_goals first | (go_ret2; exact UnpPost.err HE.out (by decide) (Ext.refl w)) | omega
  · have hb : 0 ≤ wd ∧ wd ≤ 64 ∧ 0 ≤ cnt ∧ cnt ≤ 4096 := by omega
    obtain ⟨hw0, hw1, hc0, hc1⟩ := hb
    have hm0 : 0 ≤ wd * cnt := Int.mul_nonneg hw0 hc0
    have hm1 : wd * cnt ≤ 64 * 4096 := Int.mul_le_mul hw1 hc1 hc0 (by omega)
    have Hbad := Lib.hid hbad
    have b1 : decide (wd < 0) = false := by simp; omega
    have b2 : decide (64 < wd) = false := by simp; omega
    have b3 : decide (cnt < 0) = false := by simp; omega
    have b4 : decide (4096 < cnt) = false := by simp; omega
    clear hbad
    by_cases hs : 8 * (n : Int) < wd * cnt
    · have HE := Lib.hid (unpE_short (N := pk 8 bs) Hbad.out hs)
      go_enter Try.func60, Try.ntmps60
      go_wp2
      go_ret2
      exact UnpPost.err HE.out (by decide) (Ext.refl w)
    · by_cases ht : 8 ≤ 8 * (n : Int) - wd * cnt
      · have HE := Lib.hid (unpE_trail (N := pk 8 bs) Hbad.out hs ht)
        go_enter Try.func60, Try.ntmps60
        go_wp2
        go_ret2
        exact UnpPost.err HE.out (by decide) (Ext.refl w)
      · have HF := Lib.hid (fun h4 => unpE_form (N := pk 8 bs) Hbad.out hs ht h4)
        have HK := Lib.hid (fun h4 => unpE_ok (N := pk 8 bs) Hbad.out hs ht h4)
        obtain ⟨a, ha⟩ : ∃ a : Nat, wd * cnt = (a : Int) := ⟨(wd * cnt).toNat, by omega⟩
        have hat : (wd * cnt).toNat = a := by rw [ha]; rfl
        have hN : pk 8 bs < 2 ^ (8 * n) := by rw [← hx.len]; exact pk_lt (U8_wd.1 hu)
        rw [hat] at HF HK
        have Ha := Lib.hid ha
        have HN := Lib.hid hN
        rw [ha] at hm0 hm1 hs ht
        clear hat hN
        go_enter Try.func60, Try.ntmps60
        go_wp2_with fail
        go_loopw [8] (fun i wr => ∃ k q : Nat, a ≤ k ∧ k ≤ 8 * n ∧ i = .int .i64 k ∧ wr = w.drewN q ∧ clear_ (pk 8 bs) a k) (fun i _ => 8 * n - (intOf i).toNat)
        case atStart => exact ⟨a, 0, Nat.le_refl _, by omega, rfl, rfl, clear_start _ _⟩
        case round =>
          obtain ⟨k, q, hak, hkn, rfl, rfl, hcl⟩ := hrel
          have Hcl := Lib.hid hcl
          clear hcl
          by_cases hlt : k < 8 * n
          · by_cases hbit : bitAt (pk 8 bs) k = 0
            · have Hn := Lib.hid (clear_next hak Hcl.out hbit)
              go_wp2_with fail
              refine (bit_any _ _ _ _ bs _ (hx.drewN q) hu (by omega) (by omega) (by omega)).mono ?_
              rintro e w1 ⟨rfl, q1, rfl⟩
              go_wp2
              go_roundw
              case rel => exact ⟨k + 1, _, by omega, by omega, by go_num, rfl, Hn.out⟩
              case measure => simp [intOf]; omega
            · have hne : ((bitAt (pk 8 bs) k : Int) != 0) = true := by rw [bne_iff_ne]; omega
              have HE := Lib.hid (HF.out (bit_set hak hbit))
              clear hbit
              go_wp2_with fail
              refine (bit_any _ _ _ _ bs _ (hx.drewN q) hu (by omega) (by omega) (by omega)).mono ?_
              rintro e w1 ⟨rfl, q1, rfl⟩
              go_wp2
              go_ret2
              exact UnpPost.err HE.out (by decide) ((Ext.refl w).drewN _)
          · have hk8 : 8 * n ≤ k := by omega
            have HE := Lib.hid (HK.out (clear_end hak Hcl.out (by rw [show k = 8 * n from by omega]; exact HN.out)))
            obtain ⟨m, hm⟩ : ∃ m : Nat, cnt = (m : Int) := ⟨cnt.toNat, by omega⟩
            obtain ⟨wn, hwn⟩ : ∃ wn : Nat, wd = (wn : Int) := ⟨wd.toNat, by omega⟩
            subst hm
            subst hwn
            go_wp2_with fail
            go_loopw [9, 10] (fun v i wr => ∃ (j : Nat) (A' : Option Addr) (c' : Nat), j ≤ m ∧ i = .int .i64 j ∧ v = .slice A' j c' ∧ Own .u64 71 wr w.heap.size A' c' (upk wn j (pk 8 bs)) ∧ Ext w wr) (fun _ i _ => m - (intOf i).toNat)
            case atStart => exact ⟨0, _, _, Nat.zero_le _, rfl, rfl, Own.made .u64 71 (w.drewN q) (Nat.le_refl _), ((Ext.refl w).drewN q).alloc _⟩
            case round =>
              obtain ⟨j, A', c', hj, rfl, rfl, hown, he⟩ := hrel
              have hz := he.size
              by_cases hlt : j < m
              · have hmul0 : (0 : Int) ≤ (j : Int) * (wn : Int) := Int.mul_nonneg (by omega) (by omega)
                have hmul1 : ((j : Int) + 1) * (wn : Int) ≤ (m : Int) * (wn : Int) := Int.mul_le_mul_of_nonneg_right (by omega) (by omega)
                rw [Int.add_mul, Int.one_mul, Int.mul_comm (m : Int), Ha.out] at hmul1
                have hmul2 : (j : Int) * (wn : Int) ≤ 9223372036854775807 := by omega
                have hmul3 : ((j : Int) * (wn : Int)).toNat = wn * j := by rw [← Int.natCast_mul, Nat.mul_comm]; rfl
                have htl := upk_len wn j (pk 8 bs)
                have hdl : dig (pk 8 bs) (wn * j) wn < 2 ^ 64 := Nat.lt_of_lt_of_le (dig_lt _ _ _) (Nat.pow_le_pow_right (by omega) (by omega))
                have Htl := Lib.hid htl
                have Hm3 := Lib.hid hmul3
                clear htl hmul3
                go_wp2_with fail
                refine (number_int _ _ _ _ _ bs _ (hx.ext he) hu (by omega) (by omega) (by omega) (by omega) (by omega)).mono ?_
                rintro e w1 ⟨rfl, q1, rfl⟩
                rw [Hm3.out, Int.toNat_natCast]
                have hown2 := hown.ext ((Ext.refl wr).drewN q1)
                have he2 := he.drewN q1
                have hz2 : w.heap.size ≤ (wr.drewN q1).heap.size := by simpa using hz
                generalize wr.drewN q1 = wr2 at *
                clear hown he hz
                go_wp2_with (at_builtin; refine wpList_push .u64 (dig (pk 8 bs) (wn * j) wn) 71 rfl _ _ 66 rfl _ 8 Try.underlying66 Try.infoU64 rfl hown2 j Htl.out rfl rfl rfl (by omega) (by omega) he2 hz2 ?_; intro A1 c1 w1 hown1 hb1 hz1)
                go_roundw
                case rel => exact ⟨j + 1, A1, c1, by omega, by go_num, rfl, by rw [upk_snoc]; exact hown1, hb1⟩
                case measure => simp [intOf]; omega
              · obtain rfl : j = m := by omega
                go_wp2
                go_ret2
                exact UnpPost.ok HE.out (Int.toNat_natCast _) hown he

end Go.Proofs.Ytpdppldkebfikaa

-- part B3p
/-
  Width, the program's and the document's.
-/
namespace Go.Proofs.Ytpdppldkebfikaa
open Go.RowKit

set_option maxHeartbeats 400000 in
theorem width_any (A : Option Addr) (n c : Nat) (vs : List Nat) (w : World) (hx : Rd .u64 w A n vs) (hu : U64 vs) (hn : n ≤ 140737488355328) :
    Calls Try.prog 77 #[.slice A n c] w fun e w' => e = .returned (.int .i64 (wdt vs)) ∧ w = w' := by
  have hl := hx.len
  have Hl := Lib.hid hl
  clear hl
  go_enter Try.func77, Try.ntmps77
  go_wp2_with fail
  go_loop [3, 7] (fun v i => ∃ j : Nat, j ≤ n ∧ i = .int .i64 j ∧ v = .int .u64 (orAll (vs.take j))) (fun _ i => n - (intOf i).toNat)
  case atStart => exact ⟨0, Nat.zero_le _, rfl, rfl⟩
  case round =>
    obtain ⟨j, hj, rfl, rfl⟩ := hrel
    by_cases hlt : j < n
    · obtain ⟨b, o, rfl, hb, hc⟩ := hx.at_ hlt
      have h1 := orAll_lt (vs := vs.take j) (fun v hv => hu v (List.mem_of_mem_take hv))
      have h2 := hu.at_ j
      have Ht := Lib.hid (take_next vs j (by have := Hl.out; omega))
      obtain ⟨x, hx'⟩ : ∃ x, x = vs.getD j 0 := ⟨_, rfl⟩
      rw [← hx'] at hc h2 Ht
      have hor := u64_or_nat _ _ h1 h2
      clear hx'
      go_wp2
      go_round
      case rel => exact ⟨j + 1, by omega, by go_num, by rw [Ht.out, orAll_snoc]⟩
      case measure => simp [intOf]; omega
    · obtain rfl : j = n := by omega
      have h1 := orAll_lt hu
      rw [List.take_of_length_le (Nat.le_of_eq Hl.out)]
      go_wp2_with (go_at_call 93; refine (len64_any _ _ h1).mono ?_; rintro e w1 ⟨rfl, rfl⟩)
      go_ret
      exact ⟨by rw [← orAll_bl]; rfl, rfl⟩

set_option maxHeartbeats 400000 in
theorem refWidth_any (A : Option Addr) (n c : Nat) (vs : List Nat) (w : World) (hx : Rd .u64 w A n vs) (hu : U64 vs) (hn : n ≤ 140737488355328) :
    Calls Try.prog 83 #[.slice A n c] w fun e w' => e = .returned (.int .i64 (wdt vs)) ∧ w = w' := by
  have hl := hx.len
  have Hl := Lib.hid hl
  clear hl
  go_enter Try.func83, Try.ntmps83
  go_wp2_with fail
  go_loop [3, 4] (fun v i => ∃ j : Nat, j ≤ n ∧ i = .int .i64 j ∧ v = .int .i64 (wdt (vs.take j))) (fun _ i => n - (intOf i).toNat)
  case atStart => exact ⟨0, Nat.zero_le _, rfl, rfl⟩
  case round =>
    obtain ⟨j, hj, rfl, rfl⟩ := hrel
    by_cases hlt : j < n
    · obtain ⟨b, o, rfl, hb, hc⟩ := hx.at_ hlt
      have h2 := hu.at_ j
      have Ht := Lib.hid (take_next vs j (by have := Hl.out; omega))
      obtain ⟨x, hx'⟩ : ∃ x, x = vs.getD j 0 := ⟨_, rfl⟩
      rw [← hx'] at hc h2 Ht
      clear hx'
      go_wp2_with fail
      have h64 := bl_64 h2
      go_loop [5, 6] (fun m v => ∃ k y : Nat, m = .int .i64 k ∧ v = .int .u64 y ∧ Hid (bl x = bl y + k) ∧ k ≤ 64 ∧ y < 18446744073709551616) (fun m v => (intOf v).toNat)
      case atStart => exact ⟨0, x, rfl, rfl, rfl, by omega, h2⟩
      case round =>
        obtain ⟨k, y, rfl, rfl, Hk, hk64, hy⟩ := hrel
        by_cases hy0 : 0 < y
        · have Hb := Lib.hid (bl_half hy0)
          have hk2 : k + 1 ≤ 64 := by have := Hb.out; have := Hk.out; omega
          go_wp2
          go_round
          case rel => exact ⟨k + 1, y / 2, by go_num, by go_num, by have := Hb.out; have := Hk.out; show bl x = _; omega, hk2, by omega⟩
          case measure => simp [intOf]; omega
        · obtain rfl : y = 0 := by omega
          have hk3 : bl x = k := by have := Hk.out; rw [bl_zero] at this; omega
          have Hk3 := Lib.hid hk3
          clear hk3
          by_cases hg : wdt (vs.take j) < k
          · go_wp2
            go_round
            case rel => exact ⟨j + 1, by omega, by go_num, by rw [Ht.out, wdt_snoc, Hk3.out, Nat.max_eq_right (by omega)]⟩
            case measure => simp [intOf]; omega
          · go_wp2
            go_round
            case rel => exact ⟨j + 1, by omega, by go_num, by rw [Ht.out, wdt_snoc, Hk3.out, Nat.max_eq_left (by omega)]⟩
            case measure => simp [intOf]; omega
    · obtain rfl : j = n := by omega
      rw [List.take_of_length_le (Nat.le_of_eq Hl.out)]
      go_wp2
      go_ret
      exact ⟨rfl, rfl⟩

end Go.Proofs.Ytpdppldkebfikaa

-- part B4p
namespace Go.Proofs.Ytpdppldkebfikaa
open Go.RowKit

theorem dig_le64 (N a j : Nat) (h : j ≤ 64) : dig N a j < 18446744073709551616 := Nat.lt_of_lt_of_le (dig_lt _ _ _) (Nat.pow_le_pow_right (by omega) h)

/-- The bits of the byte in which bit k lies, from k on. -/
theorem byte_from (N k : Nat) : N / 2 ^ (8 * (k / 8)) % 2 ^ 8 / 2 ^ (k % 8) = N / 2 ^ k % 2 ^ (8 - k % 8) := by
  have h2 : 2 ^ 8 = 2 ^ (k % 8) * 2 ^ (8 - k % 8) := by rw [← Nat.pow_add]; congr 1; omega
  rw [h2, Nat.mod_mul_right_div_self, Nat.div_div_eq_div_mul, ← Nat.pow_add, show 8 * (k / 8) + k % 8 = k from by omega]

theorem dig_more (N a j m : Nat) : dig N a (j + m) = dig N a j + 2 ^ j * (N / 2 ^ (a + j) % 2 ^ m) := by
  unfold dig
  rw [Nat.pow_add, Nat.mod_mul, Nat.div_div_eq_div_mul, ← Nat.pow_add]

theorem shl_mod (y m j : Nat) (hj : j ≤ 64) : y % 2 ^ m * 2 ^ j % 18446744073709551616 = 2 ^ j * (y % 2 ^ (min (j + m) 64 - j)) := by
  have h1 : (18446744073709551616 : Nat) = 2 ^ (64 - j) * 2 ^ j := by rw [← Nat.pow_add, show 64 - j + j = 64 from by omega]
  rw [h1, Nat.mul_mod_mul_right, Nat.mul_comm]
  congr 1
  by_cases h : j + m ≤ 64
  · rw [Nat.min_eq_left h, show j + m - j = m from by omega, Nat.mod_eq_of_lt]
    exact Nat.lt_of_lt_of_le (Nat.mod_lt _ (Nat.two_pow_pos m)) (Nat.pow_le_pow_right (by omega) (by omega))
  · rw [Nat.min_eq_right (by omega)]
    exact Nat.mod_mod_of_dvd _ (Nat.pow_dvd_pow 2 (by omega))

theorem rd_step {N a j x : Nat} (hj : j < 64) (hx : x = N / 2 ^ (8 * ((a + j) / 8)) % 2 ^ 8) :
    bits .or .u64 (dig N a j : Int) (IntKind.u64.wrap (IntKind.u64.wrap ((x : Int) / 2 ^ ((a + j) % 8)) * 2 ^ j)) = (dig N a (min (j + (8 - (a + j) % 8)) 64) : Int) := by
  have hb := byte_from N (a + j)
  rw [← hx] at hb
  have e1 : ((x : Int) / 2 ^ ((a + j) % 8)) = ((x / 2 ^ ((a + j) % 8) : Nat) : Int) := by rw [Int.natCast_ediv]; norm_cast
  have hx8 : x < 256 := by rw [hx]; exact Nat.mod_lt _ (by omega)
  have hle : x / 2 ^ ((a + j) % 8) ≤ x := Nat.div_le_self _ _
  have e2 : IntKind.u64.wrap ((x / 2 ^ ((a + j) % 8) : Nat) : Int) = ((x / 2 ^ ((a + j) % 8) : Nat) : Int) := by
    generalize x / 2 ^ ((a + j) % 8) = y at *
    exact IntWalk.u64_in _ (by omega)
  have e3 : ((x / 2 ^ ((a + j) % 8) : Nat) : Int) * 2 ^ j = ((x / 2 ^ ((a + j) % 8) * 2 ^ j : Nat) : Int) := by norm_cast
  rw [e1, e2, e3, IntKind.wrap_u64, hb]
  have e4 : ∀ y : Nat, ((y : Int) % 18446744073709551616) = ((y % 18446744073709551616 : Nat) : Int) := fun y => by omega
  rw [e4, shl_mod _ _ _ (by omega)]
  have hm : min (j + (8 - (a + j) % 8)) 64 = j + (min (j + (8 - (a + j) % 8)) 64 - j) := by omega
  have hd := dig_more N a j (min (j + (8 - (a + j) % 8)) 64 - j)
  rw [← hm] at hd
  have h1 := dig_le64 N a j (by omega)
  have h2 := dig_le64 N a (min (j + (8 - (a + j) % 8)) 64) (by omega)
  have h3 := dig_lt N a j
  rw [hd] at h2 ⊢
  rw [u64_or_nat _ _ h1 (by omega), Nat.or_comm, nat_join j _ _ (Nat.mul_mod_right _ _) h3, Nat.add_comm]

theorem mask_eq (wd : Nat) (h : wd ≤ 64) : IntKind.u64.wrap (IntKind.u64.wrap ((2 : Int) ^ wd) - 1) = ((2 ^ wd - 1 : Nat) : Int) := by
  have e : ((2 : Int) ^ wd) = ((2 ^ wd : Nat) : Int) := by norm_cast
  rw [e]
  by_cases h64 : wd = 64
  · subst h64; decide
  · have h1 : 2 ^ wd ≤ 2 ^ 63 := Nat.pow_le_pow_right (by omega) (by omega)
    have h2 := Nat.two_pow_pos wd
    generalize 2 ^ wd = y at *
    rw [IntWalk.u64_in (y : Int) (by omega), IntWalk.u64_in _ (by omega)]
    omega

theorem mask_dig {N a j wd : Nat} (h : wd ≤ j) (hw : wd ≤ 64) : bits .and .u64 (dig N a (min j 64) : Int) (IntKind.u64.wrap (IntKind.u64.wrap ((2 : Int) ^ wd) - 1)) = (dig N a wd : Int) := by
  have h1 : 2 ^ wd ≤ 2 ^ 64 := Nat.pow_le_pow_right (by omega) hw
  have h2 := Nat.two_pow_pos wd
  rw [mask_eq wd hw, u64_and_nat _ _ (dig_le64 N a _ (by omega)) (by omega), Nat.and_two_pow_sub_one_eq_mod]
  unfold dig
  rw [Nat.mod_mod_of_dvd _ (Nat.pow_dvd_pow 2 (by omega))]

set_option maxHeartbeats 800000 in
theorem read_any (A : Option Addr) (n c : Nat) (a wd : Nat) (bs : List Nat) (w : World) (hx : Rd .u8 w A n bs) (hu : U8 bs) (hn : n ≤ 140737488355328) (hw : wd ≤ 64) (hk : a + wd ≤ 8 * n) :
    Calls Try.prog 86 #[.slice A n c, .int .u64 a, .int .i64 wd] w fun e w' => e = .returned (.int .u64 (dig (pk 8 bs) a wd)) ∧ w = w' := by
  go_enter Try.func86, Try.ntmps86
  go_wp2_with fail
  go_loop [7, 8, 9] (fun v i _ => ∃ j : Nat, j ≤ wd + 7 ∧ i = .int .i64 j ∧ v = .int .u64 (dig (pk 8 bs) a (min j 64))) (fun _ i _ => wd + 7 - (intOf i).toNat)
  case atStart => exact ⟨0, by omega, rfl, by rw [Nat.zero_min, dig_zero]; rfl⟩
  case round =>
    obtain ⟨j, hj, rfl, rfl⟩ := hrel
    by_cases hlt : j < wd
    · obtain ⟨b, o, rfl, hb, hc⟩ := hx.at_ (show (a + j) / 8 < n by omega)
      have h2 := hu.at_ ((a + j) / 8)
      have hp := pk_at (U8_wd.1 hu) ((a + j) / 8)
      have hd0 := dig_le64 (pk 8 bs) a j (by omega)
      rw [← hp] at hc h2
      obtain ⟨x, hx'⟩ : ∃ x, x = pk 8 bs / 2 ^ (8 * ((a + j) / 8)) % 2 ^ 8 := ⟨_, rfl⟩
      rw [← hx'] at hc h2
      have Hs := Lib.hid (rd_step (show j < 64 by omega) hx')
      rw [Nat.min_eq_left (show j ≤ 64 by omega)]
      obtain ⟨v, hv⟩ : ∃ v, v = dig (pk 8 bs) a j := ⟨_, rfl⟩
      rw [← hv] at hd0 ⊢ Hs
      clear hv hx' hp
      go_wp2
      go_round
      case rel => exact ⟨j + (8 - (a + j) % 8), by omega, by go_num, by rw [Hs.out]⟩
      case measure => simp [intOf]; omega
    · have Hm := Lib.hid (mask_dig (N := pk 8 bs) (a := a) (show wd ≤ j by omega) hw)
      go_wp2
      go_ret
      exact ⟨ret_int Hm.out, rfl⟩

end Go.Proofs.Ytpdppldkebfikaa

-- part B5p
namespace Go.Proofs.Ytpdppldkebfikaa
open Go.RowKit

theorem isWidth_yes (wd : Int) (w : World) (h0 : 0 ≤ wd) (h1 : wd ≤ 64) :
    Calls Try.prog 76 #[.int .i64 wd] w fun e w' => e = .returned (.bool true) ∧ w = w' := by
  go_enter Try.func76, Try.ntmps76
  go_wp2
  go_ret
  exact ⟨rfl, rfl⟩

theorem isWidth_no (wd : Int) (w : World) (h : wd < 0 ∨ 64 < wd) :
    Calls Try.prog 76 #[.int .i64 wd] w fun e w' => e = .returned (.bool false) ∧ w = w' := by
  rcases h with h | h
  · go_enter Try.func76, Try.ntmps76
    go_wp2
    go_ret
    exact ⟨rfl, rfl⟩
  · have h2 : decide (wd ≤ 64) = false := by simp; omega
    by_cases h0 : 0 ≤ wd
    all_goals
      go_enter Try.func76, Try.ntmps76
      go_wp2
      go_ret
      exact ⟨rfl, rfl⟩

theorem place_any (wd i : Int) (w : World) (h0 : 0 ≤ wd) (h1 : wd ≤ 64) (h2 : 0 ≤ i) (h3 : i ≤ 9223372036854775807) (h4 : 0 ≤ wd * i) (h5 : wd * i ≤ 18446744073709551615) :
    Calls Try.prog 80 #[.int .i64 wd, .int .i64 i] w fun e w' => e = .returned (.int .u64 (wd * i)) ∧ w = w' := by
  go_enter Try.func80, Try.ntmps80
  go_wp2
  go_ret
  exact ⟨rfl, rfl⟩

theorem bytesFor_any (wd i : Int) (w : World) (h0 : 0 ≤ wd) (h1 : wd ≤ 64) (h2 : 0 ≤ i) (h3 : i ≤ 9223372036854775807) (h4 : 0 ≤ wd * i) (h5 : wd * i ≤ 9223372036854775807) :
    Calls Try.prog 78 #[.int .i64 wd, .int .i64 i] w fun e w' => e = .returned (.int .i64 ((wd * i + 7) / 8)) ∧ w = w' := by
  go_enter Try.func78, Try.ntmps78
  go_wp2_with (go_at_call 80; refine (place_any _ _ _ h0 h1 h2 h3 h4 (by omega)).mono ?_; rintro e w1 ⟨rfl, rfl⟩)
  go_ret
  exact ⟨rfl, rfl⟩

end Go.Proofs.Ytpdppldkebfikaa
