import Derived.Test.YtoefhblojoaikaaB1p
namespace Go.Proofs.Ytoefhblojoaikaa
open Go.RowKit

/-- What Unpack answers: the error's number, and the numbers. -/
def unpE (N len : Nat) (wd cnt : Int) : Int :=
  if wd < 0 ∨ 64 < wd ∨ cnt < 0 ∨ 4096 < cnt then 1 else if 8 * (len : Int) < wd * cnt then 2 else if 8 ≤ 8 * (len : Int) - wd * cnt then 3 else if 2 ^ (wd * cnt).toNat ≤ N then 5 else 0
def unpL (N len : Nat) (wd cnt : Int) : List Nat := if unpE N len wd cnt = 0 then upk wd.toNat cnt.toNat N else []

theorem unp_err {N len : Nat} {wd cnt r : Int} (h : unpE N len wd cnt = r) (hr : r ≠ 0) : unpL N len wd cnt = [] := by unfold unpL; rw [h, if_neg hr]
theorem unp_ok {N len : Nat} {wd cnt : Int} (h : unpE N len wd cnt = 0) : unpL N len wd cnt = upk wd.toNat cnt.toNat N := by unfold unpL; rw [h, if_pos rfl]

/-- What a call of Unpack leaves: the numbers in new memory, and the error's number. -/
def UnpPost (N len : Nat) (wd cnt : Int) (w : World) (e : Ending) (w' : World) : Prop :=
  ∃ A' c', e = .returned (.tuple #[.slice A' (unpL N len wd cnt).length c', .int .i64 (unpE N len wd cnt)]) ∧ Own .u64 58 w' w.heap.size A' c' (unpL N len wd cnt) ∧ Ext w w'

theorem UnpPost.err {N len : Nat} {wd cnt r : Int} {w w' : World} (h : unpE N len wd cnt = r) (hr : r ≠ 0) (he : Ext w w') : UnpPost N len wd cnt w (.returned (.tuple #[.slice none 0 0, .int .i64 r])) w' := by
  refine ⟨none, 0, ?_, ?_, he⟩
  · rw [unp_err h hr, h]; rfl
  · rw [unp_err h hr]; exact Own.nil ..

theorem UnpPost.ok {N len m : Nat} {wd cnt : Int} {w w' : World} {A : Option Addr} {c : Nat} (h : unpE N len wd cnt = 0) (hm : cnt.toNat = m) (ho : Own .u64 58 w' w.heap.size A c (upk wd.toNat m N)) (he : Ext w w') :
    UnpPost N len wd cnt w (.returned (.tuple #[.slice A m c, .int .i64 0])) w' := by
  subst hm
  refine ⟨A, c, ?_, ?_, he⟩
  · rw [unp_ok h, h, upk_len]
  · rw [unp_ok h]; exact ho

theorem unpE_bad {N len : Nat} {wd cnt : Int} (h : wd < 0 ∨ 64 < wd ∨ cnt < 0 ∨ 4096 < cnt) : unpE N len wd cnt = 1 := if_pos h
theorem unpE_short {N len : Nat} {wd cnt : Int} (h : ¬ (wd < 0 ∨ 64 < wd ∨ cnt < 0 ∨ 4096 < cnt)) (h2 : 8 * (len : Int) < wd * cnt) : unpE N len wd cnt = 2 := by unfold unpE; rw [if_neg h, if_pos h2]
theorem unpE_trail {N len : Nat} {wd cnt : Int} (h : ¬ (wd < 0 ∨ 64 < wd ∨ cnt < 0 ∨ 4096 < cnt)) (h2 : ¬ 8 * (len : Int) < wd * cnt) (h3 : 8 ≤ 8 * (len : Int) - wd * cnt) : unpE N len wd cnt = 3 := by unfold unpE; rw [if_neg h, if_neg h2, if_pos h3]
theorem unpE_form {N len : Nat} {wd cnt : Int} (h : ¬ (wd < 0 ∨ 64 < wd ∨ cnt < 0 ∨ 4096 < cnt)) (h2 : ¬ 8 * (len : Int) < wd * cnt) (h3 : ¬ 8 ≤ 8 * (len : Int) - wd * cnt) (h4 : 2 ^ (wd * cnt).toNat ≤ N) : unpE N len wd cnt = 5 := by
  unfold unpE; rw [if_neg h, if_neg h2, if_neg h3, if_pos h4]
theorem unpE_ok {N len : Nat} {wd cnt : Int} (h : ¬ (wd < 0 ∨ 64 < wd ∨ cnt < 0 ∨ 4096 < cnt)) (h2 : ¬ 8 * (len : Int) < wd * cnt) (h3 : ¬ 8 ≤ 8 * (len : Int) - wd * cnt) (h4 : ¬ 2 ^ (wd * cnt).toNat ≤ N) : unpE N len wd cnt = 0 := by
  unfold unpE; rw [if_neg h, if_neg h2, if_neg h3, if_neg h4]

/-- No bit of N between a and k is set. -/
def clear_ (N a k : Nat) : Prop := N / 2 ^ a % 2 ^ (k - a) = 0
theorem clear_start (N a : Nat) : clear_ N a a := by simp [clear_, Nat.mod_one]
theorem clear_next {N a k : Nat} (h : a ≤ k) (hc : clear_ N a k) (hb : bitAt N k = 0) : clear_ N a (k + 1) := by
  unfold clear_ bitAt at *
  rw [show k + 1 - a = (k - a) + 1 from by omega, Nat.pow_succ, Nat.mod_mul, hc, Nat.div_div_eq_div_mul, ← Nat.pow_add, show a + (k - a) = k from by omega, hb]
  simp
theorem clear_end {N a k : Nat} (h : a ≤ k) (hc : clear_ N a k) (hN : N < 2 ^ k) : ¬ 2 ^ a ≤ N := by
  unfold clear_ at hc
  have h1 : 2 ^ k = 2 ^ a * 2 ^ (k - a) := by rw [← Nat.pow_add]; congr 1; omega
  have h2 : N / 2 ^ a < 2 ^ (k - a) := Nat.div_lt_of_lt_mul (by rw [← h1]; exact hN)
  rw [Nat.mod_eq_of_lt h2] at hc
  intro hle
  have := Nat.div_pos hle (Nat.two_pow_pos a)
  omega
theorem bit_set {N a k : Nat} (h : a ≤ k) (hb : ¬ bitAt N k = 0) : 2 ^ a ≤ N := by
  unfold bitAt at hb
  rcases Nat.lt_or_ge N (2 ^ a) with hlt | hge
  · have : N < 2 ^ k := Nat.lt_of_lt_of_le hlt (Nat.pow_le_pow_right (by omega) h)
    rw [Nat.div_eq_of_lt this] at hb
    exact absurd rfl hb
  · exact hge

theorem number_int (A : Option Addr) (n c : Nat) (a wd : Int) (bs : List Nat) (w : World) (hx : Rd .u8 w A n bs) (hu : U8 bs) (hn : n ≤ 281474976710656) (h0 : 0 ≤ a) (h1 : 0 ≤ wd) (hk : a + wd ≤ 8 * n) (hw : wd ≤ 64) :
    Calls Try.prog 75 #[.slice A n c, .int .i64 a, .int .i64 wd] w fun e w' => e = .returned (.int .u64 (dig (pk 8 bs) a.toNat wd.toNat)) ∧ ∃ q, w' = w.drewN q := by
  obtain ⟨a', rfl⟩ := Int.eq_ofNat_of_zero_le h0
  obtain ⟨wd', rfl⟩ := Int.eq_ofNat_of_zero_le h1
  exact number_any A n c a' wd' bs w hx hu hn (by omega) (by omega)

set_option maxHeartbeats 1600000 in
theorem refUnpack_any (A : Option Addr) (n c : Nat) (wd cnt : Int) (bs : List Nat) (w : World) (hx : Rd .u8 w A n bs) (hu : U8 bs) (hn : n ≤ 140737488355328) :
    Calls Try.prog 59 #[.slice A n c, .int .i64 wd, .int .i64 cnt] w (UnpPost (pk 8 bs) n wd cnt w) := by
  by_cases hbad : wd < 0 ∨ 64 < wd ∨ cnt < 0 ∨ 4096 < cnt
  · have HE := Lib.hid (unpE_bad (N := pk 8 bs) (len := n) hbad)
    go_enter Try.func59, Try.ntmps59
    go_wp2
    all_goals first | (go_ret2; exact UnpPost.err HE.out (by decide) (Ext.refl w)) | omega
  · have hb : 0 ≤ wd ∧ wd ≤ 64 ∧ 0 ≤ cnt ∧ cnt ≤ 4096 := by omega
    obtain ⟨hw0, hw1, hc0, hc1⟩ := hb
    have hm0 : 0 ≤ wd * cnt := Int.mul_nonneg hw0 hc0
    have hm1 : wd * cnt ≤ 64 * 4096 := Int.mul_le_mul hw1 hc1 hc0 (by omega)
    have Hbad := Lib.hid hbad
    have b1 : decide (wd < 0) = false := by simp; omega
    have b2 : decide (64 < wd) = false := by simp; omega
    have b3 : decide (cnt < 0) = false := by simp; omega
    have b4 : decide (4096 < cnt) = false := by simp; omega
    clear hbad
    by_cases hs : 8 * (n : Int) < wd * cnt
    · have HE := Lib.hid (unpE_short (N := pk 8 bs) Hbad.out hs)
      go_enter Try.func59, Try.ntmps59
      go_wp2
      go_ret2
      exact UnpPost.err HE.out (by decide) (Ext.refl w)
    · by_cases ht : 8 ≤ 8 * (n : Int) - wd * cnt
      · have HE := Lib.hid (unpE_trail (N := pk 8 bs) Hbad.out hs ht)
        go_enter Try.func59, Try.ntmps59
        go_wp2
        go_ret2
        exact UnpPost.err HE.out (by decide) (Ext.refl w)
      · have HF := Lib.hid (fun h4 => unpE_form (N := pk 8 bs) Hbad.out hs ht h4)
        have HK := Lib.hid (fun h4 => unpE_ok (N := pk 8 bs) Hbad.out hs ht h4)
        obtain ⟨a, ha⟩ : ∃ a : Nat, wd * cnt = (a : Int) := ⟨(wd * cnt).toNat, by omega⟩
        have hat : (wd * cnt).toNat = a := by rw [ha]; rfl
        have hN : pk 8 bs < 2 ^ (8 * n) := by rw [← hx.len]; exact pk_lt (U8_wd.1 hu)
        rw [hat] at HF HK
        have Ha := Lib.hid ha
        have HN := Lib.hid hN
        rw [ha] at hm0 hm1 hs ht
        clear hat hN
        go_enter Try.func59, Try.ntmps59
        go_wp2_with fail
        go_loopw [8] (fun i wr => ∃ k q : Nat, a ≤ k ∧ k ≤ 8 * n ∧ i = .int .i64 k ∧ wr = w.drewN q ∧ clear_ (pk 8 bs) a k) (fun i _ => 8 * n - (intOf i).toNat)
        case atStart => exact ⟨a, 0, Nat.le_refl _, by omega, rfl, rfl, clear_start _ _⟩
        case round =>
          obtain ⟨k, q, hak, hkn, rfl, rfl, hcl⟩ := hrel
          have Hcl := Lib.hid hcl
          clear hcl
          by_cases hlt : k < 8 * n
          · by_cases hbit : bitAt (pk 8 bs) k = 0
            · have Hn := Lib.hid (clear_next hak Hcl.out hbit)
              go_wp2_with fail
              refine (bit_any _ _ _ _ bs _ (hx.drewN q) hu (by omega) (by omega) (by omega)).mono ?_
              rintro e w1 ⟨rfl, q1, rfl⟩
              go_wp2
              go_roundw
              case rel => exact ⟨k + 1, _, by omega, by omega, by go_num, rfl, Hn.out⟩
              case measure => simp [intOf]; omega
            · have hne : ((bitAt (pk 8 bs) k : Int) != 0) = true := by rw [bne_iff_ne]; omega
              have HE := Lib.hid (HF.out (bit_set hak hbit))
              clear hbit
              go_wp2_with fail
              refine (bit_any _ _ _ _ bs _ (hx.drewN q) hu (by omega) (by omega) (by omega)).mono ?_
              rintro e w1 ⟨rfl, q1, rfl⟩
              go_wp2
              go_ret2
              exact UnpPost.err HE.out (by decide) ((Ext.refl w).drewN _)
          · have hk8 : 8 * n ≤ k := by omega
            have HE := Lib.hid (HK.out (clear_end hak Hcl.out (by rw [show k = 8 * n from by omega]; exact HN.out)))
            obtain ⟨m, hm⟩ : ∃ m : Nat, cnt = (m : Int) := ⟨cnt.toNat, by omega⟩
            obtain ⟨wn, hwn⟩ : ∃ wn : Nat, wd = (wn : Int) := ⟨wd.toNat, by omega⟩
            subst hm
            subst hwn
            go_wp2_with fail
            go_loopw [9, 10] (fun v i wr => ∃ (j : Nat) (A' : Option Addr) (c' : Nat), j ≤ m ∧ i = .int .i64 j ∧ v = .slice A' j c' ∧ Own .u64 58 wr w.heap.size A' c' (upk wn j (pk 8 bs)) ∧ Ext w wr) (fun _ i _ => m - (intOf i).toNat)
            case atStart => exact ⟨0, _, _, Nat.zero_le _, rfl, rfl, Own.made .u64 58 (w.drewN q) (Nat.le_refl _), ((Ext.refl w).drewN q).alloc _⟩
            case round =>
              obtain ⟨j, A', c', hj, rfl, rfl, hown, he⟩ := hrel
              have hz := he.size
              by_cases hlt : j < m
              · have hmul0 : (0 : Int) ≤ (j : Int) * (wn : Int) := Int.mul_nonneg (by omega) (by omega)
                have hmul1 : ((j : Int) + 1) * (wn : Int) ≤ (m : Int) * (wn : Int) := Int.mul_le_mul_of_nonneg_right (by omega) (by omega)
                rw [Int.add_mul, Int.one_mul, Int.mul_comm (m : Int), Ha.out] at hmul1
                have hmul2 : (j : Int) * (wn : Int) ≤ 9223372036854775807 := by omega
                have hmul3 : ((j : Int) * (wn : Int)).toNat = wn * j := by rw [← Int.natCast_mul, Nat.mul_comm]; rfl
                have htl := upk_len wn j (pk 8 bs)
                have hdl : dig (pk 8 bs) (wn * j) wn < 2 ^ 64 := Nat.lt_of_lt_of_le (dig_lt _ _ _) (Nat.pow_le_pow_right (by omega) (by omega))
                have Htl := Lib.hid htl
                have Hm3 := Lib.hid hmul3
                clear htl hmul3
                go_wp2_with fail
                refine (number_int _ _ _ _ _ bs _ (hx.ext he) hu (by omega) (by omega) (by omega) (by omega) (by omega)).mono ?_
                rintro e w1 ⟨rfl, q1, rfl⟩
                rw [Hm3.out, Int.toNat_natCast]
                have hown2 := hown.ext ((Ext.refl wr).drewN q1)
                have he2 := he.drewN q1
                have hz2 : w.heap.size ≤ (wr.drewN q1).heap.size := by simpa using hz
                generalize wr.drewN q1 = wr2 at *
                clear hown he hz
                go_wp2_with (at_builtin; refine wpList_push .u64 (dig (pk 8 bs) (wn * j) wn) 58 rfl _ _ 75 rfl _ 8 Try.underlying75 Try.infoU64 rfl hown2 j Htl.out rfl rfl rfl (by omega) (by omega) he2 hz2 ?_; intro A1 c1 w1 hown1 hb1 hz1)
                go_roundw
                case rel => exact ⟨j + 1, A1, c1, by omega, by go_num, rfl, by rw [upk_snoc]; exact hown1, hb1⟩
                case measure => simp [intOf]; omega
              · obtain rfl : j = m := by omega
                go_wp2
                go_ret2
                exact UnpPost.ok HE.out (Int.toNat_natCast _) hown he

end Go.Proofs.Ytoefhblojoaikaa
