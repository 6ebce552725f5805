import Derived.Test.YtgmjpilinhmjoaaV1s
namespace Go.Proofs.Ytgmjpilinhmjoaa
open Go.RowKit

/-- Reading a number byte by byte: i bytes are read, u is their number; the rest is l. What comes out: the number, how many bytes, the error's number. -/
def vgetF : Nat → Nat → List Nat → Nat × Nat × Nat
  | _, _, [] => (0, 0, 2)
  | i, u, c :: r => if i = 9 ∧ 1 < c then (0, 0, 20) else if c < 128 then (if c = 0 ∧ 0 < i then (0, 0, 5) else (u + c % 128 * 2 ^ (7 * i), i + 1, 0)) else vgetF (i + 1) (u + c % 128 * 2 ^ (7 * i)) r

/-- What Get answers: the number, the place behind it, the error's number. -/
def vget (bs : List Nat) (at_ : Int) : Nat × Int × Int :=
  if at_ < 0 ∨ (bs.length : Int) < at_ then (0, 0, 1) else
    if (vgetF 0 0 (bs.drop at_.toNat)).2.2 = 0 then ((vgetF 0 0 (bs.drop at_.toNat)).1, at_ + ((vgetF 0 0 (bs.drop at_.toNat)).2.1 : Int), 0) else (0, 0, ((vgetF 0 0 (bs.drop at_.toNat)).2.2 : Int))

theorem vgetF_nil (i u : Nat) : vgetF i u [] = (0, 0, 2) := by cases i <;> rfl
theorem vgetF_wide {i u c : Nat} {r : List Nat} (h : i = 9) (h2 : 1 < c) : vgetF i u (c :: r) = (0, 0, 20) := by rw [vgetF, if_pos ⟨h, h2⟩]
theorem vgetF_form {i u c : Nat} {r : List Nat} (h1 : ¬ (i = 9 ∧ 1 < c)) (h2 : c = 0) (h3 : 0 < i) : vgetF i u (c :: r) = (0, 0, 5) := by rw [vgetF, if_neg h1, if_pos (by omega), if_pos ⟨h2, h3⟩]
theorem vgetF_end {i u c : Nat} {r : List Nat} (h1 : ¬ (i = 9 ∧ 1 < c)) (h2 : c < 128) (h3 : ¬ (c = 0 ∧ 0 < i)) : vgetF i u (c :: r) = (u + c % 128 * 2 ^ (7 * i), i + 1, 0) := by rw [vgetF, if_neg h1, if_pos h2, if_neg h3]
theorem vgetF_more {i u c : Nat} {r : List Nat} (h1 : ¬ (i = 9 ∧ 1 < c)) (h2 : ¬ c < 128) : vgetF i u (c :: r) = vgetF (i + 1) (u + c % 128 * 2 ^ (7 * i)) r := by rw [vgetF, if_neg h1, if_neg h2]

/-- While i bytes are read the number is below 2^(7i); the tenth byte is 0 or 1. -/
theorem vget_bound {i u c : Nat} (hi : i ≤ 9) (hu : u < 2 ^ (7 * i)) (h1 : ¬ (i = 9 ∧ 1 < c)) : u + c % 128 * 2 ^ (7 * i) < 18446744073709551616 ∧ (i < 9 → u + c % 128 * 2 ^ (7 * i) < 2 ^ (7 * (i + 1))) := by
  have hstep : 2 ^ (7 * (i + 1)) = 128 * 2 ^ (7 * i) := by rw [show 7 * (i + 1) = 7 + 7 * i from by omega, Nat.pow_add]
  have hle : (c % 128 + 1) * 2 ^ (7 * i) ≤ 128 * 2 ^ (7 * i) := Nat.mul_le_mul_right _ (by omega)
  rw [Nat.add_mul, Nat.one_mul] at hle
  by_cases h9 : i = 9
  · subst h9
    have hc : c % 128 ≤ 1 := by omega
    have := Nat.mul_le_mul_right (2 ^ (7 * 9)) hc
    have e : (2 : Nat) ^ (7 * 9) = 9223372036854775808 := by decide
    rw [e] at *
    omega
  · have hp : 2 ^ (7 * (i + 1)) ≤ 2 ^ (7 * 9) := Nat.pow_le_pow_right (by omega) (by omega)
    have e : (2 : Nat) ^ (7 * 9) = 9223372036854775808 := by decide
    rw [e] at hp
    omega

theorem vget_arg {bs : List Nat} {at_ : Int} (h : at_ < 0 ∨ (bs.length : Int) < at_) : vget bs at_ = (0, 0, 1) := if_pos h
theorem vget_err {bs : List Nat} {a k : Nat} (h : a ≤ bs.length) (he : vgetF 0 0 (bs.drop a) = (0, 0, k)) (hk : k ≠ 0) : vget bs (a : Int) = (0, 0, (k : Int)) := by
  unfold vget
  rw [if_neg (by omega), Int.toNat_natCast, he, if_neg hk]
theorem vget_ok {bs : List Nat} {a u k : Nat} (h : a ≤ bs.length) (he : vgetF 0 0 (bs.drop a) = (u, k, 0)) : vget bs (a : Int) = (u, (a : Int) + (k : Int), 0) := by
  unfold vget
  rw [if_neg (by omega), Int.toNat_natCast, he, if_pos rfl]

theorem drop_cons {bs : List Nat} {k : Nat} (h : k < bs.length) : bs.drop k = bs.getD k 0 :: bs.drop (k + 1) := by rw [List.drop_eq_getElem_cons h]; simp [List.getD, h]

/-- What Get leaves. -/
def GetPost (bs : List Nat) (at_ : Int) (w : World) (e : Ending) (w' : World) : Prop :=
  e = .returned (.tuple #[.int .u64 (vget bs at_).1, .int .i64 (vget bs at_).2.1, .int .i64 (vget bs at_).2.2]) ∧ w = w'

theorem GetPost.of {bs : List Nat} {at_ : Int} {w : World} {u : Nat} {n e : Int} {U N E : Int} (h : vget bs at_ = (u, n, e)) (hu : U = u) (hn : N = n) (he : E = e) : GetPost bs at_ w (.returned (.tuple #[.int .u64 U, .int .i64 N, .int .i64 E])) w := by
  subst hu; subst hn; subst he
  exact ⟨by rw [h], rfl⟩

set_option maxHeartbeats 1600000 in
set_option maxRecDepth 100000 in
theorem refGet_any (A : Option Addr) (n c : Nat) (at_ : Int) (bs : List Nat) (w : World) (hx : Rd .u8 w A n bs) (hu : U8 bs) (hn : n ≤ 140737488355328) :
    Calls Try.prog 47 #[.slice A n c, .int .i64 at_] w (GetPost bs at_ w) := by
  have hl := hx.len
  by_cases hbad : at_ < 0 ∨ (n : Int) < at_
  · have HE := Lib.hid (vget_arg (bs := bs) (at_ := at_) (by rw [hl]; exact hbad))
    clear hl
    by_cases h0 : at_ < 0
    · clear hbad
      go_enter Try.func47, Try.ntmps47
      go_wp2
      go_ret3
      exact GetPost.of HE.out rfl rfl rfl
    · have h1 : (n : Int) < at_ := by omega
      clear hbad
      go_enter Try.func47, Try.ntmps47
      go_wp2
      go_ret3
      exact GetPost.of HE.out rfl rfl rfl
  · obtain ⟨a, rfl⟩ := Int.eq_ofNat_of_zero_le (show 0 ≤ at_ by omega)
    have han : a ≤ n := by omega
    obtain ⟨R, hR⟩ : ∃ R, R = vgetF 0 0 (bs.drop a) := ⟨_, rfl⟩
    have HR := Lib.hid hR
    have Hl := Lib.hid hl
    clear hR hl hbad
    go_enter Try.func47, Try.ntmps47
    go_wp2_with fail
    go_loopw [7, 8, 9, 10] (fun v wo i _ wr => ∃ (j u : Nat), j ≤ 9 ∧ a + j ≤ n ∧ i = .int .i64 (a + j : Nat) ∧ v = .int .u64 u ∧ wo = .int .u64 (pw (7 * j)) ∧ u < pw (7 * j) ∧ Hid (R = vgetF j u (bs.drop (a + j))) ∧ wr = w) (fun _ _ i _ _ => n - (intOf i).toNat)
    case atStart => exact ⟨0, 0, by omega, by omega, rfl, rfl, rfl, by decide, HR.out, rfl⟩
    case round =>
      obtain ⟨j, u, hj, haj, rfl, rfl, rfl, huj, Hj, rfl⟩ := hrel
      by_cases hlt : a + j < n
      · obtain ⟨b, o, rfl, hb, hc⟩ := hx.at_ hlt
        have hcu := hu.at_ (a + j)
        have hd := drop_cons (bs := bs) (k := a + j) (by have := Hl.out; omega)
        obtain ⟨x, hx'⟩ : ∃ x, x = bs.getD (a + j) 0 := ⟨_, rfl⟩
        rw [← hx'] at hc hcu hd
        have Hd := Lib.hid hd
        clear hx' hd
        have hji : (a : Int) + (j : Int) - (a : Int) = (j : Int) := by omega
        by_cases h9 : j = 9 ∧ 1 < x
        · have HE := Lib.hid (vget_err (bs := bs) (a := a) (k := 20) (by have := Hl.out; omega) (by rw [← HR.out, Hj.out, Hd.out, vgetF_wide h9.1 h9.2]) (by decide))
          obtain ⟨rfl, h1x⟩ := h9
          go_wp2
          go_ret3
          exact GetPost.of HE.out rfl rfl rfl
        · obtain ⟨hb1, hb2⟩ := vget_bound hj huj h9
          have hm0 : (0 : Int) ≤ (x : Int) % 128 * (pw (7 * j) : Int) := Int.mul_nonneg (by omega) (by omega)
          have hmc : (x : Int) % 128 * (pw (7 * j) : Int) = ((x % 128 * 2 ^ (7 * j) : Nat) : Int) := by rw [Int.natCast_mul]; rfl
          have hm1 : (x : Int) % 128 * (pw (7 * j) : Int) ≤ 18446744073709551615 := by omega
          have hm2 : (u : Int) + (x : Int) % 128 * (pw (7 * j) : Int) ≤ 18446744073709551615 := by omega
          have hsum : (u : Int) + (x : Int) % 128 * (pw (7 * j) : Int) = ((u + x % 128 * 2 ^ (7 * j) : Nat) : Int) := by omega
          have Hsum := Lib.hid hsum
          have h9' : (((j : Nat) : Int) == 9) = true → ¬ (1 : Int) < (x : Int) := by intro h; have := beq_iff_eq.1 h; omega
          have key : (((j : Int) == 9) = false) ∨ (((j : Int) == 9) = true ∧ (x : Int) ≤ 1) := by
            by_cases h : j = 9
            · exact .inr ⟨by rw [beq_iff_eq]; omega, by omega⟩
            · exact .inl (by rw [beq_eq_false_iff_ne]; omega)
          have Hb2 := Lib.hid hb2
          have Huj := Lib.hid huj
          clear hmc hsum h9' hb1 hb2 huj
          by_cases hc128 : x < 128
          · by_cases hz : x = 0 ∧ 0 < j
            · have HE := Lib.hid (vget_err (bs := bs) (a := a) (k := 5) (by have := Hl.out; omega) (by rw [← HR.out, Hj.out, Hd.out, vgetF_form h9 hz.1 hz.2]) (by decide))
              obtain ⟨rfl, hjp⟩ := hz
              have hz0 : (((0 : Nat) : Int) == 0) = true := rfl
              clear h9
              rcases key with k1 | ⟨k1, k2⟩
              all_goals
                go_wp2
                go_ret3
                exact GetPost.of HE.out rfl rfl rfl
            · have HE := Lib.hid (vget_ok (bs := bs) (a := a) (by have := Hl.out; omega) (by rw [← HR.out, Hj.out, Hd.out, vgetF_end h9 hc128 hz]))
              have hzz : (((x : Int) == 0) = false) ∨ (((x : Int) == 0) = true ∧ j ≤ 0) := by
                by_cases h : x = 0
                · exact .inr ⟨by rw [beq_iff_eq]; omega, by omega⟩
                · exact .inl (by rw [beq_eq_false_iff_ne]; omega)
              clear h9 hz
              rcases hzz with z1 | ⟨z1, z2⟩
              all_goals rcases key with k1 | ⟨k1, k2⟩
              all_goals
                go_wp2
                go_ret3
                exact GetPost.of HE.out Hsum.out (by omega) rfl
          · have hj9 : j < 9 := by omega
            have hpw : pw (7 * (j + 1)) = pw (7 * j) * 128 := by
              unfold pw
              rw [show 7 * (j + 1) = 7 * j + 7 from by omega, Nat.pow_add]
            have hple : pw (7 * (j + 1)) ≤ 9223372036854775808 := by rw [← pw_63]; exact pw_le (by omega)
            have hN := Lib.hid (show R = vgetF (j + 1) (u + x % 128 * 2 ^ (7 * j)) (bs.drop (a + (j + 1))) by rw [Hj.out, Hd.out, vgetF_more h9 hc128]; rfl)
            have Hup := Lib.hid (Hb2.out hj9)
            rw [hpw] at hple
            have Hpw := Lib.hid hpw
            have hjf : ((j : Int) == 9) = false := by rw [beq_eq_false_iff_ne]; omega
            clear h9 key hpw
            go_wp2
            go_roundw
            case rel => exact ⟨j + 1, u + x % 128 * 2 ^ (7 * j), by omega, by omega, by go_num, by rw [Hsum.out], by rw [Hpw.out]; go_num, Hup.out, hN.out, trivial⟩
            case measure => simp [intOf]; omega
      · have HE := Lib.hid (vget_err (bs := bs) (a := a) (k := 2) (by have := Hl.out; omega) (by rw [← HR.out, Hj.out, List.drop_of_length_le (by have := Hl.out; omega), vgetF_nil]) (by decide))
        go_wp2
        go_ret3
        exact GetPost.of HE.out rfl rfl rfl

theorem andnot_bits {x : Nat} (h : x < 256) : bits .andNot .u8 (x : Int) 128 = (x : Int) % 128 := by
  rw [show (128 : Int) = ((128 : Nat) : Int) from rfl, u8_andNot_nat _ _ h (by omega), show 255 - 128 = 2 ^ 7 - 1 from rfl, Nat.and_two_pow_sub_one_eq_mod]
  omega

theorem get_or {u x j U : Nat} (hu : u < 2 ^ (7 * j)) (hU : U = u + x % 128 * 2 ^ (7 * j)) (hb : U < 18446744073709551616) :
    bits .or .u64 (u : Int) (IntKind.u64.wrap ((x : Int) % 128 * 2 ^ (7 * j))) = (U : Int) := by
  have e1 : (x : Int) % 128 * 2 ^ (7 * j) = ((x % 128 * 2 ^ (7 * j) : Nat) : Int) := by norm_cast
  have hm : x % 128 * 2 ^ (7 * j) % 2 ^ (7 * j) = 0 := Nat.mul_mod_left _ _
  rw [e1]
  generalize x % 128 * 2 ^ (7 * j) = y at *
  have hu64 : u < 18446744073709551616 := by omega
  rw [IntWalk.u64_in _ (by omega), u64_or_nat _ _ hu64 (by omega), Nat.or_comm, nat_join (7 * j) _ _ hm hu, hU, Nat.add_comm]

set_option maxHeartbeats 1600000 in
set_option maxRecDepth 100000 in
theorem get_any (A : Option Addr) (n c : Nat) (at_ : Int) (bs : List Nat) (w : World) (hx : Rd .u8 w A n bs) (hu : U8 bs) (hn : n ≤ 140737488355328) (hcap : n ≤ c) (hcm : c ≤ 9223372036854775807) :
    Calls Try.prog 43 #[.slice A n c, .int .i64 at_] w (GetPost bs at_ w) := by
  have hl := hx.len
  by_cases hbad : at_ < 0 ∨ (n : Int) < at_
  · have HE := Lib.hid (vget_arg (bs := bs) (at_ := at_) (by rw [hl]; exact hbad))
    clear hl
    by_cases h0 : at_ < 0
    · clear hbad
      go_enter Try.func43, Try.ntmps43
      go_wp2
      go_ret3
      exact GetPost.of HE.out rfl rfl rfl
    · have h1 : (n : Int) < at_ := by omega
      clear hbad
      go_enter Try.func43, Try.ntmps43
      go_wp2
      go_ret3
      exact GetPost.of HE.out rfl rfl rfl
  · obtain ⟨a, rfl⟩ := Int.eq_ofNat_of_zero_le (show 0 ≤ at_ by omega)
    have han : a ≤ n := by omega
    obtain ⟨R, hR⟩ : ∃ R, R = vgetF 0 0 (bs.drop a) := ⟨_, rfl⟩
    have HR := Lib.hid hR
    have Hl := Lib.hid hl
    have b1 : decide ((a : Int) < 0) = false := by simp
    have b2 : decide (n < a) = false := by simp; omega
    clear hR hl hbad
    by_cases hend : a = n
    · subst hend
      have HE := Lib.hid (vget_err (bs := bs) (a := a) (k := 2) (by have := Hl.out; omega) (by rw [List.drop_of_length_le (by have := Hl.out; omega), vgetF_nil]) (by decide))
      go_enter Try.func43, Try.ntmps43
      go_wp2
      all_goals
        go_loop [22] (fun i => i = .int .i64 0) (fun _ => 0)
        case atStart => rfl
        case round =>
          subst hrel
          go_wp2
          go_ret3
          exact GetPost.of HE.out rfl rfl rfl
    · obtain ⟨b, o, rfl, hb, hcell⟩ := hx.2 (by omega)
      have hca : ¬ c = a := by omega
      have hlt0 : a < n := by omega
      go_enter Try.func43, Try.ntmps43
      go_wp2
      go_loopw [7, 22] (fun v i wr => ∃ (j u : Nat), j ≤ 9 ∧ a + j ≤ n ∧ i = .int .i64 j ∧ v = .int .u64 u ∧ u < pw (7 * j) ∧ Hid (R = vgetF j u (bs.drop (a + j))) ∧ wr = w) (fun _ i _ => n - (intOf i).toNat)
      case atStart => exact ⟨0, 0, by omega, by omega, rfl, rfl, by decide, HR.out, rfl⟩
      case round =>
        obtain ⟨j, u, hj, haj, rfl, rfl, huj, Hj, rfl⟩ := hrel
        by_cases hlt : a + j < n
        · have hc := hcell (a + j) hlt
          have hcu := hu.at_ (a + j)
          have hd := drop_cons (bs := bs) (k := a + j) (by have := Hl.out; omega)
          obtain ⟨x, hx'⟩ : ∃ x, x = bs.getD (a + j) 0 := ⟨_, rfl⟩
          rw [← hx'] at hc hcu hd
          rw [← Nat.add_assoc] at hc
          have Hd := Lib.hid hd
          clear hx' hd
          have hjn : j < n - a := by omega
          by_cases h9 : j = 9 ∧ 1 < x
          · have HE := Lib.hid (vget_err (bs := bs) (a := a) (k := 20) (by have := Hl.out; omega) (by rw [← HR.out, Hj.out, Hd.out, vgetF_wide h9.1 h9.2]) (by decide))
            obtain ⟨rfl, h1x⟩ := h9
            go_wp2
            go_ret3
            exact GetPost.of HE.out rfl rfl rfl
          · obtain ⟨hb1, hb2⟩ := vget_bound hj huj h9
            have key : (((j : Int) == 9) = false) ∨ (((j : Int) == 9) = true ∧ (x : Int) ≤ 1) := by
              by_cases h : j = 9
              · exact .inr ⟨by rw [beq_iff_eq]; omega, by omega⟩
              · exact .inl (by rw [beq_eq_false_iff_ne]; omega)
            obtain ⟨U, hU⟩ : ∃ U, U = u + x % 128 * 2 ^ (7 * j) := ⟨_, rfl⟩
            have hand := andnot_bits hcu
            have hor := get_or huj hU (by rw [hU]; exact hb1)
            have HU := Lib.hid hU
            have Hb2 := Lib.hid hb2
            clear hU hb1 hb2 huj
            by_cases hc128 : x < 128
            · by_cases hz : x = 0 ∧ 0 < j
              · have HE := Lib.hid (vget_err (bs := bs) (a := a) (k := 5) (by have := Hl.out; omega) (by rw [← HR.out, Hj.out, Hd.out, vgetF_form h9 hz.1 hz.2]) (by decide))
                obtain ⟨hx0, hjp⟩ := hz
                have hz0 : ((x : Int) == 0) = true := by rw [beq_iff_eq]; omega
                clear h9 hx0
                rcases key with k1 | ⟨k1, k2⟩
                all_goals
                  go_wp2
                  go_ret3
                  exact GetPost.of HE.out rfl rfl rfl
              · have HE := Lib.hid (vget_ok (bs := bs) (a := a) (by have := Hl.out; omega) (by rw [← HR.out, Hj.out, Hd.out, vgetF_end h9 hc128 hz]))
                have hzz : (((x : Int) == 0) = false) ∨ (((x : Int) == 0) = true ∧ j ≤ 0) := by
                  by_cases h : x = 0
                  · exact .inr ⟨by rw [beq_iff_eq]; omega, by omega⟩
                  · exact .inl (by rw [beq_eq_false_iff_ne]; omega)
                clear h9 hz
                rcases hzz with z1 | ⟨z1, z2⟩
                all_goals rcases key with k1 | ⟨k1, k2⟩
                all_goals
                  go_wp2
                  go_ret3
                  exact GetPost.of HE.out (by rw [HU.out]) (by omega) rfl
            · have hj9 : j < 9 := by omega
              have hN := Lib.hid (show R = vgetF (j + 1) U (bs.drop (a + (j + 1))) by rw [Hj.out, Hd.out, vgetF_more h9 hc128, HU.out]; rfl)
              have Hup := Lib.hid (show U < pw (7 * (j + 1)) by rw [HU.out]; exact Hb2.out hj9)
              have hjf : ((j : Int) == 9) = false := by rw [beq_eq_false_iff_ne]; omega
              clear h9 key
              go_wp2
              go_roundw
              case rel => exact ⟨j + 1, U, by omega, by omega, by go_num, rfl, Hup.out, hN.out, trivial⟩
              case measure => simp [intOf]; omega
        · have HE := Lib.hid (vget_err (bs := bs) (a := a) (k := 2) (by have := Hl.out; omega) (by rw [← HR.out, Hj.out, List.drop_of_length_le (by have := Hl.out; omega), vgetF_nil]) (by decide))
          have hjn : n - a ≤ j := by omega
          go_wp2
          go_ret3
          exact GetPost.of HE.out rfl rfl rfl

end Go.Proofs.Ytgmjpilinhmjoaa
