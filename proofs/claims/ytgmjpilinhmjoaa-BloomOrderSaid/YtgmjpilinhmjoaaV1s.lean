/-
  Numbers in as few bytes as they need: the program's Put and Size, and the document's.
-/
import Derived.Test.YtgmjpilinhmjoaaBL
namespace Go.Proofs.Ytgmjpilinhmjoaa
open Go.RowKit

/-- s bytes with more behind them, then the last one. -/
def vputN : Nat → Nat → List Nat
  | 0, u => [u]
  | s + 1, u => (u % 128 + 128) :: vputN s (u / 128)

/-- The number's bytes; how many they are. -/
def vput (u : Nat) : List Nat := vputN ((bl u - 1) / 7) u
def vsize (u : Nat) : Nat := (bl u - 1) / 7 + 1

theorem vputN_len (s u : Nat) : (vputN s u).length = s + 1 := by
  induction s generalizing u with
  | zero => rfl
  | succ s ih => simp [vputN, ih]
theorem vput_len (u : Nat) : (vput u).length = vsize u := vputN_len _ _
theorem vsize_le {u : Nat} (h : u < 18446744073709551616) : vsize u ≤ 10 := by have := bl_64 h; unfold vsize; omega
theorem bl_128 {u : Nat} (h : 128 ≤ u) : bl u = bl (u / 128) + 7 := by
  have h1 := bl_shift 7 (show 2 ^ 7 ≤ u from h)
  rw [show (2 : Nat) ^ 7 = 128 from rfl] at h1
  omega
theorem bl_small {u : Nat} (h : u < 128) : bl u ≤ 7 := bl_le.2 h
theorem vput_big {u : Nat} (h : 128 ≤ u) : vput u = (u % 128 + 128) :: vput (u / 128) := by
  unfold vput
  have h1 := bl_128 h
  have h2 : 1 ≤ bl (u / 128) := by
    rcases Nat.eq_zero_or_pos (bl (u / 128)) with h0 | h0
    · have := bl_le.1 (Nat.le_of_eq h0); omega
    · exact h0
  rw [show (bl u - 1) / 7 = (bl (u / 128) - 1) / 7 + 1 from by omega, vputN]
theorem vput_small {u : Nat} (h : u < 128) : vput u = [u] := by
  unfold vput
  have h1 := bl_small h
  rw [show (bl u - 1) / 7 = 0 from by omega, vputN]

/-- Of u's bytes the first j are done; k more are left, and the last one. -/
theorem vputN_u8 {s u : Nat} (h : u < 2 ^ (7 * s + 7)) : U8 (vputN s u) := by
  induction s generalizing u with
  | zero => intro x hx; simp [vputN] at hx; subst hx; have : (2 : Nat) ^ (7 * 0 + 7) = 128 := rfl; omega
  | succ s ih =>
    intro x hx
    rcases List.mem_cons.1 hx with rfl | h1
    · omega
    · refine ih ?_ x h1
      apply Nat.div_lt_of_lt_mul
      rw [show (128 : Nat) = 2 ^ 7 from rfl, ← Nat.pow_add, show 7 + (7 * s + 7) = 7 * (s + 1) + 7 from by omega]
      exact h
theorem vput_u8 (u : Nat) : U8 (vput u) := by
  refine vputN_u8 ?_
  exact Nat.lt_of_lt_of_le (bl_le.1 (Nat.le_refl (bl u))) (Nat.pow_le_pow_right (by omega) (by omega))

set_option maxHeartbeats 400000 in
theorem refPut_any (u : Nat) (w : World) (hu : u < 18446744073709551616) :
    Calls Try.prog 39 #[.int .u64 u] w fun e w' => ∃ A' c', e = .returned (.slice A' (vput u).length c') ∧ Own .u8 5 w' w.heap.size A' c' (vput u) ∧ Ext w w' := by
  have hs := vsize_le hu
  rw [vput_len]
  obtain ⟨V, hV⟩ : ∃ V, V = vput u := ⟨_, rfl⟩
  have hVl : V.length = vsize u := by rw [hV, vput_len]
  rw [← hV]
  obtain ⟨s, hss⟩ : ∃ s, s = vsize u := ⟨_, rfl⟩
  rw [← hss] at hs hVl ⊢
  have HV := Lib.hid hV
  have HVl := Lib.hid hVl
  clear hV hVl hss
  go_enter Try.func39, Try.ntmps39
  go_wp2
  go_loopw [0, 3] (fun y v wr => ∃ (x : Nat) (P : List Nat) (A' : Option Addr) (c' : Nat), x ≤ u ∧ y = .int .u64 x ∧ v = .slice A' P.length c' ∧ Hid (P ++ vput x = V) ∧ Own .u8 5 wr w.heap.size A' c' P ∧ Below w.heap.size w wr) (fun y _ _ => (intOf y).toNat)
  case atStart => exact ⟨u, [], _, _, Nat.le_refl _, rfl, rfl, HV.out.symm, Own.made _ _ _ (Nat.le_refl _), (Ext.refl w).alloc _⟩
  case round =>
    obtain ⟨x, P, A', c', hxu, rfl, rfl, HP, hown, hb⟩ := hrel
    have hz := hb.size
    have hPl : P.length ≤ 9 := by
      have h1 := congrArg List.length HP.out
      rw [List.length_append, vput_len, HVl.out] at h1
      unfold vsize at h1
      omega
    by_cases hbig : 128 ≤ x
    · have hN := Lib.hid (show (P ++ [x % 128 + 128]) ++ vput (x / 128) = V by rw [List.append_assoc, List.singleton_append, ← vput_big hbig]; exact HP.out)
      have hm : IntKind.u8.wrap ((x : Int) % 128 + 128) = (x : Int) % 128 + 128 := IntWalk.u8_in _ (by omega)
      go_wp2_with (at_builtin; refine wpList_push .u8 (x % 128 + 128) 5 rfl _ _ 23 rfl _ 1 Try.underlying23 Try.infoU8 rfl hown P.length rfl rfl rfl (by omega) (by omega) (by omega) hb hz ?_; intro A1 c1 w1 hown1 hb1 hz1)
      go_roundw
      case rel => exact ⟨x / 128, P ++ [x % 128 + 128], A1, c1, by omega, by go_num, by simp, hN.out, hown1, hb1⟩
      case measure => simp [intOf]; omega
    · have hN := Lib.hid (show P ++ [x] = V by rw [← vput_small (by omega)]; exact HP.out)
      have hm : IntKind.u8.wrap (x : Int) = (x : Int) := IntWalk.u8_in _ (by omega)
      go_wp2_with (at_builtin; refine wpList_push .u8 x 5 rfl _ _ 23 rfl _ 1 Try.underlying23 Try.infoU8 rfl hown P.length rfl rfl rfl (by omega) (by omega) (by omega) hb hz ?_; intro A1 c1 w1 hown1 hb1 hz1)
      go_ret
      rw [hN.out] at hown1
      have hl : P.length + 1 = s := by rw [← HVl.out, ← hN.out]; simp
      exact ⟨A1, c1, by rw [← hl]; rfl, hown1, hb1⟩

theorem size_any (u : Nat) (w : World) (hu : u < 18446744073709551616) :
    Calls Try.prog 60 #[.int .u64 u] w fun e w' => e = .returned (.int .i64 (vsize u)) ∧ w = w' := by
  have hor := u64_or_nat u 1 hu (by omega)
  have hlt : u ||| 1 < 18446744073709551616 := Nat.or_lt_two_pow (n := 64) hu (by omega)
  have hbl : bl (u ||| 1) = max (bl u) 1 := by rw [bl_or]; rfl
  have h64 := bl_64 hlt
  have hsz : ((bl (u ||| 1) : Int) + 6) / 7 = (vsize u : Int) := by unfold vsize; omega
  have Hsz := Lib.hid hsz
  have Hor := Lib.hid hor
  clear hor hsz hbl
  go_enter Try.func60, Try.ntmps60
  go_wp2_with fail
  rw [show (1 : Int) = ((1 : Nat) : Int) from rfl] at *
  rw [Hor.out]
  refine (len64_any _ _ hlt).mono ?_
  rintro e w1 ⟨rfl, rfl⟩
  go_wp2
  go_ret
  exact ⟨ret_int Hsz.out, rfl⟩

/-- Of u's bytes j are written: P; s - j have more behind them; u is shifted by then. -/
theorem vputN_step {s x : Nat} (P : List Nat) : P ++ vputN (s + 1) x = (P ++ [x % 128 + 128]) ++ vputN s (x / 128) := by rw [List.append_assoc]; rfl

theorem more_bits {x : Nat} : bits .or .u8 ((x : Int) % 256) 128 = ((x % 128 + 128 : Nat) : Int) := by
  rw [show (x : Int) % 256 = ((x % 256 : Nat) : Int) from by omega, show (128 : Int) = ((128 : Nat) : Int) from rfl, u8_or_nat _ _ (by omega) (by omega)]
  congr 1
  by_cases h : x % 256 < 128
  · rw [Nat.or_comm, nat_join 7 128 _ (by decide) (by omega)]; omega
  · have h2 : x % 256 = (x % 128) ||| 128 := by rw [Nat.or_comm, nat_join 7 128 _ (by decide) (by omega)]; omega
    rw [h2, Nat.or_assoc, Nat.or_self, Nat.or_comm, nat_join 7 128 _ (by decide) (by omega)]; omega

theorem shift_lt {x k : Nat} (h : x < 2 ^ (7 * (k + 1) + 7)) : x / 128 < 2 ^ (7 * k + 7) := by
  apply Nat.div_lt_of_lt_mul
  rw [show (128 : Nat) = 2 ^ 7 from rfl, ← Nat.pow_add, show 7 + (7 * k + 7) = 7 * (k + 1) + 7 from by omega]
  exact h

set_option maxHeartbeats 400000 in
theorem add_any (A : Option Addr) (n c base : Nat) (bs : List Nat) (u : Nat) (w0 w : World) (hown : Own .u8 5 w base A c bs) (hn : bs.length = n) (hb : Below base w0 w) (hz : base ≤ w.heap.size) (hu : u < 18446744073709551616) (hlen : n + 10 ≤ 180000000000000) :
    Calls Try.prog 52 #[.slice A n c, .int .u64 u] w fun e w' => ∃ A' c', e = .returned (.slice A' (n + vsize u : Nat) c') ∧ Own .u8 5 w' base A' c' (bs ++ vput u) ∧ Below base w0 w' ∧ base ≤ w'.heap.size := by
  have hs := vsize_le hu
  obtain ⟨s, hss⟩ : ∃ s, vsize u = s + 1 := ⟨(bl u - 1) / 7, rfl⟩
  have hV : bs ++ vputN s u = bs ++ vput u := by unfold vput; rw [show s = (bl u - 1) / 7 from by unfold vsize at hss; omega]
  rw [hss] at hs ⊢
  rw [← hV]
  obtain ⟨V, hVe⟩ : ∃ V, V = bs ++ vputN s u := ⟨_, rfl⟩
  rw [← hVe]
  have hub : u < 2 ^ (7 * s + 7) := Nat.lt_of_lt_of_le (bl_le.1 (Nat.le_refl (bl u))) (Nat.pow_le_pow_right (by omega) (by unfold vsize at hss; omega))
  have HV := Lib.hid hVe
  have Hub := Lib.hid hub
  clear hub
  have Hss := Lib.hid hss
  have Hn := Lib.hid hn
  clear hV hVe hss hn
  go_enter Try.func52, Try.ntmps52
  go_wp2_with fail
  refine (size_any _ _ hu).mono ?_
  rintro e w1 ⟨rfl, rfl⟩
  rw [Hss.out]
  go_wp2_with fail
  go_loopw [0, 1, 8] (fun v y i wr => ∃ (j x : Nat) (P : List Nat) (A' : Option Addr) (c' : Nat), j ≤ s ∧ i = .int .i64 j ∧ x < 18446744073709551616 ∧ y = .int .u64 x ∧ v = .slice A' (n + j : Nat) c' ∧ Hid (P ++ vputN (s - j) x = V ∧ P.length = n + j ∧ x < 2 ^ (7 * (s - j) + 7)) ∧ Own .u8 5 wr base A' c' P ∧ Below base w0 wr ∧ base ≤ wr.heap.size) (fun _ _ i _ => s - (intOf i).toNat)
  case atStart => exact ⟨0, u, bs, _, _, Nat.zero_le _, rfl, hu, rfl, rfl, ⟨HV.out.symm, Hn.out, Hub.out⟩, hown, hb, hz⟩
  case round =>
    clear hown hb hz
    obtain ⟨j, x, P, A', c', hj, rfl, hx, rfl, rfl, HP, hown, hb, hz⟩ := hrel
    by_cases hlt : j < s
    · have hN := Lib.hid (show (P ++ [x % 128 + 128]) ++ vputN (s - (j + 1)) (x / 128) = V ∧ (P ++ [x % 128 + 128]).length = n + (j + 1) ∧ x / 128 < 2 ^ (7 * (s - (j + 1)) + 7) from ⟨by rw [← vputN_step, show s - (j + 1) + 1 = s - j from by omega]; exact HP.out.1, by rw [List.length_append, HP.out.2.1]; rfl, shift_lt (by rw [show s - (j + 1) + 1 = s - j from by omega]; exact HP.out.2.2)⟩)
      have Hm := Lib.hid (more_bits (x := x))
      go_wp2_with (at_builtin; refine wpList_push .u8 (x % 128 + 128) 5 rfl _ _ 23 rfl _ 1 Try.underlying23 Try.infoU8 rfl hown (n + j) HP.out.2.1 rfl rfl Hm.out (by omega) (by omega) hb hz ?_; intro A1 c1 w1 hown1 hb1 hz1)
      go_roundw
      case rel => exact ⟨j + 1, x / 128, P ++ [x % 128 + 128], A1, c1, by omega, by go_num, by omega, by go_num, rfl, hN.out, hown1, hb1, hz1⟩
      case measure => simp [intOf]; omega
    · obtain rfl : j = s := by omega
      have hN := Lib.hid (show P ++ [x] = V by have h := HP.out.1; rw [Nat.sub_self] at h; exact h)
      have hx7 : x < 128 := by have h := HP.out.2.2; rw [Nat.sub_self] at h; exact h
      go_wp2_with (at_builtin; refine wpList_push .u8 x 5 rfl _ _ 23 rfl _ 1 Try.underlying23 Try.infoU8 rfl hown (n + j) HP.out.2.1 rfl rfl (by omega) (by omega) (by omega) hb hz ?_; intro A1 c1 w1 hown1 hb1 hz1)
      go_ret
      rw [hN.out] at hown1
      exact ⟨A1, c1, rfl, hown1, hb1, hz1⟩

theorem put_any (u : Nat) (w : World) (hu : u < 18446744073709551616) :
    Calls Try.prog 38 #[.int .u64 u] w fun e w' => ∃ A' c', e = .returned (.slice A' (vput u).length c') ∧ Own .u8 5 w' w.heap.size A' c' (vput u) ∧ Ext w w' := by
  rw [vput_len]
  go_enter Try.func38, Try.ntmps38
  go_wp2_with fail
  refine (add_any none 0 0 w.heap.size [] u w w (Own.nil ..) rfl (Below.refl _ _) (Nat.le_refl _) hu (by omega)).mono ?_
  rintro e w1 ⟨A1, c1, rfl, hown1, hb1, _⟩
  rw [Nat.zero_add]
  go_wp2
  go_ret
  exact ⟨A1, c1, rfl, hown1, hb1⟩

end Go.Proofs.Ytgmjpilinhmjoaa
