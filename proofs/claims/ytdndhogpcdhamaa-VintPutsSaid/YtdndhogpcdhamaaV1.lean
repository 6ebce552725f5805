import Derived.Test.YtdndhogpcdhamaaB3
namespace Go.Proofs.Ytdndhogpcdhamaa
open Go.RowKit

/-- s bytes with more behind them, then the last one. -/
def vputN : Nat → Nat → List Nat
  | 0, u => [u]
  | s + 1, u => (u % 128 + 128) :: vputN s (u / 128)

/-- The number's bytes; how many they are. -/
def vput (u : Nat) : List Nat := vputN ((bl u - 1) / 7) u
def vsize (u : Nat) : Nat := (bl u - 1) / 7 + 1

theorem vputN_len (s u : Nat) : (vputN s u).length = s + 1 := by
  induction s generalizing u with
  | zero => rfl
  | succ s ih => simp [vputN, ih]
theorem vput_len (u : Nat) : (vput u).length = vsize u := vputN_len _ _
theorem vsize_le {u : Nat} (h : u < 18446744073709551616) : vsize u ≤ 10 := by have := bl_64 h; unfold vsize; omega
theorem bl_128 {u : Nat} (h : 128 ≤ u) : bl u = bl (u / 128) + 7 := by
  have h1 := bl_shift 7 (show 2 ^ 7 ≤ u from h)
  rw [show (2 : Nat) ^ 7 = 128 from rfl] at h1
  omega
theorem bl_small {u : Nat} (h : u < 128) : bl u ≤ 7 := bl_le.2 h
theorem vput_big {u : Nat} (h : 128 ≤ u) : vput u = (u % 128 + 128) :: vput (u / 128) := by
  unfold vput
  have h1 := bl_128 h
  have h2 : 1 ≤ bl (u / 128) := by
    rcases Nat.eq_zero_or_pos (bl (u / 128)) with h0 | h0
    · have := bl_le.1 (Nat.le_of_eq h0); omega
    · exact h0
  rw [show (bl u - 1) / 7 = (bl (u / 128) - 1) / 7 + 1 from by omega, vputN]
theorem vput_small {u : Nat} (h : u < 128) : vput u = [u] := by
  unfold vput
  have h1 := bl_small h
  rw [show (bl u - 1) / 7 = 0 from by omega, vputN]

/-- Of u's bytes the first j are done; k more are left, and the last one. -/
theorem vputN_u8 {s u : Nat} (h : u < 2 ^ (7 * s + 7)) : U8 (vputN s u) := by
  induction s generalizing u with
  | zero => intro x hx; simp [vputN] at hx; subst hx; have : (2 : Nat) ^ (7 * 0 + 7) = 128 := rfl; omega
  | succ s ih =>
    intro x hx
    rcases List.mem_cons.1 hx with rfl | h1
    · omega
    · refine ih ?_ x h1
      apply Nat.div_lt_of_lt_mul
      rw [show (128 : Nat) = 2 ^ 7 from rfl, ← Nat.pow_add, show 7 + (7 * s + 7) = 7 * (s + 1) + 7 from by omega]
      exact h
theorem vput_u8 (u : Nat) : U8 (vput u) := by
  refine vputN_u8 ?_
  exact Nat.lt_of_lt_of_le (bl_le.1 (Nat.le_refl (bl u))) (Nat.pow_le_pow_right (by omega) (by omega))

set_option maxHeartbeats 400000 in
theorem refPut_any (u : Nat) (w : World) (hu : u < 18446744073709551616) :
    Calls Try.prog 40 #[.int .u64 u] w fun e w' => ∃ A' c', e = .returned (.slice A' (vput u).length c') ∧ Own .u8 5 w' w.heap.size A' c' (vput u) ∧ Ext w w' := by
  have hs := vsize_le hu
  rw [vput_len]
  obtain ⟨V, hV⟩ : ∃ V, V = vput u := ⟨_, rfl⟩
  have hVl : V.length = vsize u := by rw [hV, vput_len]
  rw [← hV]
  obtain ⟨s, hss⟩ : ∃ s, s = vsize u := ⟨_, rfl⟩
  rw [← hss] at hs hVl ⊢
  have HV := Lib.hid hV
  have HVl := Lib.hid hVl
  clear hV hVl hss
  go_enter Try.func40, Try.ntmps40
  go_wp2
  go_loopw [0, 3] (fun y v wr => ∃ (x : Nat) (P : List Nat) (A' : Option Addr) (c' : Nat), x ≤ u ∧ y = .int .u64 x ∧ v = .slice A' P.length c' ∧ Hid (P ++ vput x = V) ∧ Own .u8 5 wr w.heap.size A' c' P ∧ Below w.heap.size w wr) (fun y _ _ => (intOf y).toNat)
  case atStart => exact ⟨u, [], _, _, Nat.le_refl _, rfl, rfl, HV.out.symm, Own.made _ _ _ (Nat.le_refl _), (Ext.refl w).alloc _⟩
  case round =>
    obtain ⟨x, P, A', c', hxu, rfl, rfl, HP, hown, hb⟩ := hrel
    have hz := hb.size
    have hPl : P.length ≤ 9 := by
      have h1 := congrArg List.length HP.out
      rw [List.length_append, vput_len, HVl.out] at h1
      unfold vsize at h1
      omega
    by_cases hbig : 128 ≤ x
    · have hN := Lib.hid (show (P ++ [x % 128 + 128]) ++ vput (x / 128) = V by rw [List.append_assoc, List.singleton_append, ← vput_big hbig]; exact HP.out)
      have hm : IntKind.u8.wrap ((x : Int) % 128 + 128) = (x : Int) % 128 + 128 := IntWalk.u8_in _ (by omega)
      go_wp2_with (at_builtin; refine wpList_push .u8 (x % 128 + 128) 5 rfl _ _ 25 rfl _ 1 Try.underlying25 Try.infoU8 rfl hown P.length rfl rfl rfl (by omega) (by omega) (by omega) hb hz ?_; intro A1 c1 w1 hown1 hb1 hz1)
      go_roundw
      case rel => exact ⟨x / 128, P ++ [x % 128 + 128], A1, c1, by omega, by go_num, by simp, hN.out, hown1, hb1⟩
      case measure => simp [intOf]; omega
    · have hN := Lib.hid (show P ++ [x] = V by rw [← vput_small (by omega)]; exact HP.out)
      have hm : IntKind.u8.wrap (x : Int) = (x : Int) := IntWalk.u8_in _ (by omega)
      go_wp2_with (at_builtin; refine wpList_push .u8 x 5 rfl _ _ 25 rfl _ 1 Try.underlying25 Try.infoU8 rfl hown P.length rfl rfl rfl (by omega) (by omega) (by omega) hb hz ?_; intro A1 c1 w1 hown1 hb1 hz1)
      go_ret
      rw [hN.out] at hown1
      have hl : P.length + 1 = s := by rw [← HVl.out, ← hN.out]; simp
      exact ⟨A1, c1, by rw [← hl]; rfl, hown1, hb1⟩

theorem size_any (u : Nat) (w : World) (hu : u < 18446744073709551616) :
    Calls Try.prog 41 #[.int .u64 u] w fun e w' => e = .returned (.int .i64 (vsize u)) ∧ w = w' := by
  have hor := u64_or_nat u 1 hu (by omega)
  have hlt : u ||| 1 < 18446744073709551616 := Nat.or_lt_two_pow (n := 64) hu (by omega)
  have hbl : bl (u ||| 1) = max (bl u) 1 := by rw [bl_or]; rfl
  have h64 := bl_64 hlt
  have hsz : ((bl (u ||| 1) : Int) + 6) / 7 = (vsize u : Int) := by unfold vsize; omega
  have Hsz := Lib.hid hsz
  have Hor := Lib.hid hor
  clear hor hsz hbl
  go_enter Try.func41, Try.ntmps41
  go_wp2_with fail
  rw [show (1 : Int) = ((1 : Nat) : Int) from rfl] at *
  rw [Hor.out]
  refine (len64_any _ _ hlt).mono ?_
  rintro e w1 ⟨rfl, rfl⟩
  go_wp2
  go_ret
  exact ⟨ret_int Hsz.out, rfl⟩

/-- Of u's bytes j are written: P; s - j have more behind them; u is shifted by then. -/
theorem vputN_step {s x : Nat} (P : List Nat) : P ++ vputN (s + 1) x = (P ++ [x % 128 + 128]) ++ vputN s (x / 128) := by rw [List.append_assoc]; rfl

theorem more_bits {x : Nat} : bits .or .u8 ((x : Int) % 256) 128 = ((x % 128 + 128 : Nat) : Int) := by
  rw [show (x : Int) % 256 = ((x % 256 : Nat) : Int) from by omega, show (128 : Int) = ((128 : Nat) : Int) from rfl, u8_or_nat _ _ (by omega) (by omega)]
  congr 1
  by_cases h : x % 256 < 128
  · rw [Nat.or_comm, nat_join 7 128 _ (by decide) (by omega)]; omega
  · have h2 : x % 256 = (x % 128) ||| 128 := by rw [Nat.or_comm, nat_join 7 128 _ (by decide) (by omega)]; omega
    rw [h2, Nat.or_assoc, Nat.or_self, Nat.or_comm, nat_join 7 128 _ (by decide) (by omega)]; omega

theorem shift_lt {x k : Nat} (h : x < 2 ^ (7 * (k + 1) + 7)) : x / 128 < 2 ^ (7 * k + 7) := by
  apply Nat.div_lt_of_lt_mul
  rw [show (128 : Nat) = 2 ^ 7 from rfl, ← Nat.pow_add, show 7 + (7 * k + 7) = 7 * (k + 1) + 7 from by omega]
  exact h

set_option maxHeartbeats 400000 in
theorem add_any (A : Option Addr) (n c base : Nat) (bs : List Nat) (u : Nat) (w0 w : World) (hown : Own .u8 5 w base A c bs) (hn : bs.length = n) (hb : Below base w0 w) (hz : base ≤ w.heap.size) (hu : u < 18446744073709551616) (hlen : n + 10 ≤ 180000000000000) :
    Calls Try.prog 59 #[.slice A n c, .int .u64 u] w fun e w' => ∃ A' c', e = .returned (.slice A' (n + vsize u : Nat) c') ∧ Own .u8 5 w' base A' c' (bs ++ vput u) ∧ Below base w0 w' ∧ base ≤ w'.heap.size := by
  have hs := vsize_le hu
  obtain ⟨s, hss⟩ : ∃ s, vsize u = s + 1 := ⟨(bl u - 1) / 7, rfl⟩
  have hV : bs ++ vputN s u = bs ++ vput u := by unfold vput; rw [show s = (bl u - 1) / 7 from by unfold vsize at hss; omega]
  rw [hss] at hs ⊢
  rw [← hV]
  obtain ⟨V, hVe⟩ : ∃ V, V = bs ++ vputN s u := ⟨_, rfl⟩
  rw [← hVe]
  have hub : u < 2 ^ (7 * s + 7) := Nat.lt_of_lt_of_le (bl_le.1 (Nat.le_refl (bl u))) (Nat.pow_le_pow_right (by omega) (by unfold vsize at hss; omega))
  have HV := Lib.hid hVe
  have Hub := Lib.hid hub
  clear hub
  have Hss := Lib.hid hss
  have Hn := Lib.hid hn
  clear hV hVe hss hn
  go_enter Try.func59, Try.ntmps59
  go_wp2_with fail
  refine (size_any _ _ hu).mono ?_
  rintro e w1 ⟨rfl, rfl⟩
  rw [Hss.out]
  go_wp2_with fail
  go_loopw [0, 1, 8] (fun v y i wr => ∃ (j x : Nat) (P : List Nat) (A' : Option Addr) (c' : Nat), j ≤ s ∧ i = .int .i64 j ∧ x < 18446744073709551616 ∧ y = .int .u64 x ∧ v = .slice A' (n + j : Nat) c' ∧ Hid (P ++ vputN (s - j) x = V ∧ P.length = n + j ∧ x < 2 ^ (7 * (s - j) + 7)) ∧ Own .u8 5 wr base A' c' P ∧ Below base w0 wr ∧ base ≤ wr.heap.size) (fun _ _ i _ => s - (intOf i).toNat)
  case atStart => exact ⟨0, u, bs, _, _, Nat.zero_le _, rfl, hu, rfl, rfl, ⟨HV.out.symm, Hn.out, Hub.out⟩, hown, hb, hz⟩
  case round =>
    clear hown hb hz
    obtain ⟨j, x, P, A', c', hj, rfl, hx, rfl, rfl, HP, hown, hb, hz⟩ := hrel
    by_cases hlt : j < s
    · have hN := Lib.hid (show (P ++ [x % 128 + 128]) ++ vputN (s - (j + 1)) (x / 128) = V ∧ (P ++ [x % 128 + 128]).length = n + (j + 1) ∧ x / 128 < 2 ^ (7 * (s - (j + 1)) + 7) from ⟨by rw [← vputN_step, show s - (j + 1) + 1 = s - j from by omega]; exact HP.out.1, by rw [List.length_append, HP.out.2.1]; rfl, shift_lt (by rw [show s - (j + 1) + 1 = s - j from by omega]; exact HP.out.2.2)⟩)
      have Hm := Lib.hid (more_bits (x := x))
      go_wp2_with (at_builtin; refine wpList_push .u8 (x % 128 + 128) 5 rfl _ _ 25 rfl _ 1 Try.underlying25 Try.infoU8 rfl hown (n + j) HP.out.2.1 rfl rfl Hm.out (by omega) (by omega) hb hz ?_; intro A1 c1 w1 hown1 hb1 hz1)
      go_roundw
      case rel => exact ⟨j + 1, x / 128, P ++ [x % 128 + 128], A1, c1, by omega, by go_num, by omega, by go_num, rfl, hN.out, hown1, hb1, hz1⟩
      case measure => simp [intOf]; omega
    · obtain rfl : j = s := by omega
      have hN := Lib.hid (show P ++ [x] = V by have h := HP.out.1; rw [Nat.sub_self] at h; exact h)
      have hx7 : x < 128 := by have h := HP.out.2.2; rw [Nat.sub_self] at h; exact h
      go_wp2_with (at_builtin; refine wpList_push .u8 x 5 rfl _ _ 25 rfl _ 1 Try.underlying25 Try.infoU8 rfl hown (n + j) HP.out.2.1 rfl rfl (by omega) (by omega) (by omega) hb hz ?_; intro A1 c1 w1 hown1 hb1 hz1)
      go_ret
      rw [hN.out] at hown1
      exact ⟨A1, c1, rfl, hown1, hb1, hz1⟩

theorem put_any (u : Nat) (w : World) (hu : u < 18446744073709551616) :
    Calls Try.prog 42 #[.int .u64 u] w fun e w' => ∃ A' c', e = .returned (.slice A' (vput u).length c') ∧ Own .u8 5 w' w.heap.size A' c' (vput u) ∧ Ext w w' := by
  rw [vput_len]
  go_enter Try.func42, Try.ntmps42
  go_wp2_with fail
  refine (add_any none 0 0 w.heap.size [] u w w (Own.nil ..) rfl (Below.refl _ _) (Nat.le_refl _) hu (by omega)).mono ?_
  rintro e w1 ⟨A1, c1, rfl, hown1, hb1, _⟩
  rw [Nat.zero_add]
  go_wp2
  go_ret
  exact ⟨A1, c1, rfl, hown1, hb1⟩

/-- A list's bytes. -/
def vall : List Nat → List Nat
  | [] => []
  | u :: r => vput u ++ vall r
def vlist (us : List Nat) : List Nat := vput us.length ++ vall us
theorem vall_snoc (us : List Nat) (u : Nat) : vall (us ++ [u]) = vall us ++ vput u := by
  induction us with
  | nil => simp [vall]
  | cons x r ih => rw [List.cons_append, vall, ih, vall, List.append_assoc]
theorem vall_len {us : List Nat} (h : U64 us) : (vall us).length ≤ 10 * us.length := by
  induction us with
  | nil => simp [vall]
  | cons x r ih =>
    have h1 := ih (fun v hv => h v (List.mem_cons_of_mem _ hv))
    have h2 := vsize_le (h x List.mem_cons_self)
    rw [vall, List.length_append, vput_len, List.length_cons]
    omega
theorem vall_u8 (us : List Nat) : U8 (vall us) := by
  induction us with
  | nil => intro x hx; cases hx
  | cons u r ih => intro x hx; rcases List.mem_append.1 hx with h | h; exact vput_u8 u x h; exact ih x h
theorem vlist_u8 (us : List Nat) : U8 (vlist us) := by
  intro x hx
  rcases List.mem_append.1 hx with h | h
  · exact vput_u8 _ x h
  · exact vall_u8 us x h
theorem vlist_len {us : List Nat} (h : U64 us) (h2 : us.length < 18446744073709551616) : (vlist us).length ≤ 10 * us.length + 10 := by
  have h1 := vall_len h
  have h3 := vsize_le h2
  rw [vlist, List.length_append, vput_len]
  omega
/-- The first j numbers' bytes. -/
def vupto (us : List Nat) (j : Nat) : List Nat := vput us.length ++ vall (us.take j)
theorem vupto_zero (us : List Nat) : vupto us 0 = vput us.length := by simp [vupto, vall]
theorem vupto_all (us : List Nat) : vupto us us.length = vlist us := by simp [vupto, vlist]
theorem vupto_succ {us : List Nat} {j : Nat} (h : j < us.length) : vupto us (j + 1) = vupto us j ++ vput (us.getD j 0) := by
  unfold vupto; rw [take_next _ _ h, vall_snoc, List.append_assoc]
theorem vupto_len {us : List Nat} (h : U64 us) (h2 : us.length < 18446744073709551616) (j : Nat) : (vupto us j).length ≤ 10 * us.length + 10 := by
  have h1 := vall_len (us := us.take j) (fun v hv => h v (List.mem_of_mem_take hv))
  have h3 := vsize_le h2
  have h4 : (us.take j).length ≤ us.length := by rw [List.length_take]; omega
  rw [vupto, List.length_append, vput_len]
  omega

set_option maxHeartbeats 400000 in
theorem putList_any (A : Option Addr) (n c : Nat) (us : List Nat) (w : World) (hx : Rd .u64 w A n us) (hu : U64 us) (hn : n ≤ 17592186044416) :
    Calls Try.prog 38 #[.slice A n c] w fun e w' => ∃ A' c', e = .returned (.slice A' (vlist us).length c') ∧ Own .u8 5 w' w.heap.size A' c' (vlist us) ∧ Ext w w' := by
  have hl := hx.len
  have Hl := Lib.hid hl
  have HB := Lib.hid (fun j => vupto_len hu (show us.length < 18446744073709551616 by omega) j)
  have H0 := Lib.hid (vupto_zero us)
  rw [hl] at H0
  clear hl
  go_enter Try.func38, Try.ntmps38
  go_wp2_with fail
  refine (put_any _ _ (by omega)).mono ?_
  rintro e w1 ⟨A1, c1, rfl, hown1, he1⟩
  rw [← H0.out] at hown1 ⊢
  go_wp2_with fail
  go_loopw [3, 11] (fun v i wr => ∃ (j : Nat) (A' : Option Addr) (c' : Nat), j ≤ n ∧ i = .int .i64 j ∧ v = .slice A' (vupto us j).length c' ∧ Own .u8 5 wr w.heap.size A' c' (vupto us j) ∧ Ext w wr) (fun _ i _ => n - (intOf i).toNat)
  case atStart => exact ⟨0, _, _, Nat.zero_le _, rfl, rfl, hown1, he1⟩
  case round =>
    clear hown1 he1
    obtain ⟨j, A', c', hj, rfl, rfl, hown, he⟩ := hrel
    by_cases hlt : j < n
    · obtain ⟨b, o, rfl, hb, hc⟩ := (hx.ext he).at_ hlt
      have hv := hu.at_ j
      have Hs := Lib.hid (vupto_succ (us := us) (j := j) (by have := Hl.out; omega))
      obtain ⟨x, hx'⟩ : ∃ x, x = us.getD j 0 := ⟨_, rfl⟩
      rw [← hx'] at hc hv Hs
      have hbl : (vupto us j).length ≤ 175921860444170 := by have := HB.out j; have := Hl.out; omega
      clear hx'
      go_wp2_with fail
      refine (add_any _ _ _ _ _ _ w _ hown rfl he he.size hv (by omega)).mono ?_
      rintro e w2 ⟨A2, c2, rfl, hown2, he2, _⟩
      rw [← Hs.out] at hown2
      have hlen : (vupto us j).length + vsize x = (vupto us (j + 1)).length := by rw [Hs.out, List.length_append, vput_len]
      rw [hlen]
      clear hown he hlen
      go_wp2_with fail
      go_roundw
      case rel => exact ⟨j + 1, A2, c2, by omega, by go_num, rfl, hown2, he2⟩
      case measure => simp [intOf]; omega
    · obtain rfl : j = n := by omega
      rw [show vupto us j = vlist us from by rw [← Hl.out, vupto_all]] at hown ⊢
      go_wp2
      go_ret
      exact ⟨A', c', rfl, hown, he⟩

set_option maxHeartbeats 400000 in
theorem refPutList_any (A : Option Addr) (n c : Nat) (us : List Nat) (w : World) (hx : Rd .u64 w A n us) (hu : U64 us) (hn : n ≤ 17592186044416) :
    Calls Try.prog 39 #[.slice A n c] w fun e w' => ∃ A' c', e = .returned (.slice A' (vlist us).length c') ∧ Own .u8 5 w' w.heap.size A' c' (vlist us) ∧ Ext w w' := by
  have hl := hx.len
  have Hl := Lib.hid hl
  have HB := Lib.hid (fun j => vupto_len hu (show us.length < 18446744073709551616 by omega) j)
  have H0 := Lib.hid (vupto_zero us)
  rw [hl] at H0
  clear hl
  go_enter Try.func39, Try.ntmps39
  go_wp2_with fail
  refine (refPut_any _ _ (by omega)).mono ?_
  rintro e w1 ⟨A1, c1, rfl, hown1, he1⟩
  rw [← H0.out] at hown1 ⊢
  go_wp2_with fail
  go_loopw [3, 4] (fun v i wr => ∃ (j : Nat) (A' : Option Addr) (c' : Nat), j ≤ n ∧ i = .int .i64 j ∧ v = .slice A' (vupto us j).length c' ∧ Own .u8 5 wr w.heap.size A' c' (vupto us j) ∧ Ext w wr) (fun _ i _ => n - (intOf i).toNat)
  case atStart => exact ⟨0, _, _, Nat.zero_le _, rfl, rfl, hown1, he1⟩
  case round =>
    clear hown1 he1
    obtain ⟨j, A', c', hj, rfl, rfl, hown, he⟩ := hrel
    by_cases hlt : j < n
    · obtain ⟨b, o, rfl, hb, hc⟩ := (hx.ext he).at_ hlt
      have hv := hu.at_ j
      have Hs := Lib.hid (vupto_succ (us := us) (j := j) (by have := Hl.out; omega))
      obtain ⟨x, hx'⟩ : ∃ x, x = us.getD j 0 := ⟨_, rfl⟩
      rw [← hx'] at hc hv Hs
      have hbl : (vupto us j).length ≤ 175921860444170 := by have := HB.out j; have := Hl.out; omega
      have hvl : (vput x).length ≤ 10 := by rw [vput_len]; exact vsize_le hv
      clear hx'
      go_wp2_with fail
      refine (refPut_any _ _ hv).mono ?_
      rintro e w2 ⟨A2, c2, rfl, hown2, he2⟩
      go_wp2_with fail
      refine (cat_any _ _ _ _ _ _ _ _ _ (hown.ext he2).rd hown2.rd (by omega)).mono ?_
      rintro e w3 ⟨A3, c3, rfl, hown3, he3⟩
      rw [← Hs.out] at hown3
      have hlen : (vupto us j).length + (vput x).length = (vupto us (j + 1)).length := by rw [Hs.out, List.length_append]
      rw [hlen]
      have hE := (he.trans he2).trans he3
      have hO := hown3.mono (Nat.le_trans he.size he2.size)
      clear hown he hlen hown2 he2 hown3 he3
      go_wp2_with fail
      go_roundw
      case rel => exact ⟨j + 1, A3, c3, by omega, by go_num, rfl, hO, hE⟩
      case measure => simp [intOf]; omega
    · obtain rfl : j = n := by omega
      rw [show vupto us j = vlist us from by rw [← Hl.out, vupto_all]] at hown ⊢
      go_wp2
      go_ret
      exact ⟨A', c', rfl, hown, he⟩

end Go.Proofs.Ytdndhogpcdhamaa
