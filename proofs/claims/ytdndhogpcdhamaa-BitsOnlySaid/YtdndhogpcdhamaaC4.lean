import Derived.Test.YtdndhogpcdhamaaC3
namespace Go.Proofs.Ytdndhogpcdhamaa
open Go.RowKit

theorem at_upk {N len : Nat} {wd n i : Nat} (hw : wd ≤ 64) (hi : i < n) (hl : wd * n ≤ 8 * len) : atS N len (wd : Int) (i : Int) = ((upk wd n N).getD i 0, true) := by
  have h1 : (i + 1) * wd ≤ n * wd := Nat.mul_le_mul_right _ (by omega)
  rw [Nat.mul_comm n] at h1
  have h2 : ((i : Int) + 1) * (wd : Int) = (((i + 1) * wd : Nat) : Int) := by norm_cast
  unfold atS
  rw [if_neg (by omega), upk_at _ _ _ _ hi]
  by_cases hz : wd = 0
  · subst hz
    simp [Nat.mod_one]
  · rw [if_neg (by omega), if_neg (by omega), ← Int.natCast_mul]
    rfl

/-- What was packed is unpacked again. -/
theorem unp_pack {wd : Nat} {vs : List Nat} (hw : wd ≤ 64) (hn : vs.length ≤ 4096) (hv : Wd wd vs) :
    unpE (pk 8 (packB wd vs)) (packB wd vs).length (wd : Int) (vs.length : Int) = 0 ∧ unpL (pk 8 (packB wd vs)) (packB wd vs).length (wd : Int) (vs.length : Int) = vs ∧
      (∀ i, i < vs.length → atS (pk 8 (packB wd vs)) (packB wd vs).length (wd : Int) (i : Int) = (vs.getD i 0, true)) ∧ ∀ N, unpE N ((packB wd vs).length + 1) (wd : Int) (vs.length : Int) = 3 := by
  have hlt := pk_lt hv
  have hlen : (packB wd vs).length = (wd * vs.length + 7) / 8 := upk_len ..
  have hpk : pk 8 (packB wd vs) = pk wd vs := by
    unfold packB
    rw [pk_upk, Nat.mod_eq_of_lt]
    exact Nat.lt_of_lt_of_le hlt (Nat.pow_le_pow_right (by omega) (by omega))
  have hm : (wd : Int) * (vs.length : Int) = ((wd * vs.length : Nat) : Int) := by norm_cast
  have h0 : unpE (pk wd vs) (packB wd vs).length (wd : Int) (vs.length : Int) = 0 := by
    refine unpE_ok (by omega) (by rw [hm, hlen]; omega) (by rw [hm, hlen]; omega) ?_
    rw [hm, Int.toNat_natCast]
    omega
  rw [hpk]
  refine ⟨h0, ?_, fun i hi => ?_, fun N => ?_⟩
  · rw [unp_ok h0, Int.toNat_natCast, Int.toNat_natCast, upk_pk hv]
  · rw [at_upk hw hi (by rw [hlen]; omega), upk_pk hv]
  · exact unpE_trail (by omega) (by rw [hm, hlen]; omega) (by rw [hm, hlen]; omega)

set_option maxHeartbeats 3200000 in
theorem walk_BitsBack (A : Option Addr) (n c : Nat) (vs : List Nat) (more : Int) (w : World) (hx : Rd .u64 w A n vs) (hu : U64 vs) (hz : n * 8 ≤ 140737488351232) (_h1 : -9223372036854775808 ≤ more) (_h2 : more ≤ 9223372036854775807) :
    Calls Try.prog 5 #[.slice A n c, .int .i64 more] w fun e w' => e = .returned (.bool true) ∧ Ext w w' := by
  go_enter Try.func5, Try.ntmps5
  go_wp2_with fail
  refine (alive1 _).mono ?_
  rintro e w1 ⟨rfl, he1⟩
  have hx1 := hx.ext he1
  by_cases hlong : 4096 < n
  · go_wp2
    go_ret
    exact ⟨rfl, he1⟩
  · have hl := hx.len
    have hwl : wdt vs ≤ 64 := wdt_le.2 (U64_wd.1 hu)
    obtain ⟨W, hW, hW64, hWc⟩ : ∃ W : Nat, wdt vs ≤ W ∧ W ≤ 64 ∧ ((0 < more ∧ more ≤ 64 - (wdt vs : Int) ∧ (W : Int) = (wdt vs : Int) + more) ∨ (¬ (0 < more ∧ more ≤ 64 - (wdt vs : Int)) ∧ W = wdt vs)) := by
      by_cases h : 0 < more ∧ more ≤ 64 - (wdt vs : Int)
      · exact ⟨wdt vs + more.toNat, by omega, by omega, .inl ⟨h.1, h.2, by omega⟩⟩
      · exact ⟨wdt vs, by omega, by omega, .inr ⟨h, rfl⟩⟩
    have hwd : Wd W vs := wdt_le.1 hW
    obtain ⟨p1, p2, p3, p4⟩ := unp_pack hW64 (by omega) hwd
    have hE : packE W vs = 0 := packE_ok (by omega) (by omega) (by omega)
    have hL : packL W vs = packB W vs := by unfold packL; rw [if_pos hE]; rfl
    have hBu := packB_u8 W vs
    have hBl : (packB W vs).length ≤ 32768 := by rw [← hL]; exact packL_len _ _
    rw [hl] at p1 p2 p4
    obtain ⟨B, hB⟩ : ∃ B, B = packB W vs := ⟨_, rfl⟩
    rw [← hB] at p1 p2 p3 p4 hL hBu hBl
    have hEn : ((n : Int) - (n : Int)) = 0 := by omega
    have P1 := Lib.hid p1
    have P2 := Lib.hid p2
    have P3 := Lib.hid p3
    have P4 := Lib.hid p4
    have HL := Lib.hid hL
    have HE := Lib.hid hE
    have Hl := Lib.hid hl
    clear p1 p2 p3 p4 hL hE hl hB hwd hW hEn
    obtain ⟨T, hT⟩ : ∃ T, T = wdt vs := ⟨_, rfl⟩
    rw [← hT] at hWc hwl
    have HT := Lib.hid hT
    clear hT
    have M : (0 < more ∧ more ≤ 64 - (T : Int) ∧ Hid ((W : Int) = (T : Int) + more)) ∨ (more ≤ 0 ∧ Hid ((W : Int) = (T : Int))) ∨ (0 < more ∧ ¬ more ≤ 64 - (T : Int) ∧ Hid ((W : Int) = (T : Int))) := by
      rcases hWc with ⟨m1, m2, m3⟩ | ⟨m1, m3⟩
      · exact .inl ⟨m1, m2, m3⟩
      · by_cases h0 : more ≤ 0
        · exact .inr (.inl ⟨h0, by rw [m3]; rfl⟩)
        · exact .inr (.inr ⟨by omega, by omega, by rw [m3]; rfl⟩)
    clear hWc
    rcases M with ⟨m1, m2, M3⟩ | ⟨m1, M3⟩ | ⟨m1, m2, M3⟩
    all_goals
      go_wp2_with fail
      refine (width_any _ _ _ _ _ hx1 hu (by omega)).mono ?_
      rintro e w2 ⟨rfl, rfl⟩
      rw [← HT.out]
      go_wp2_with fail
      rw [← M3.out]
      refine (pack_any _ _ _ _ _ _ hx1 hu (by omega)).mono ?_
      rintro e w2 ⟨A2, c2, rfl, hown2, he2⟩
      rw [HL.out, HE.out] at *
      go_wp2_with fail
      refine (unpack_any _ _ _ _ _ B _ hown2.rd hBu (by omega)).mono ?_
      rintro e w3 ⟨A3, c3, rfl, hown3, he3⟩
      rw [P2.out] at hown3 ⊢
      rw [Hl.out, P1.out]
      have hx3 := (hx1.ext he2).ext he3
      have hb3 := hown2.rd.ext he3
      have hE3 := (he1.trans he2).trans he3
      have hr3 := hown3.rd' Hl.out
      clear hown2 hown3 he1 he2 he3 hx1 hx
      go_wp2_with fail
      refine (sameNumbers_yes hr3 hx3 (by omega)).mono ?_
      rintro e w4 ⟨rfl, q1, rfl⟩
      have hx4 := hx3.drewN q1
      have hb4 := hb3.drewN q1
      have hE4 := hE3.drewN q1
      clear hx3 hb3 hr3 hE3
      go_wp2_with fail
      generalize w3.drewN q1 = w4 at *
      go_loop [62] (fun i => ∃ j : Nat, j ≤ n ∧ i = .int .i64 j) (fun i => n - (intOf i).toNat)
      case atStart => exact ⟨0, Nat.zero_le _, rfl⟩
      case round =>
        obtain ⟨j, hj, rfl⟩ := hrel
        by_cases hlt : j < n
        · obtain ⟨b, o, rfl, hb, hc⟩ := hx4.at_ hlt
          have hat := P3.out j (by have := Hl.out; omega)
          obtain ⟨v, hv⟩ : ∃ v, v = vs.getD j 0 := ⟨_, rfl⟩
          rw [← hv] at hc hat
          have Hat := Lib.hid hat
          have hne : (((v : Nat) : Int) != ((v : Nat) : Int)) = false := by simp
          clear hv hat
          go_wp2_with fail
          refine (at_any _ _ _ _ _ B _ hb4 hBu (by omega) (by omega)).mono ?_
          rintro e w5 ⟨rfl, hw⟩
          subst hw
          rw [Hat.out]
          go_wp2_with fail
          go_round
          case rel => exact ⟨j + 1, by omega, by go_num⟩
          case measure => simp [intOf]; omega
        · obtain rfl : j = n := by omega
          go_wp2_with fail
          have hz0 := Rd.lit_at .u8 5 w4 [0] rfl rfl
          refine (cat_any _ _ _ _ _ _ B [0] _ (hb4.ext ((Ext.refl _).alloc _)) hz0 (by simp; omega)).mono ?_
          rintro e w5 ⟨A5, c5, rfl, hown5, he5⟩
          go_wp2_with fail
          refine (unpack_any _ _ _ _ _ (B ++ [0]) _ (hown5.rd' (by simp)) ?_ (by simp; omega)).mono ?_
          · intro x hx
            rcases List.mem_append.1 hx with h | h
            · exact hBu x h
            · simp at h; omega
          rintro e w6 ⟨A6, c6, rfl, hown6, he6⟩
          rw [P4.out]
          go_wp2_with fail
          go_ret
          exact ⟨rfl, ((hE4.alloc _).trans he5).trans he6⟩

/-- What was unpacked packs to the same bytes. -/
theorem pack_unp {bs : List Nat} {wd n : Nat} (hw : wd ≤ 64) (hn : n ≤ 4096) (hu : U8 bs) (h : unpE (pk 8 bs) bs.length (wd : Int) (n : Int) = 0) :
    packE (wd : Int) (upk wd n (pk 8 bs)) = 0 ∧ packL (wd : Int) (upk wd n (pk 8 bs)) = bs ∧ ∀ i, i < n → atS (pk 8 bs) bs.length (wd : Int) (i : Int) = ((upk wd n (pk 8 bs)).getD i 0, true) := by
  obtain ⟨_, _, _, _, h5, h6, h7⟩ := unpE_bounds h
  have hm : (wd : Int) * (n : Int) = ((wd * n : Nat) : Int) := by norm_cast
  rw [hm] at h5 h6 h7
  rw [Int.toNat_natCast] at h7
  have hl := upk_len wd n (pk 8 bs)
  have hwd := wdt_le.2 (upk_wd wd n (pk 8 bs))
  have hE : packE (wd : Int) (upk wd n (pk 8 bs)) = 0 := packE_ok (by omega) (by omega) (by omega)
  refine ⟨hE, ?_, fun i hi => at_upk hw hi (by omega)⟩
  unfold packL
  rw [if_pos hE, Int.toNat_natCast]
  unfold packB
  rw [hl, pk_upk, Nat.mod_eq_of_lt h7, show (wd * n + 7) / 8 = bs.length from by omega]
  exact upk_pk (U8_wd.1 hu)

set_option maxHeartbeats 1600000 in
theorem walk_BitsOnly (A : Option Addr) (n c : Nat) (bs : List Nat) (wd cnt : Int) (w : World) (hx : Rd .u8 w A n bs) (hu : U8 bs) (hz : n * 1 ≤ 140737488351232) (_h1 : -9223372036854775808 ≤ wd) (_h2 : wd ≤ 9223372036854775807) (_h3 : -9223372036854775808 ≤ cnt) (_h4 : cnt ≤ 9223372036854775807) :
    Calls Try.prog 6 #[.slice A n c, .int .i64 wd, .int .i64 cnt] w fun e w' => e = .returned (.bool true) ∧ Ext w w' := by
  have hl := hx.len
  go_enter Try.func6, Try.ntmps6
  go_wp2_with fail
  refine (alive1 _).mono ?_
  rintro e w1 ⟨rfl, he1⟩
  go_wp2_with fail
  refine (copy_any _ _ _ _ _ (hx.ext he1) (by omega)).mono ?_
  rintro e w2 ⟨A2, c2, rfl, hown2, he2⟩
  go_wp2_with fail
  refine (unpack_any _ _ _ _ _ bs _ (hown2.rd' hl) hu (by omega)).mono ?_
  rintro e w3 ⟨A3, c3, rfl, hown3, he3⟩
  by_cases hE : unpE (pk 8 bs) n wd cnt = 0
  · obtain ⟨h1, h2, h3, h4, _⟩ := unpE_bounds hE
    obtain ⟨wn, rfl⟩ := Int.eq_ofNat_of_zero_le h1
    obtain ⟨m, rfl⟩ := Int.eq_ofNat_of_zero_le h3
    have hL : unpL (pk 8 bs) n (wn : Int) (m : Int) = upk wn m (pk 8 bs) := by rw [unp_ok hE, Int.toNat_natCast, Int.toNat_natCast]
    have hE' := hE
    rw [← hl] at hE'
    obtain ⟨p1, p2, p3⟩ := pack_unp (by omega) (by omega) hu hE'
    rw [hl] at p3
    have hlen := upk_len wn m (pk 8 bs)
    have hu64 := unpL_u64 (pk 8 bs) n (wn : Int) (m : Int)
    rw [hL] at hown3 hu64 ⊢
    rw [hE, hlen]
    obtain ⟨L, hLe⟩ : ∃ L, L = upk wn m (pk 8 bs) := ⟨_, rfl⟩
    rw [← hLe] at hown3 hu64 p1 p2 p3 hlen
    have P1 := Lib.hid p1
    have P2 := Lib.hid p2
    have P3 := Lib.hid p3
    have Hl := Lib.hid hl
    have hr3 := hown3.rd' hlen
    have hx3 := ((hx.ext he1).ext he2).ext he3
    have hE3 := (he1.trans he2).trans he3
    have hmm : ((m : Int) != (m : Int)) = false := by simp
    clear p1 p2 p3 hl hE hE' hL hLe hown3 hown2 hx he1 he2 he3 hlen
    go_wp2_with fail
    refine (pack_any _ _ _ _ L _ hr3 hu64 (by omega)).mono ?_
    rintro e w4 ⟨A4, c4, rfl, hown4, he4⟩
    rw [P1.out]
    rw [P2.out] at hown4 ⊢
    go_wp2_with fail
    refine (same_yes (hown4.rd' rfl) (hx3.ext he4) (by rw [Hl.out]; omega)).mono ?_
    rintro e w5 ⟨rfl, q, rfl⟩
    have hr5 := (hr3.ext he4).drewN q
    have hb5 := (hx3.ext he4).drewN q
    have hE5 := (hE3.trans he4).drewN q
    go_wp2_with fail
    generalize w4.drewN q = w5 at *
    clear hown4 hr3 hx3 hE3
    go_loop [52] (fun i => ∃ j : Nat, j ≤ m ∧ i = .int .i64 j) (fun i => m - (intOf i).toNat)
    case atStart => exact ⟨0, Nat.zero_le _, rfl⟩
    case round =>
      obtain ⟨j, hj, rfl⟩ := hrel
      by_cases hlt : j < m
      · obtain ⟨b, o, rfl, hb, hc⟩ := hr5.at_ hlt
        have hat := P3.out j hlt
        obtain ⟨v, hv⟩ : ∃ v, v = L.getD j 0 := ⟨_, rfl⟩
        rw [← hv] at hc hat
        have Hat := Lib.hid hat
        have hne : (((v : Nat) : Int) != ((v : Nat) : Int)) = false := by simp
        clear hv hat
        go_wp2_with fail
        refine (at_any _ _ _ _ _ bs _ hb5 hu (by omega) (by omega)).mono ?_
        rintro e w6 ⟨rfl, hw⟩
        subst hw
        rw [Hat.out]
        go_wp2_with fail
        go_round
        case rel => exact ⟨j + 1, by omega, by go_num⟩
        case measure => simp [intOf]; omega
      · obtain rfl : j = m := by omega
        go_wp2_with fail
        go_ret
        exact ⟨rfl, hE5⟩
  · rw [unp_err rfl hE]
    have hne : (unpE (pk 8 bs) n wd cnt != 0) = true := by rw [bne_iff_ne]; exact hE
    obtain ⟨E, hEe⟩ : ∃ E, E = unpE (pk 8 bs) n wd cnt := ⟨_, rfl⟩
    rw [← hEe] at hne ⊢
    clear hE hEe hl
    go_wp2_with fail
    go_ret
    exact ⟨rfl, (he1.trans he2).trans he3⟩

theorem fold_there {v : Int} (h0 : -9223372036854775808 ≤ v) (h1 : v ≤ 9223372036854775807) : 0 ≤ foldS v ∧ foldS v ≤ 18446744073709551615 ∧ unfS (foldS v) = v := by
  unfold foldS unfS
  by_cases h : v < 0
  · rw [if_pos h]; refine ⟨by omega, by omega, ?_⟩; rw [if_neg (by omega)]; omega
  · rw [if_neg h]; refine ⟨by omega, by omega, ?_⟩; rw [if_pos (by omega)]; omega
theorem unf_there {u : Int} (h0 : 0 ≤ u) (h1 : u ≤ 18446744073709551615) : -9223372036854775808 ≤ unfS u ∧ unfS u ≤ 9223372036854775807 ∧ foldS (unfS u) = u := by
  unfold foldS unfS
  by_cases h : u % 2 = 0
  · rw [if_pos h]; refine ⟨by omega, by omega, ?_⟩; rw [if_neg (by omega)]; omega
  · rw [if_neg h]; refine ⟨by omega, by omega, ?_⟩; rw [if_pos (by omega)]; omega
theorem flip_there {v : Int} (h0 : -9223372036854775808 ≤ v) (h1 : v ≤ 9223372036854775807) : 0 ≤ flipS v ∧ flipS v ≤ 18446744073709551615 ∧ unflS (flipS v) = v := by
  unfold flipS unflS; exact ⟨by omega, by omega, by omega⟩
theorem unfl_there {u : Int} (h0 : 0 ≤ u) (h1 : u ≤ 18446744073709551615) : -9223372036854775808 ≤ unflS u ∧ unflS u ≤ 9223372036854775807 ∧ flipS (unflS u) = u := by
  unfold flipS unflS; exact ⟨by omega, by omega, by omega⟩

theorem fold_small {v : Int} (h0 : -9223372036854775808 ≤ v) (h1 : v ≤ 9223372036854775807) : (foldS v % 2 != bits .xor .u64 (flipS v / 9223372036854775808) 1) = false := by
  have e : foldS v % 2 = bits .xor .u64 (flipS v / 9223372036854775808) 1 := by
    unfold foldS flipS
    by_cases h : v < 0
    · rw [if_pos h, show (v + 9223372036854775808) / 9223372036854775808 = 0 from by omega, show bits .xor .u64 0 1 = 1 from by decide +kernel]; omega
    · rw [if_neg h, show (v + 9223372036854775808) / 9223372036854775808 = 1 from by omega, show bits .xor .u64 1 1 = 0 from by decide +kernel]; omega
  rw [e]; simp

set_option maxHeartbeats 1600000 in
theorem walk_BitsFolds (v v2 u size : Int) (w : World) (h1 : -9223372036854775808 ≤ v) (h2 : v ≤ 9223372036854775807) (h3 : -9223372036854775808 ≤ v2) (h4 : v2 ≤ 9223372036854775807) (h5 : 0 ≤ u) (h6 : u ≤ 18446744073709551615) (_h7 : -9223372036854775808 ≤ size) (_h8 : size ≤ 9223372036854775807) :
    Calls Try.prog 8 #[.int .i64 v, .int .i64 v2, .int .u64 u, .int .i64 size] w fun e w' => e = .returned (.bool true) ∧ Ext w w' := by
  obtain ⟨f1, f2, f3⟩ := fold_there h1 h2
  obtain ⟨g1, g2, g3⟩ := unf_there h5 h6
  obtain ⟨p1, p2, p3⟩ := flip_there h1 h2
  obtain ⟨q1, q2, q3⟩ := unfl_there h5 h6
  have F3 := Lib.hid f3
  have G3 := Lib.hid g3
  have P3 := Lib.hid p3
  have Q3 := Lib.hid q3
  have tv : (v != v) = false := by simp
  have tu : (u != u) = false := by simp
  clear f3 g3 p3 q3
  go_enter Try.func8, Try.ntmps8
  go_wp2_with fail
  refine (alive1 _).mono ?_
  rintro e w1 ⟨rfl, he1⟩
  go_wp2_with fail
  refine (fold_any _ _ h1 h2).mono ?_
  rintro e w2 ⟨rfl, rfl⟩
  go_wp2_with fail
  refine (unfold_any _ _ f1 f2).mono ?_
  rintro e w2 ⟨rfl, rfl⟩
  rw [F3.out]
  go_wp2_with fail
  refine (unfold_any _ _ h5 h6).mono ?_
  rintro e w2 ⟨rfl, rfl⟩
  go_wp2_with fail
  refine (fold_any _ _ g1 g2).mono ?_
  rintro e w2 ⟨rfl, rfl⟩
  rw [G3.out]
  go_wp2_with fail
  refine (flip_any _ _ h1 h2).mono ?_
  rintro e w2 ⟨rfl, rfl⟩
  go_wp2_with fail
  refine (unflip_any _ _ p1 p2).mono ?_
  rintro e w2 ⟨rfl, rfl⟩
  rw [P3.out]
  go_wp2_with fail
  refine (unflip_any _ _ h5 h6).mono ?_
  rintro e w2 ⟨rfl, rfl⟩
  go_wp2_with fail
  refine (flip_any _ _ q1 q2).mono ?_
  rintro e w2 ⟨rfl, rfl⟩
  rw [Q3.out]
  go_wp2_with fail
  refine (flip_any _ _ h1 h2).mono ?_
  rintro e w2 ⟨rfl, rfl⟩
  go_wp2_with fail
  refine (flip_any _ _ h3 h4).mono ?_
  rintro e w2 ⟨rfl, rfl⟩
  have key : (v < v2 ∧ flipS v < flipS v2) ∨ (v2 ≤ v ∧ flipS v2 ≤ flipS v) := by unfold flipS; omega
  have k2 : (decide (v < v2) != decide (v < v2)) = false := by simp
  have kd : decide (flipS v < flipS v2) = decide (v < v2) := by
    rcases key with ⟨a, b⟩ | ⟨a, b⟩
    · rw [decide_eq_true a, decide_eq_true b]
    · rw [decide_eq_false (by omega), decide_eq_false (by omega)]
  clear key
  go_wp2_with fail
  refine (fold_any _ _ h1 h2).mono ?_
  rintro e w2 ⟨rfl, rfl⟩
  go_wp2_with fail
  refine (flip_any _ _ h1 h2).mono ?_
  rintro e w2 ⟨rfl, rfl⟩
  have hsm := fold_small h1 h2
  go_wp2_with fail
  refine (narrow_any _ _ _ h1 h2).mono ?_
  rintro e w2 ⟨rfl, rfl⟩
  go_wp2_with fail
  refine (refNarrow_any _ _ _ h1 h2).mono ?_
  rintro e w2 ⟨rfl, rfl⟩
  generalize narV v size = x
  generalize narB v size = y
  have tx : (x == x) = true := by simp
  have ty : (y == y) = true := by simp
  go_wp2_with fail
  go_ret
  exact ⟨rfl, he1⟩

end Go.Proofs.Ytdndhogpcdhamaa
