import Derived.Test.YtjckfbpdnpehcaaA2
namespace Go.Proofs.Ytjckfbpdnpehcaa
open Go.RowKit

/-- What Spoil makes of a byte. -/
def spl (x : Nat) : Nat := x ^^^ 90
theorem spl_lt {x : Nat} (h : x < 256) : spl x < 256 := Nat.xor_lt_two_pow (n := 8) h (by omega)
theorem spl_bits {x : Nat} (h : x < 256) : bits .xor .u8 (x : Int) 90 = (spl x : Int) := u8_xor_nat x 90 h (by omega)
theorem U8.spl {xs : List Nat} (h : U8 xs) : U8 (xs.map spl) := by
  intro x hx
  obtain ⟨y, hy, rfl⟩ := List.mem_map.1 hx
  exact spl_lt (h y hy)

set_option maxHeartbeats 400000 in
theorem turned_any (A A' : Option Addr) (n c n' c' : Nat) (xs ys : List Nat) (w : World) (hx : Rd .u8 w A n xs) (hy : Rd .u8 w A' n' ys) (hby : U8 ys) (hn : n ≤ 281474976710656) (hn' : n' ≤ 281474976710656) :
    Calls Try.prog 76 #[.slice A n c, .slice A' n' c'] w fun e w' => e = .returned (.bool (decide (xs = ys.map spl))) ∧ ∃ q, w' = w.drewN q := by
  have hl := hx.len
  have hl' := hy.len
  have Hl := Lib.hid hl
  have Hl' := Lib.hid hl'
  clear hl hl'
  by_cases hd : n = n'
  · subst hd
    go_enter Try.func76, Try.ntmps76
    go_wp2
    go_loopw [5] (fun i wr => ∃ j q : Nat, j ≤ n ∧ i = .int .i64 j ∧ wr = w.drewN q ∧ ∀ t, t < j → xs.getD t 0 = (ys.map spl).getD t 0) (fun i _ => n - (intOf i).toNat)
    case atStart => exact ⟨0, 0, Nat.zero_le _, rfl, rfl, fun t ht => absurd ht (by omega)⟩
    case round =>
      obtain ⟨j, q, hj, rfl, rfl, hsame⟩ := hrel
      have Hs := Lib.hid hsame
      clear hsame
      by_cases hlt : j < n
      · obtain ⟨b, o, rfl, hbl, hc⟩ := hx.at_ hlt
        obtain ⟨b', o', rfl, hbl', hc'⟩ := hy.at_ hlt
        have hvb := hby.at_ j
        have hsp : (ys.map spl).getD j 0 = spl (ys.getD j 0) := by simp [List.getD, show j < ys.length by have := Hl'.out; omega]
        obtain ⟨u, hu⟩ : ∃ u, u = xs.getD j 0 := ⟨_, rfl⟩
        obtain ⟨v, hv⟩ : ∃ v, v = ys.getD j 0 := ⟨_, rfl⟩
        rw [← hu] at hc
        rw [← hv] at hc' hsp hvb
        have hxor := spl_bits hvb
        have Hu := Lib.hid hu
        have Hsp := Lib.hid hsp
        clear hu hv hsp
        have hji : (j : Int) < (n : Int) := by omega
        by_cases huv : u = spl v
        · have hne : ((u : Int) != (spl v : Int)) = false := by simp [huv]
          have Huv := Lib.hid huv
          clear huv
          go_wp2_with fail
          go_quiet (fail)
          go_wp2
          go_roundw
          case rel => exact ⟨j + 1, _, by omega, by go_num, rfl, fun t ht => by
            by_cases h : t < j
            · exact Hs.out t h
            · obtain rfl : t = j := by omega
              exact Hu.out.symm.trans (Huv.out.trans Hsp.out.symm)⟩
          case measure => simp [intOf]; omega
        · have hne : ((u : Int) != (spl v : Int)) = true := by rw [bne_iff_ne]; omega
          go_wp2_with fail
          go_quiet (fail)
          go_wp2
          go_ret
          exact ⟨by rw [decide_eq_false (by rintro rfl; exact huv (Hu.out.trans Hsp.out))]; rfl, _, World.drewN_drewN ..⟩
      · obtain rfl : j = n := by omega
        go_wp2
        go_ret
        exact ⟨by rw [decide_eq_true (eq_of_getD (Hl.out.trans (by rw [List.length_map]; exact Hl'.out.symm)) fun t ht => Hs.out t (Hl.out ▸ ht))]; rfl, q, rfl⟩
  · have hb : ((n : Int) != (n' : Int)) = true := by rw [bne_iff_ne]; omega
    go_enter Try.func76, Try.ntmps76
    go_wp2
    go_ret
    exact ⟨by rw [decide_eq_false (by rintro rfl; exact hd (by rw [← Hl.out, ← Hl'.out, List.length_map]))]; rfl, 0, rfl⟩

set_option maxHeartbeats 800000 in
theorem intact_any (A A' : Option Addr) (n c n' c' : Nat) (xs ys : List Nat) (w : World) (hx : Rd .u8 w A n xs) (hy : Rd .u8 w A' n' ys) (hn : n ≤ 281474976710656) (hn' : n' ≤ 281474976710656) :
    Calls Try.prog 34 #[.slice A n c, .slice A' n' c'] w fun e w' => e = .returned (.bool (decide (xs = ys ++ marks 64))) ∧ ∃ q, w' = w.drewN q := by
  have hl := hx.len
  have hl' := hy.len
  have Hl := Lib.hid hl
  have Hl' := Lib.hid hl'
  clear hl hl'
  by_cases hd : n = n' + 64
  · subst hd
    have hb0 : (((n' + 64 : Nat) : Int) != (n' : Int) + 64) = false := by simp
    go_enter Try.func34, Try.ntmps34
    go_wp2
    go_loopw [5] (fun i wr => ∃ j q : Nat, j ≤ n' ∧ i = .int .i64 j ∧ wr = w.drewN q ∧ ∀ t, t < j → xs.getD t 0 = (ys ++ marks 64).getD t 0) (fun i _ => n' - (intOf i).toNat)
    case atStart => exact ⟨0, 0, Nat.zero_le _, rfl, rfl, fun t ht => absurd ht (by omega)⟩
    case round =>
      obtain ⟨j, q, hj, rfl, rfl, hsame⟩ := hrel
      have Hs := Lib.hid hsame
      clear hsame
      by_cases hlt : j < n'
      · obtain ⟨b, o, rfl, hbl, hc⟩ := hx.at_ (show j < n' + 64 by omega)
        obtain ⟨b', o', rfl, hbl', hc'⟩ := hy.at_ hlt
        have hap : (ys ++ marks 64).getD j 0 = ys.getD j 0 := by simp [List.getD, List.getElem?_append_left (show j < ys.length by have := Hl'.out; omega)]
        obtain ⟨u, hu⟩ : ∃ u, u = xs.getD j 0 := ⟨_, rfl⟩
        obtain ⟨v, hv⟩ : ∃ v, v = ys.getD j 0 := ⟨_, rfl⟩
        rw [← hu] at hc
        rw [← hv] at hc' hap
        have Hu := Lib.hid hu
        have Hap := Lib.hid hap
        clear hu hv hap
        have hji : (j : Int) < (n' : Int) := by omega
        by_cases huv : u = v
        · have hne : ((u : Int) != (v : Int)) = false := by simp [huv]
          have Huv := Lib.hid huv
          clear huv
          go_wp2_with fail
          go_quiet (fail)
          go_wp2
          go_roundw
          case rel => exact ⟨j + 1, _, by omega, by go_num, rfl, fun t ht => by
            by_cases h : t < j
            · exact Hs.out t h
            · obtain rfl : t = j := by omega
              exact Hu.out.symm.trans (Huv.out.trans Hap.out.symm)⟩
          case measure => simp [intOf]; omega
        · have hne : ((u : Int) != (v : Int)) = true := by rw [bne_iff_ne]; omega
          go_wp2_with fail
          go_quiet (fail)
          go_wp2
          go_ret
          exact ⟨by rw [decide_eq_false (by rintro rfl; exact huv (Hu.out.trans Hap.out))]; rfl, _, World.drewN_drewN ..⟩
      · obtain rfl : j = n' := by omega
        go_wp2
        have Hs2 : Hid (∀ t, t < j + 0 → xs.getD t 0 = (ys ++ marks 64).getD t 0) := Hs.out
        clear Hs hlt hj
        go_loopw [6] (fun i wr => ∃ i2 q : Nat, i2 ≤ 64 ∧ i = .int .i64 i2 ∧ wr = w.drewN q ∧ Hid (∀ t, t < j + i2 → xs.getD t 0 = (ys ++ marks 64).getD t 0)) (fun i _ => 64 - (intOf i).toNat)
        case atStart => exact ⟨0, q, Nat.zero_le _, rfl, rfl, Hs2⟩
        case round =>
          clear Hs2
          obtain ⟨i2, q, hj, rfl, rfl, Hs⟩ := hrel
          by_cases hlt : i2 < 64
          · obtain ⟨b, o, rfl, hbl, hc⟩ := hx.at_ (show j + i2 < j + 64 by omega)
            have hap : (ys ++ marks 64).getD (j + i2) 0 = 192 + i2 % 7 := by
              rw [List.getD, List.getElem?_append_right (by have := Hl'.out; omega), Hl'.out, Nat.add_sub_cancel_left]
              exact marks_at hlt
            obtain ⟨u, hu⟩ : ∃ u, u = xs.getD (j + i2) 0 := ⟨_, rfl⟩
            rw [← hu] at hc
            have Hu := Lib.hid hu
            have Hap := Lib.hid hap
            clear hu hap
            have hji : (i2 : Int) < 64 := by omega
            by_cases huv : u = 192 + i2 % 7
            · have hne : ((u : Int) != 192 + (i2 : Int) % 7) = false := by simp; omega
              have Huv := Lib.hid huv
              clear huv
              go_wp2_with fail
              go_wp2
              go_roundw
              case rel => exact ⟨i2 + 1, _, by omega, by go_num, rfl, fun t ht => by
                by_cases h : t < j + i2
                · exact Hs.out t h
                · obtain rfl : t = j + i2 := by omega
                  exact Hu.out.symm.trans (Huv.out.trans Hap.out.symm)⟩
              case measure => simp [intOf]; omega
            · have hne : ((u : Int) != 192 + (i2 : Int) % 7) = true := by rw [bne_iff_ne]; omega
              go_wp2_with fail
              go_wp2
              go_ret
              exact ⟨by rw [decide_eq_false (by rintro rfl; exact huv (Hu.out.trans Hap.out))]; rfl, _, rfl⟩
          · obtain rfl : i2 = 64 := by omega
            go_wp2
            go_ret
            exact ⟨by rw [decide_eq_true (eq_of_getD (by rw [Hl.out, List.length_append, marks_len, Hl'.out]) fun t ht => Hs.out t (Hl.out ▸ ht))]; rfl, _, rfl⟩
  · have hb : ((n : Int) != (n' : Int) + 64) = true := by rw [bne_iff_ne]; omega
    go_enter Try.func34, Try.ntmps34
    go_wp2
    go_ret
    exact ⟨by rw [decide_eq_false (by rintro rfl; exact hd (by rw [← Hl.out, ← Hl'.out, List.length_append, marks_len]))]; rfl, 0, rfl⟩

theorem intact_yes {A A' : Option Addr} {n c n' c' : Nat} {ys : List Nat} {w : World} (hx : Rd .u8 w A n (ys ++ marks 64)) (hy : Rd .u8 w A' n' ys) (hn : n ≤ 281474976710656) (hn' : n' ≤ 281474976710656) :
    Calls Try.prog 34 #[.slice A n c, .slice A' n' c'] w fun e w' => e = .returned (.bool true) ∧ ∃ q, w' = w.drewN q :=
  (intact_any A A' n c n' c' _ ys w hx hy hn hn').mono fun e w' ⟨h1, h2⟩ => ⟨by rw [h1, decide_eq_true rfl], h2⟩

end Go.Proofs.Ytjckfbpdnpehcaa
