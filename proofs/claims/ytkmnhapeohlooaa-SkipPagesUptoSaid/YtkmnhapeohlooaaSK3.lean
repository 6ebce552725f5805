/-
  Layer 18: along a level, and down the levels.
-/
import Derived.Test.YtkmnhapeohlooaaSK2
namespace Go.Proofs.Ytkmnhapeohlooaa
open Go.RowKit
set_option maxRecDepth 100000

section
variable {w : World} {X : Nat → Prop} {base sb H : Nat} {ns : List Nd} {hs : List Int} (h : SL w X base sb ns hs H)
include h

theorem slen_any (hb : ns.length ≤ 17592186044417) : Calls Try.prog 34 #[.pointer (some ⟨sb, 0, none⟩)] w fun e w' => e = .returned (.int .i64 ((ns.length : Int) - 1)) ∧ w = w' := by
  obtain ⟨b, cn, Ah, ch, hS⟩ := h.see
  have hp := h.sk.pos
  obtain ⟨n, hn⟩ : ∃ n, n = ns.length := ⟨_, rfl⟩
  have c0 := hS.c0
  rw [← hn] at c0 hb hp ⊢
  clear hS h hn
  go_enter Try.func34, Try.ntmps34
  go_wp2_with fail
  go_ret
  exact ⟨rfl, rfl⟩

theorem sheight_any : Calls Try.prog 35 #[.pointer (some ⟨sb, 0, none⟩)] w fun e w' => e = .returned (.int .i64 (H : Int)) ∧ w = w' := by
  obtain ⟨b, cn, Ah, ch, hS⟩ := h.see
  have c2 := hS.c2
  clear hS h
  go_enter Try.func35, Try.ntmps35
  go_wp2_with fail
  go_ret
  exact ⟨rfl, rfl⟩

set_option maxHeartbeats 1600000 in
theorem sfollow_any (_hb : ns.length ≤ 17592186044417) (i l : Nat) (A : Option Addr) (m c : Nat) (t : List Nat) (ht : Rd .u8 w A m t) (hu : U8 t) (hl : l < 12) (hi : i < ns.length) (hv : i = 0 ∨ l < hg ns i) (ha : i = 0 ∨ ordT (kb ns i) t < 0) :
    Calls Try.prog 89 #[.pointer (some ⟨sb, 0, none⟩), .int .i64 (i : Int), .int .i64 (l : Int), .slice A m c] w fun e w' => (∃ r : Nat, e = .returned (.int .i64 (r : Int)) ∧ At ns.length (kb ns) (hg ns) l t r) ∧ w = w' := by
  obtain ⟨b, cn, Ah, ch, hS⟩ := h.see
  have c0 := hS.c0
  obtain ⟨cap1, cap2⟩ := hS.cap
  have Hnx := Lib.hid hS.nx
  have Hkey := Lib.hid hS.key
  have Hk := Lib.hid h.keys
  have Hsk := Lib.hid h.sk
  have Ht := Lib.hid ht
  have Hu := Lib.hid hu
  obtain ⟨n, hn⟩ : ∃ n, n = ns.length := ⟨_, rfl⟩
  rw [← hn] at c0 hi cap1 Hnx Hkey Hk Hsk ⊢
  have Hv := Lib.hid hv
  have Ha := Lib.hid ha
  clear hS h hn hv ha ht hu
  go_enter Try.func89, Try.ntmps89
  go_wp2_with fail
  go_loopw [1] (fun v wr => ∃ j : Nat, v = .int .i64 (j : Int) ∧ j < n ∧ Hid (j = 0 ∨ l < hg ns j) ∧ Hid (j = 0 ∨ ordT (kb ns j) t < 0) ∧ wr = w) (fun v _ => restN n (kb ns) (intOf v).toNat)
  case atStart => exact ⟨i, rfl, hi, Hv, Ha, rfl⟩
  case round =>
    obtain ⟨j, rfl, hj, Hjv, Hja, rfl⟩ := hrel
    have n0 := Hnx.out j l hj hl
    have hk := Hsk.out.lk l j hl hj Hjv.out
    obtain ⟨x, hx⟩ : ∃ x, x = nxt ns j l := ⟨_, rfl⟩
    rw [← hx] at n0 hk
    have Hx := Lib.hid hx
    have HK := Lib.hid hk
    have hxl := hk.lt
    clear hx hk
    by_cases x0 : x = 0
    · subst x0
      go_wp2_with fail
      go_ret
      exact ⟨⟨j, rfl, at_stop Hsk.out hl hj Hjv.out Hja.out (.inl Hx.out.symm)⟩, rfl⟩
    · have b0 : ((x : Int) == 0) = false := by simp; omega
      have k0 := Hkey.out x hxl
      have hkx := Hk.out x (by omega) hxl
      have CC := Lib.hid (compareT_any (nat_ ns x).key.A A (nat_ ns x).key.body.length (nat_ ns x).key.c m c (nat_ ns x).key.body t wr hkx.rd Ht.out hkx.u8 Hu.out)
      obtain ⟨kA, hkA⟩ : ∃ kA, kA = (nat_ ns x).key.A := ⟨_, rfl⟩
      obtain ⟨kn, hkn⟩ : ∃ kn, kn = (nat_ ns x).key.body.length := ⟨_, rfl⟩
      obtain ⟨kc, hkc⟩ : ∃ kc, kc = (nat_ ns x).key.c := ⟨_, rfl⟩
      have HO : Hid (ordT (nat_ ns x).key.body t = ordT (kb ns x) t) := Lib.hid rfl
      unfold Sl.v at k0
      rw [← hkA, ← hkn, ← hkc] at k0
      rw [← hkA, ← hkn, ← hkc, HO.out] at CC
      obtain ⟨O, hO⟩ : ∃ O, O = ordT (kb ns x) t := ⟨_, rfl⟩
      rw [← hO] at CC
      have HO2 := Lib.hid hO
      clear hkx hkA hkn hkc HO hO
      by_cases q : 0 ≤ O
      · have d : decide ((0 : Int) ≤ O) = true := decide_eq_true q
        have hq : Hid (¬ ordT (kb ns x) t < 0) := Lib.hid (by rw [← HO2.out]; omega)
        clear q
        go_wp2_with fail
        refine CC.out.mono ?_
        rintro e w1 ⟨rfl, rfl⟩
        go_wp2_with fail
        go_ret
        exact ⟨⟨j, rfl, at_stop Hsk.out hl hj Hjv.out Hja.out (.inr (by rw [← Hx.out]; exact Int.not_lt.2 hq.out))⟩, rfl⟩
      · have d : decide ((0 : Int) ≤ O) = false := decide_eq_false q
        have hq : Hid (ordT (kb ns x) t < 0) := Lib.hid (by rw [← HO2.out]; omega)
        clear q
        go_wp2_with fail
        refine CC.out.mono ?_
        rintro e w1 ⟨rfl, rfl⟩
        go_wp2_with fail
        go_roundw
        case rel => exact ⟨x, rfl, hxl, Lib.hid (.inr (HK.out.bf x0).1), Lib.hid (.inr hq.out), (by trivial)⟩
        case measure =>
          simp only [intOf, Int.toNat_natCast]
          exact rest_lt hxl x0 (HK.out.bf x0).2
end

end Go.Proofs.Ytkmnhapeohlooaa
