/-
  Layer 9: Encode, the program's and the document's.
-/
import Derived.Test.YtoefhblojoaikaaP9b
import Derived.Test.YtoefhblojoaikaaCTp
import Derived.Test.YtoefhblojoaikaaFU
import Derived.Test.YtoefhblojoaikaaV3s
namespace Go.Proofs.Ytoefhblojoaikaa
open Go.RowKit

/-- Numbers packed. -/
def wid (vs : List Int) : Nat := wdt (dst (lo vs) vs)
def encP (vs : List Int) : List Nat := if vs.length = 0 then vput 0 else vput vs.length ++ (vput (foldS (lo vs)).toNat ++ ([wid vs] ++ packB (wid vs) (dst (lo vs) vs)))
def encode9 (vs : List Int) : List Nat × Int := if 4096 < vs.length then ([], 4) else (encP vs, 0)
def Enc9Post (vs : List Int) (w : World) (e : Ending) (w' : World) : Prop :=
  ∃ A' c', e = .returned (.tuple #[.slice A' (encode9 vs).1.length c', .int .i64 (encode9 vs).2]) ∧ Own .u8 5 w' w.heap.size A' c' (encode9 vs).1 ∧ Ext w w'

theorem wid_le {vs : List Int} (h : R64s vs) (hn : 0 < vs.length) : wid vs ≤ 64 := wdt_le.2 (U64_wd.1 (dst_u64 h (h _ (lo_mem hn))))
theorem packB_len (wd : Nat) (vs : List Nat) : (packB wd vs).length = (wd * vs.length + 7) / 8 := upk_len ..
theorem pack_dst {vs : List Int} (h : R64s vs) (hn : 0 < vs.length) (h4 : vs.length ≤ 4096) : packE (wid vs) (dst (lo vs) vs) = 0 ∧ packL (wid vs) (dst (lo vs) vs) = packB (wid vs) (dst (lo vs) vs) := by
  have h1 := wid_le h hn
  have hE : packE (wid vs) (dst (lo vs) vs) = 0 := packE_ok (by omega) (by rw [dst_len]; omega) (by show ¬ ((wid vs : Nat) : Int) < ((wid vs : Nat) : Int); omega)
  exact ⟨hE, by unfold packL; rw [if_pos hE]; rfl⟩

theorem RdSS.four (e : TypeId) (w : World) {b n c n2 c2 n3 c3 n4 c4 : Nat} {A A2 A3 A4 : Option Addr} {xs ys zs us : List Nat} (hb : w.heap.size = b) (h : Rd .u8 w A n xs) (h2 : Rd .u8 w A2 n2 ys) (h3 : Rd .u8 w A3 n3 zs) (h4 : Rd .u8 w A4 n4 us) :
    RdSS (w.alloc (.cells #[.slice A n c, .slice A2 n2 c2, .slice A3 n3 c3, .slice A4 n4 c4] e)) (some ⟨b, 0, none⟩) 4 [xs, ys, zs, us] := by
  subst hb
  exact RdSS.lit e w [(A, n, c), (A2, n2, c2), (A3, n3, c3), (A4, n4, c4)] [xs, ys, zs, us] rfl (fun j hj => by
    have hj2 : j < 4 := hj
    rcases (show j = 0 ∨ j = 1 ∨ j = 2 ∨ j = 3 by omega) with rfl | rfl | rfl | rfl
    · exact h
    · exact h2
    · exact h3
    · exact h4)

set_option maxHeartbeats 3200000 in
theorem pencode_any (A : Option Addr) (n c : Nat) (vs : List Int) (w : World) (hx : RdG shZ w A n vs) (hv : R64s vs) :
    Calls Try.prog 32 #[.slice A n c] w (Enc9Post vs w) := by
  have hl := hx.len
  unfold Enc9Post
  by_cases hbig : 4096 < n
  · rw [show encode9 vs = ([], 4) by unfold encode9; rw [if_pos (by omega)]]
    clear hl
    go_enter Try.func32, Try.ntmps32
    go_wp2_with fail
    go_ret2
    exact ⟨none, 0, rfl, Own.nil _ _ _ _, Ext.refl w⟩
  · have hd4 : decide ((4096 : Int) < (n : Int)) = false := decide_eq_false (by omega)
    rw [show encode9 vs = (encP vs, 0) by unfold encode9; rw [if_neg (by omega)]]
    rcases Nat.eq_zero_or_pos n with h0 | hp
    · subst h0
      have hP : encP vs = vput 0 := by unfold encP; rw [if_pos hl]
      rw [hP]
      have HV := Lib.hid hP
      clear hl hP
      go_enter Try.func32, Try.ntmps32
      go_wp2_with fail
      refine (put_any 0 _ (by omega)).mono ?_
      rintro e w2 ⟨A2, c2, rfl, hown2, he2⟩
      go_wp2_with fail
      go_ret2
      exact ⟨A2, c2, rfl, hown2, he2⟩
    · have hP : encP vs = vput n ++ (vput (foldS (lo vs)).toNat ++ ([wid vs] ++ packB (wid vs) (dst (lo vs) vs))) := by unfold encP; rw [if_neg (by omega), hl]
      rw [hP]
      have hlm := hv _ (lo_mem (show 0 < vs.length by omega))
      have hle := lo_le (xs := vs)
      have hw64 := wid_le hv (show 0 < vs.length by omega)
      obtain ⟨hpE, hpL⟩ := pack_dst hv (show 0 < vs.length by omega) (by omega)
      have hpl := packB_len (wid vs) (dst (lo vs) vs)
      rw [dst_len, hl] at hpl
      have hdu := dst_u64 hv hlm
      have hdl := (dst_len (lo vs) vs).trans hl
      obtain ⟨f0, f1⟩ := fold_range hlm
      obtain ⟨u, hu⟩ : ∃ u : Nat, foldS (lo vs) = (u : Int) := ⟨(foldS (lo vs)).toNat, by omega⟩
      rw [hu, Int.toNat_natCast]
      have hMin : Hid (∀ W, Ext w W → Calls Try.prog 51 #[.slice A n c] W fun e w' => e = .returned (.int .i64 (lo vs)) ∧ W = w') := Lib.hid fun W hW => minZ_any A n c vs W (hx.ext hW) hp (by omega)
      have hDis : Hid (∀ W, Ext w W → Calls Try.prog 52 #[.int .i64 (lo vs), .slice A n c] W fun e w' => ∃ A' c', e = .returned (.slice A' n c') ∧ Own .u64 58 w' W.heap.size A' c' (dst (lo vs) vs) ∧ Ext W w') := Lib.hid fun W hW => distances_any (lo vs) A n c vs W (hx.ext hW) hv hlm hle (by omega)
      have hPk : Hid (∀ (B : Option Addr) (cb : Nat) W, Rd .u64 W B n (dst (lo vs) vs) → Calls Try.prog 54 #[.int .i64 (wid vs : Nat), .slice B n cb] W fun e w' => ∃ A' c', e = .returned (.tuple #[.slice A' (packB (wid vs) (dst (lo vs) vs)).length c', .int .i64 0]) ∧ Own .u8 5 w' W.heap.size A' c' (packB (wid vs) (dst (lo vs) vs)) ∧ Ext W w') := Lib.hid fun B cb W h => by
        have := pack_any B n cb (wid vs) (dst (lo vs) vs) W h hdu (by omega)
        unfold PackPost at this
        rw [hpE, hpL] at this
        exact this
      have hWd : Hid (∀ (B : Option Addr) (cb : Nat) W, Rd .u64 W B n (dst (lo vs) vs) → Calls Try.prog 53 #[.slice B n cb] W fun e w' => e = .returned (.int .i64 (wid vs : Nat)) ∧ W = w') := Lib.hid fun B cb W h => width_any B n cb (dst (lo vs) vs) W h hdu (by omega)
      have hFo : Hid (∀ W, Calls Try.prog 41 #[.int .i64 (lo vs)] W fun e w' => e = .returned (.int .u64 (u : Int)) ∧ W = w') := Lib.hid fun W => by rw [← hu]; exact fold_any _ W hlm.1 hlm.2
      obtain ⟨l, hle'⟩ : ∃ l, l = lo vs := ⟨_, rfl⟩
      obtain ⟨d, hde⟩ : ∃ d, d = wid vs := ⟨_, rfl⟩
      obtain ⟨D, hDe⟩ : ∃ D, D = dst (lo vs) vs := ⟨_, rfl⟩
      rw [← hDe, ← hde] at hPk hpl
      rw [← hDe] at hDis hWd hdl
      rw [← hde] at hWd hw64
      rw [← hDe, ← hde]
      rw [← hle'] at hMin hDis hFo
      obtain ⟨Q, hQ⟩ : ∃ Q, Q = packB d D := ⟨_, rfl⟩
      rw [← hQ] at hPk hpl ⊢
      obtain ⟨q, hq⟩ : ∃ q, q = Q.length := ⟨_, rfl⟩
      rw [← hq] at hPk hpl
      have Hq := Lib.hid hq.symm
      have Hdl := Lib.hid hdl
      have hdn : d * n ≤ 64 * 4096 := Nat.mul_le_mul hw64 (by omega)
      have hq4 : q ≤ 40000 := by rw [hpl]; omega
      have hvn := vsize_le (u := n) (by omega)
      have hvu := vsize_le (u := u) (by omega)
      rw [← vput_len] at hvn hvu
      obtain ⟨V1, hV1⟩ : ∃ V, V = vput n := ⟨_, rfl⟩
      obtain ⟨V2, hV2⟩ : ∃ V, V = vput u := ⟨_, rfl⟩
      have HV1 := Lib.hid hV1
      have HV2 := Lib.hid hV2
      rw [← hV1] at hvn ⊢
      rw [← hV2] at hvu ⊢
      have hfl : ([V1, V2, [d], Q] : List (List Nat)).flatten = V1 ++ (V2 ++ ([d] ++ Q)) := by simp
      have hfl2 : ([V1, V2, [d], Q] : List (List Nat)).flatten.length ≤ 180000000000000 := by rw [hfl]; simp; omega
      obtain ⟨L, hL⟩ : ∃ L, L = V1 ++ (V2 ++ ([d] ++ Q)) := ⟨_, rfl⟩
      rw [← hL] at hfl ⊢
      have Hfl := Lib.hid hfl
      have hn4 : n ≤ 4096 := by omega
      have Hu64 := Lib.hid (show u < 18446744073709551616 by omega)
      have hd8 : IntKind.u8.wrap (d : Int) = (d : Int) := IntWalk.u8_in _ (by omega)
      have hn0 : ((n : Int) == 0) = false := by rw [beq_eq_false_iff_ne]; omega
      have hwn : IntKind.u64.wrap (n : Int) = (n : Int) := IntWalk.u64_in _ (by omega)
      clear hl hlm hle hpE hpL hdu hdl f0 f1 hu hle' hde hDe hQ hq hpl hdn hV1 hV2 hfl hL hP hv hbig
      go_enter Try.func32, Try.ntmps32
      go_wp2_with fail
      refine (put_any n _ (by omega)).mono ?_
      rintro e w1 ⟨A1, c1, rfl, hown1, he1⟩
      rw [← HV1.out] at hown1 ⊢
      have hr1 := hown1.rd
      clear hown1
      go_wp2_with fail
      refine (hMin.out _ he1).mono ?_
      rintro e w2 ⟨rfl, rfl⟩
      go_wp2_with fail
      refine (hDis.out _ he1).mono ?_
      rintro e w2 ⟨A2, c2, rfl, hown2, he2⟩
      have hr2 := hown2.rd' Hdl.out
      clear hown2
      go_wp2_with fail
      refine (hWd.out _ _ _ hr2).mono ?_
      rintro e w3 ⟨rfl, rfl⟩
      go_wp2_with fail
      refine (hPk.out _ _ _ hr2).mono ?_
      rintro e w3 ⟨A3, c3, rfl, hown3, he3⟩
      have hr3 := hown3.rd' Hq.out
      clear hown3
      go_wp2_with fail
      refine (hFo.out _).mono ?_
      rintro e w4 ⟨rfl, rfl⟩
      go_wp2_with fail
      refine (put_any u _ Hu64.out).mono ?_
      rintro e w4 ⟨A4, c4, rfl, hown4, he4⟩
      rw [← HV2.out] at hown4 ⊢
      have hr4 := hown4.rd
      clear hown4
      have hX : ∀ o, Ext w4 (w4.alloc o) := fun o => (Ext.refl w4).alloc o
      go_wp2_with fail
      refine (concat_any _ 4 4 [V1, V2, [d], Q] _ (RdSS.four 34 _ (by simp) (((((hr1.ext he2).ext he3).ext he4).ext (hX _))) (hr4.ext (hX _)) (Rd.lit_at .u8 5 w4 [d] rfl rfl) ((hr3.ext he4).ext (hX _))) hfl2 (by omega)).mono ?_
      rintro e w5 ⟨A5, c5, rfl, hown5, he5⟩
      rw [Hfl.out] at hown5 ⊢
      have hE5 : Ext w w5 := (((he1.trans he2).trans he3).trans he4).trans (((hX _).alloc _).trans he5)
      have hb5 := (((he1.trans he2).trans he3).trans he4).size
      go_wp2_with fail
      go_ret2
      exact ⟨A5, c5, rfl, hown5.mono (by simp; omega), hE5⟩

end Go.Proofs.Ytoefhblojoaikaa
