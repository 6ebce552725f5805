/-
  Layer 13: BloomKeeps.
-/
import Derived.Test.YtgmjpilinhmjoaaQ12
namespace Go.Proofs.Ytgmjpilinhmjoaa
open Go.RowKit
set_option maxRecDepth 100000

theorem TxI.far {w : World} {s : Sl} (h : TxI w s) {r : Nat} (hr : w.heap.size ≤ r) : 0 < s.body.length → ∀ a, s.A = some a → a.block ≠ r := fun hn a ha => by
  have := h.rd.lt hn a ha
  omega

set_option maxHeartbeats 8000000 in
theorem walk_BloomKeeps (n : Int) (A1 : Option Addr) (n1 c1 : Nat) (ss1 : List Sl) (A2 : Option Addr) (n2 c2 : Nat) (ss2 : List Sl) (A3 : Option Addr) (n3 c3 : Nat) (ss3 : List Sl) (A4 : Option Addr) (n4 c4 : Nat) (key : List Nat) (w : World)
    (h1 : -9223372036854775808 ≤ n) (h2 : n ≤ 9223372036854775807) (hx1 : TxL w A1 n1 ss1) (hn1 : n1 ≤ 5900000000000) (hx2 : TxL w A2 n2 ss2) (hn2 : n2 ≤ 5900000000000) (hx3 : TxL w A3 n3 ss3) (hn3 : n3 ≤ 5900000000000) (hy : Rd .u8 w A4 n4 key) (hu : U8 key) (hn4 : n4 * 1 ≤ 140737488351232) :
    Calls Try.prog 5 #[.int .i64 n, .slice A1 n1 c1, .slice A2 n2 c2, .slice A3 n3 c3, .slice A4 n4 c4] w fun e w' => e = .returned (.bool true) ∧ Ext w w' := by
  have Hx1 := Lib.hid hx1
  have Hx2 := Lib.hid hx2
  have Hx3 := Lib.hid hx3
  have Hy := Lib.hid hy
  have hkl := hy.len
  have hklt : 0 < n4 → ∀ a, A4 = some a → a.block < w.heap.size := fun h => hy.lt h
  have Hkl := Lib.hid hkl
  have Hklt := Lib.hid hklt
  have hlen2 := hx2.len
  have hlen3 := hx3.len
  have Hlen2 := Lib.hid hlen2
  have Hlen3 := Lib.hid hlen3
  clear hx1 hx2 hx3 hy hkl hklt hlen2 hlen3
  -- the filters' bytes
  obtain ⟨F1, hF1⟩ : ∃ F1, F1 = addAll (zeros n) (bodies ss1) := ⟨_, rfl⟩
  obtain ⟨O1, hO1⟩ : ∃ O1, O1 = addAll (zeros n) (bodies ss3) := ⟨_, rfl⟩
  obtain ⟨F2, hF2⟩ : ∃ F2, F2 = addF F1 key := ⟨_, rfl⟩
  obtain ⟨F3, hF3⟩ : ∃ F3, F3 = addAll F2 (bodies ss2) := ⟨_, rfl⟩
  obtain ⟨F4, hF4⟩ : ∃ F4, F4 = mergeF F3 O1 := ⟨_, rfl⟩
  obtain ⟨O2, hO2⟩ : ∃ O2, O2 = mergeF O1 F4 := ⟨_, rfl⟩
  have hzl := zeros_len n
  have hzlo := newLen_lo n
  have lF1 : F1.length = newLen n := by rw [hF1, addAll_len, hzl]
  have lO1 : O1.length = newLen n := by rw [hO1, addAll_len, hzl]
  have lF2 : F2.length = newLen n := by rw [hF2, addF_len, lF1]
  have lF3 : F3.length = newLen n := by rw [hF3, addAll_len, lF2]
  have lF4 : F4.length = newLen n := by rw [hF4, mergeF_len (by rw [lF3, lO1]), lF3]
  have hk2 : hasF F2 key = true := by rw [hF2]; exact has_addF (by omega) _
  have hs23 : Sub F2 F3 := by rw [hF3]; exact sub_addAll _ (by omega)
  have hs34 : Sub F3 F4 := by rw [hF4]; exact sub_mergeL (by rw [lF3, lO1])
  have hsO4 : Sub O1 F4 := by rw [hF4]; exact sub_mergeR (by rw [lF3, lO1])
  have hs42 : Sub F4 O2 := by rw [hO2]; exact sub_mergeR (by rw [lO1, lF4])
  have hk4 : hasF F4 key = true := (hs23.trans hs34).has hk2
  have hkO : hasF O2 key = true := hs42.has hk4
  have hko : ∀ k ∈ bodies ss3, hasF F4 k = true := fun k hk => hsO4.has (by rw [hO1]; exact has_addAll _ (by rw [hzl]; omega) k hk)
  have e34 : F3.length = O1.length := by rw [lF3, lO1]
  have e14 : O1.length = F4.length := by rw [lO1, lF4]
  have HF1 := Lib.hid hF1
  have HO1 := Lib.hid hO1
  have HF2 := Lib.hid hF2
  have HF3 := Lib.hid hF3
  have HF4 := Lib.hid hF4
  have HO2 := Lib.hid hO2
  have Hk4 := Lib.hid hk4
  have HkO := Lib.hid hkO
  have Hko := Lib.hid hko
  have E34 := Lib.hid e34
  have E14 := Lib.hid e14
  clear hF1 hO1 hF2 hF3 hF4 hO2 hzl hzlo lF1 lO1 lF2 lF3 lF4 hk2 hs23 hs34 hsO4 hs42 hk4 hkO hko e34 e14
  go_enter Try.func5, Try.ntmps5
  go_wp2_with fail
  refine (alive13 w).mono ?_
  rintro e w0 ⟨rfl, he0⟩
  go_wp2_with fail
  refine (made_any n A1 n1 c1 ss1 w0 h1 h2 (Hx1.out.ext he0) hn1).mono ?_
  rintro e w1 ⟨g, r, rfl, hf, he1⟩
  rw [← HF1.out] at hf
  have hfr := hf.rlt
  have hfg := hf.glt
  have hfb := hf.big
  go_wp2_with fail
  refine (made_any n A3 n3 c3 ss3 w1 h1 h2 (Hx3.out.ext (he0.trans he1)) hn3).mono ?_
  rintro e w2 ⟨g2, r2, rfl, ho, he2⟩
  rw [← HO1.out] at ho
  have hor := ho.rlt
  have hob := ho.big
  have hs0 := he0.size
  have hE2 : Ext w w2 := (he0.trans he1).trans he2
  have hf2 := hf.ext he2
  go_wp2_with fail
  refine (fadd_any _ g r F1 _ 1 1 [key] _ (hf2.ext ((Ext.refl _).alloc _)) (fun W hW => rdss_one 23 (Hy.out.ext hE2) (fun hp a ha => by have := Hklt.out hp a ha; omega) (by omega) rfl W hW) (one_u8s hu) (by intro xs hxs; simp at hxs; subst hxs; have := Hkl.out; omega) (by decide)).mono ?_
  rintro e w3 ⟨rfl, hf3, hg3⟩
  rw [addAll_one, ← HF2.out] at hf3
  have ho3 : Fil w3 w1.heap.size g2 r2 O1 := (ho.ext ((Ext.refl _).alloc _)).grown hg3 (fun e => by have e2 : g2 = r := Option.some.inj e; omega) (fun e => by have e2 : r2 = r := Option.some.inj e; omega)
  have hE3 : Ext w w3 := grownBy_ext (hE2.alloc _) hg3 (fun x e => by have e2 : r = x := Option.some.inj e; omega)
  go_wp2_with fail
  have hd1 : g2 ≠ r := by omega
  have hd2 : r2 ≠ r := by omega
  have hd3 : g ≠ r2 := by omega
  have hwr : w.heap.size ≤ r := by omega
  have hwr2 : w.heap.size ≤ r2 := by have := he1.size; omega
  clear hf hf2 ho hg3 hfr hfg hor hob
  go_loopw [39] (fun i wr => ∃ j : Nat, j ≤ n2 ∧ i = .int .i64 (j : Int) ∧ Fil wr w0.heap.size g r (addAll F2 ((bodies ss2).take j)) ∧ Fil wr w1.heap.size g2 r2 O1 ∧ Ext w wr ∧ r < wr.heap.size) (fun i _ => n2 - (intOf i).toNat)
  case atStart => exact ⟨0, Nat.zero_le _, rfl, hf3, ho3, hE3, hf3.rlt.2⟩
  case round =>
    clear hf3 ho3 hE3
    obtain ⟨j, hj, rfl, hF, hO, hE, hr⟩ := hrel
    by_cases hlt : j < n2
    · obtain ⟨b, o, s, rfl, hs, hcell, hti⟩ := (Hx2.out.ext hE).at_ hlt
      have hti0 := Hx2.out.each s (List.mem_of_getElem? hs)
      have hbl : (bodies ss2).length = n2 := by rw [bodies_len, Hlen2.out]
      have hnext : addAll F2 ((bodies ss2).take (j + 1)) = addF (addAll F2 ((bodies ss2).take j)) s.body := by
        rw [take_nextL _ _ (by omega), addAll_snoc, bodies_get hs]
      have hl := hti.len
      have hus := hti.u8
      have HF := Lib.hid hF
      have HO := Lib.hid hO
      have HE := Lib.hid hE
      have Hnext := Lib.hid hnext
      have Hti := Lib.hid hti
      have Hti0 := Lib.hid hti0
      clear hF hO hE hnext hti hti0 hbl hs
      go_wp2_with fail
      refine (fadd_any _ g r _ _ 1 1 [s.body] _ (HF.out.ext ((Ext.refl _).alloc _)) (fun W hW => rdss_one 23 Hti.out.rd (Hti0.out.far hwr) hr rfl W hW) (one_u8s hus) (by intro xs hxs; simp at hxs; subst hxs; omega) (by decide)).mono ?_
      rintro e w4 ⟨rfl, hf4, hg4⟩
      rw [addAll_one, ← Hnext.out] at hf4
      have ho4 : Fil w4 w1.heap.size g2 r2 O1 := (HO.out.ext ((Ext.refl _).alloc _)).grown hg4 (fun e => hd1 (Option.some.inj e)) (fun e => hd2 (Option.some.inj e))
      have hE4 : Ext w w4 := grownBy_ext (HE.out.alloc _) hg4 (fun x e => by have e2 : r = x := Option.some.inj e; omega)
      have hr4 := hf4.rlt.2
      go_wp2_with fail
      go_roundw
      case rel => exact ⟨j + 1, hlt, by go_num, hf4, ho4, hE4, hr4⟩
      case measure => simp [intOf]; omega
    · obtain rfl : j = n2 := by omega
      rw [List.take_of_length_le (by rw [bodies_len, Hlen2.out]; exact Nat.le_refl _), ← HF3.out] at hF
      have HF := Lib.hid hF
      have HO := Lib.hid hO
      have HE := Lib.hid hE
      clear hF hO hE
      go_wp2_with fail
      refine (merge_yes _ g r _ g2 r2 F3 O1 wr HF.out HO.out E34.out hd2 hd1).mono ?_
      rintro e w5 ⟨rfl, hf5, hg5⟩
      rw [← HF4.out] at hf5
      have ho5 : Fil w5 w1.heap.size g2 r2 O1 := HO.out.grown hg5 (fun e => hd1 (Option.some.inj e)) (fun e => hd2 (Option.some.inj e))
      have hE5 : Ext w w5 := grownBy_ext HE.out hg5 (fun x e => by have e2 : r = x := Option.some.inj e; omega)
      have hy5 := Hy.out.ext hE5
      have HH := has_any _ g r F4 A4 n4 c4 key w5 hf5 hy5 hu (by omega)
      rw [Hk4.out] at HH
      go_wp2_with fail
      refine HH.mono ?_
      rintro e w6 ⟨rfl, he6⟩
      have hf6 := hf5.ext he6
      have ho6 := ho5.ext he6
      go_wp2_with fail
      refine (encode_any _ g r F4 w6 hf6).mono ?_
      rintro e w7 ⟨A7, c7, rfl, hown7, he7⟩
      have hcap := hown7.cap
      go_wp2_with fail
      refine (dec_enc A7 c7 F4 w7 hown7.rd hf6.u8 hf6.lo hf6.hi hcap.1 hcap.2).mono ?_
      rintro e w8 ⟨g3, r3, rfl, hf8', he8⟩
      have he68 := he7.trans he8
      have hf8 := hf6.ext he68
      have ho8 := ho6.ext he68
      have hE8 := (hE5.trans he6).trans he68
      have HH8 := has_any _ g3 r3 F4 A4 n4 c4 key w8 hf8' (Hy.out.ext hE8) hu (by omega)
      rw [Hk4.out] at HH8
      clear hf5 ho5 hf6 ho6 HH hy5 hown7 hg5
      go_wp2_with fail
      refine HH8.mono ?_
      rintro e w9 ⟨rfl, he9⟩
      have Hf9 := Lib.hid (hf8.ext he9)
      have Hf9' := Lib.hid (hf8'.ext he9)
      have Ho9 := Lib.hid (ho8.ext he9)
      have HE9 := Lib.hid (hE8.trans he9)
      clear hf8 hf8' ho8 hE8 HH8
      go_wp2_with fail
      go_loopw [78] (fun i wr => ∃ j : Nat, j ≤ n3 ∧ i = .int .i64 (j : Int) ∧ Ext w9 wr) (fun i _ => n3 - (intOf i).toNat)
      case atStart => exact ⟨0, Nat.zero_le _, rfl, Ext.refl _⟩
      case round =>
        obtain ⟨i, hi, rfl, hEi⟩ := hrel
        by_cases hlt : i < n3
        · obtain ⟨b, o, s, rfl, hs, hcell, hti⟩ := (Hx3.out.ext (HE9.out.trans hEi)).at_ hlt
          have hmem : s.body ∈ bodies ss3 := List.mem_map.2 ⟨s, List.mem_of_getElem? hs, rfl⟩
          have hk := Hko.out _ hmem
          have hl := hti.len
          have HH1 : ∀ W, Ext w9 W → Ext wr W → Calls Try.prog 18 #[.pointer (some ⟨g, 0, none⟩), .slice s.A s.body.length s.c] W fun e w' => e = .returned (.bool true) ∧ Ext W w' := fun W h1 h2 => by
            have := has_any _ g r F4 s.A s.body.length s.c s.body W (Hf9.out.ext h1) (hti.rd.ext h2) hti.u8 (by omega)
            rwa [hk] at this
          have HH2 : ∀ W, Ext w9 W → Ext wr W → Calls Try.prog 18 #[.pointer (some ⟨g3, 0, none⟩), .slice s.A s.body.length s.c] W fun e w' => e = .returned (.bool true) ∧ Ext W w' := fun W h1 h2 => by
            have := has_any _ g3 r3 F4 s.A s.body.length s.c s.body W (Hf9'.out.ext h1) (hti.rd.ext h2) hti.u8 (by omega)
            rwa [hk] at this
          have K1 := Lib.hid HH1
          have K2 := Lib.hid HH2
          clear HH1 HH2 hk hti hmem hs
          go_wp2_with fail
          refine (K1.out _ hEi (Ext.refl _)).mono ?_
          rintro e w10 ⟨rfl, he10⟩
          go_wp2_with fail
          refine (K2.out _ (hEi.trans he10) he10).mono ?_
          rintro e w11 ⟨rfl, he11⟩
          go_wp2_with fail
          go_roundw
          case rel => exact ⟨i + 1, hlt, by go_num, hEi.trans (he10.trans he11)⟩
          case measure => simp [intOf]; omega
        · obtain rfl : i = n3 := by omega
          have hfz := Hf9.out.ext hEi
          have hoz := Ho9.out.ext hEi
          have hEz := HE9.out.trans hEi
          go_wp2_with fail
          refine (merge_yes _ g2 r2 _ g r O1 F4 wr hoz hfz E14.out (Ne.symm hd2) hd3).mono ?_
          rintro e w12 ⟨rfl, ho12, hg12⟩
          rw [← HO2.out] at ho12
          have hE12 : Ext w w12 := grownBy_ext hEz hg12 (fun x e => by have e2 : r2 = x := Option.some.inj e; omega)
          have HHz := has_any _ g2 r2 O2 A4 n4 c4 key w12 ho12 (Hy.out.ext hE12) hu (by omega)
          rw [HkO.out] at HHz
          go_wp2_with fail
          refine HHz.mono ?_
          rintro e w13 ⟨rfl, he13⟩
          go_wp2_with fail
          go_ret
          exact ⟨rfl, hE12.trans he13⟩

end Go.Proofs.Ytgmjpilinhmjoaa
