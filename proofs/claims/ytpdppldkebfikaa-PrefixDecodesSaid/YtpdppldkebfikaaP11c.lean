/-
  Layer 11: the program's Encode.
-/
import Derived.Test.YtpdppldkebfikaaP11b
namespace Go.Proofs.Ytpdppldkebfikaa
open Go.RowKit

set_option maxHeartbeats 1600000 in
theorem pencode_any (A : Option Addr) (n c : Nat) (ss : List Sl) (w : World) (hx : TxL w A n ss) (hn : n ≤ 140737488355328) :
    Calls Try.prog 29 #[.slice A n c] w (PEncPost (pencR (bodies ss)) w) := by
  have Hl := Lib.hid hx.len
  have hbl : (bodies ss).length = n := by rw [bodies_len, Hl.out]
  have HL := Lib.hid (containsLong11_any A n c ss w hx.rd hn)
  by_cases hbig : 4096 < n
  · have HR := Lib.hid (pencR_bad (ss := bodies ss) (.inl (by rw [hbl]; exact hbig)))
    clear hbl HL
    go_enter Try.func29, Try.ntmps29
    go_wp2
    go_ret2
    exact PEncPost.bad _ HR.out (Ext.refl w)
  · cases hany : anyLong (bodies ss) with
    | true =>
      have HR := Lib.hid (pencR_bad (.inr hany))
      rw [hany] at HL
      clear hbl hany
      go_enter Try.func29, Try.ntmps29
      go_wp2_with fail
      refine HL.out.mono ?_
      rintro e w1 ⟨rfl, rfl⟩
      go_wp2
      go_ret2
      exact PEncPost.bad _ HR.out (Ext.refl _)
    | false =>
      have HR := Lib.hid (pencR_good (by rw [hbl]; omega) hany)
      have hlong := anyLong_no hany
      have Hvl := Lib.hid (penc_len (by rw [hbl]; omega) hlong)
      have Hlong := Lib.hid hlong
      rw [hany] at HL
      obtain ⟨V, hV⟩ : ∃ V, V = penc (bodies ss) := ⟨_, rfl⟩
      rw [← hV] at HR Hvl
      have HV := Lib.hid hV
      have Hbl := Lib.hid hbl
      clear hV hbl hany hlong
      go_enter Try.func29, Try.ntmps29
      go_wp2_with fail
      refine HL.out.mono ?_
      rintro e w1 ⟨rfl, rfl⟩
      go_wp2_with fail
      refine (put_any n _ (by omega)).mono ?_
      rintro e w2 ⟨A2, c2, rfl, hown2, he2⟩
      have HP0 := Lib.hid (show vput n ++ pencA ((bodies ss).take 0) ((bodies ss).drop 0) = V by rw [HV.out, penc, Hbl.out]; rfl)
      go_wp2_with fail
      go_loopw [4, 5, 6, 7, 21] (fun v _ _ _ i wr => ∃ (j : Nat) (P : List Nat) (A' : Option Addr) (c' : Nat), j ≤ n ∧ i = .int .i64 j ∧ v = .slice A' P.length c' ∧ Hid (P ++ pencA ((bodies ss).take j) ((bodies ss).drop j) = V) ∧ Own .u8 5 wr w1.heap.size A' c' P ∧ Ext w1 wr) (fun _ _ _ _ i _ => n - (intOf i).toNat)
      case atStart => exact ⟨0, _, A2, c2, Nat.zero_le _, rfl, rfl, HP0.out, hown2, he2⟩
      case round =>
        clear HP0 hown2 he2
        obtain ⟨j, P, A', c', hj, rfl, rfl, HP, hown, he⟩ := hrel
        by_cases hlt : j < n
        · obtain ⟨b, o, s, rfl, hf, hc, _⟩ := (hx.ext he).at_ hlt
          have hs := hx.each s (List.mem_of_getElem? hf)
          have hbj := bodies_at hf
          have hst := pencA_step hbj
          have hah := ahead_take (ss := bodies ss) (j := j) (by rw [Hbl.out]; exact hj)
          have hsl : s.body.length ≤ 200 := Hlong.out _ (List.mem_of_getElem? hbj)
          obtain ⟨sA, sc, body⟩ := s
          simp only at hc hs hsl hst
          obtain ⟨srd, su8, scap, stop, slen⟩ := hs
          simp only at srd su8 scap stop slen
          obtain ⟨k, hk⟩ : ∃ k, k = cp (ahead ((bodies ss).take j)) body := ⟨_, rfl⟩
          have hkb : k ≤ body.length := by rw [hk]; exact (cp_le _ _).2
          have hN : (P ++ vput k ++ vput (body.length - k) ++ body.drop k) ++ pencA ((bodies ss).take (j + 1)) ((bodies ss).drop (j + 1)) = V := by
            rw [← HP.out, hst, ptext, ← hk]
            simp
          have hPl : P.length ≤ 1000000 := by have := Hvl.out; rw [← HP.out, List.length_append] at this; omega
          have HN := Lib.hid hN
          have Hk := Lib.hid hk
          clear hN hst hbj hk HP
          obtain ⟨m, hm⟩ : ∃ m, m = body.length := ⟨_, rfl⟩
          rw [← hm] at hc srd scap hsl hkb HN slen
          have Hm := Lib.hid hm
          clear hm
          have sl9 := run_from sA m sc k hkb
          have sh9 := srd.offA hkb scap
          obtain ⟨A9, hA9⟩ : ∃ A9, A9 = offA sA k sc := ⟨_, rfl⟩
          rw [← hA9] at sl9 sh9
          have Hsl9 := Lib.hid sl9
          have Hsh9 := Lib.hid sh9
          clear sl9 sh9 hA9
          have hmk : (m : Int) - (k : Int) = ((m - k : Nat) : Int) := by omega
          have hk200 : k ≤ 200 := by omega
          have hmk200 : m - k ≤ 200 := by omega
          have Hkb := Lib.hid hkb
          clear hkb
          by_cases hw16 : j % 16 = 0
          · have hd : decide (j % 16 = 0) = true := decide_eq_true hw16
            have hk0 : k = 0 := by rw [Hk.out, hah, if_pos hw16]; rfl
            have Hk0 := Lib.hid hk0
            clear hk0
            go_wp2_with fail
            refine (isWhole_any j _ (by omega)).mono ?_
            rintro e w3 ⟨rfl, rfl⟩
            rw [hd]
            go_wp2_with fail
            rw [show Value.int .i64 0 = Value.int .i64 (k : Int) by rw [Hk0.out]; rfl, show Value.int .u64 0 = Value.int .u64 (k : Int) by rw [Hk0.out]; rfl]
            refine (put_any k _ (by omega)).mono ?_
            rintro e w4 ⟨A4, c4, rfl, hown4, he4⟩
            have sl9 := Hsl9.out
            have hown3 := hown.ext he4
            have hE4 := he.trans he4
            have hv1 := vput_le (u := k) (by omega)
            go_wp2_with (at_builtin; refine wpList_pushes .u8 5 rfl _ _ 34 rfl _ 1 Try.underlying34 Try.infoU8 rfl hown3 P.length rfl rfl rfl hown4.rd (by omega) (by omega) hE4 hE4.size ?_; intro A5 c5 w5 hown5 hb5 hz5)
            refine (put_any (m - k) _ (by omega)).mono ?_
            rintro e w6 ⟨A6, c6, rfl, hown6, he6⟩
            have hown7 := hown5.ext he6
            have hE6 := Ext.trans hb5 he6
            have hv2 := vput_le (u := m - k) (by omega)
            have hL5 : (P ++ vput k).length = P.length + (vput k).length := List.length_append
            have hL7 : (P ++ vput k ++ vput (m - k)).length = P.length + (vput k).length + (vput (m - k)).length := by rw [List.length_append, List.length_append]
            go_wp2_with (first
              | (at_builtin; refine wpList_pushes .u8 5 rfl _ _ 34 rfl _ 1 Try.underlying34 Try.infoU8 rfl hown7 _ hL5 rfl rfl hown6.rd (by omega) (by omega) hE6 hE6.size ?_; intro A7 c7 w7 hown8 hb7 hz7)
              | (at_builtin; refine wpList_pushes  .u8 5 rfl _ _ 34 rfl _ 1 Try.underlying34 Try.infoU8 rfl hown8 _ hL7 rfl rfl (Hsh9.out.ext hb7) (by omega) (by omega) hb7 hz7 ?_; intro A8 c8 w8 hown9 hb8 hz8)
              | fail)
            rw [show Value.int .i64 (k : Int) = Value.int .i64 0 by rw [Hk0.out]; rfl]
            go_roundw
            case rel => exact ⟨j + 1, _, A8, c8, by omega, by go_num, by rw [List.length_append, List.length_append, List.length_append, List.length_drop, ← Hm.out], HN.out, hown9, hb8⟩
            case measure => simp [intOf]; omega
          · have hd : decide (j % 16 = 0) = false := decide_eq_false hw16
            obtain ⟨q, rfl⟩ : ∃ q, j = q + 1 := ⟨j - 1, by omega⟩
            obtain ⟨b', o', s', e', hf', hc', _⟩ := (hx.ext he).at_ (j := q) (by omega)
            have hs' := hx.each s' (List.mem_of_getElem? hf')
            injection e' with e'
            injection e' with e1 e2
            subst e1 e2
            have hk1 : k = cp s'.body body := by rw [Hk.out, hah, if_neg hw16, Nat.add_sub_cancel, bodies_get hf']
            obtain ⟨sA', sc', body'⟩ := s'
            simp only at hc' hs' hk1
            have Hk1 := Lib.hid hk1
            clear hk1 hf'
            go_wp2_with fail
            refine (isWhole_any (q + 1) _ (by omega)).mono ?_
            rintro e w3 ⟨rfl, rfl⟩
            rw [hd]
            go_wp2_with fail
            refine (palike_any _ _ _ _ _ _ _ _ _ (hs'.rd.ext he) (srd.ext he) hs'.len slen).mono ?_
            rintro e w3 ⟨rfl, q3, rfl⟩
            rw [← Hk1.out]
            go_wp2_with fail
            refine (put_any k _ (by omega)).mono ?_
            rintro e w4 ⟨A4, c4, rfl, hown4, he4⟩
            have sl9 := Hsl9.out
            have hown3 := (hown.ext (Ext.of_drewN _ q3)).ext he4
            have hE4 := (he.drewN q3).trans he4
            have hv1 := vput_le (u := k) (by omega)
            go_wp2_with (at_builtin; refine wpList_pushes .u8 5 rfl _ _ 34 rfl _ 1 Try.underlying34 Try.infoU8 rfl hown3 P.length rfl rfl rfl hown4.rd (by omega) (by omega) hE4 hE4.size ?_; intro A5 c5 w5 hown5 hb5 hz5)
            refine (put_any (m - k) _ (by omega)).mono ?_
            rintro e w6 ⟨A6, c6, rfl, hown6, he6⟩
            have hown7 := hown5.ext he6
            have hE6 := Ext.trans hb5 he6
            have hv2 := vput_le (u := m - k) (by omega)
            have hL5 : (P ++ vput k).length = P.length + (vput k).length := List.length_append
            have hL7 : (P ++ vput k ++ vput (m - k)).length = P.length + (vput k).length + (vput (m - k)).length := by rw [List.length_append, List.length_append]
            go_wp2_with (first
              | (at_builtin; refine wpList_pushes .u8 5 rfl _ _ 34 rfl _ 1 Try.underlying34 Try.infoU8 rfl hown7 _ hL5 rfl rfl hown6.rd (by omega) (by omega) hE6 hE6.size ?_; intro A7 c7 w7 hown8 hb7 hz7)
              | (at_builtin; refine wpList_pushes  .u8 5 rfl _ _ 34 rfl _ 1 Try.underlying34 Try.infoU8 rfl hown8 _ hL7 rfl rfl (Hsh9.out.ext hb7) (by omega) (by omega) hb7 hz7 ?_; intro A8 c8 w8 hown9 hb8 hz8)
              | fail)
            go_roundw
            case rel => exact ⟨q + 1 + 1, _, A8, c8, by omega, by go_num, by rw [List.length_append, List.length_append, List.length_append, List.length_drop, ← Hm.out], HN.out, hown9, hb8⟩
            case measure => simp [intOf]; omega
        · obtain rfl : j = n := by omega
          have hfin := Lib.hid (show P = V by rw [← HP.out, List.drop_of_length_le (by rw [Hbl.out]; exact Nat.le_refl _)]; simp [pencA])
          go_wp2
          go_ret2
          exact PEncPost.good _ HR.out (by rw [hfin.out]) (by rw [← hfin.out]; exact hown) he

end Go.Proofs.Ytpdppldkebfikaa
