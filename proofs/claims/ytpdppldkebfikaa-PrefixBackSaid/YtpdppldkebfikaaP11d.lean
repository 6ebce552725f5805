/-
  Layer 11: the document's Encode.
-/
import Derived.Test.YtpdppldkebfikaaP11b
namespace Go.Proofs.Ytpdppldkebfikaa
open Go.RowKit

set_option maxHeartbeats 400000 in
theorem refPutT_any (A A2 : Option Addr) (n c m c2 base : Nat) (xs ys : List Nat) (w0 w : World) (hown : Own .u8 5 w base A c xs) (hn : xs.length = n) (hy : Rd .u8 w A2 m ys)
    (hne : 0 < m → ∀ p q, A = some p → A2 = some q → p.block ≠ q.block) (hb : Below base w0 w) (hz : base ≤ w.heap.size) (hlen : n + m ≤ 100000000) :
    Calls Try.prog 67 #[.slice A n c, .slice A2 m c2] w fun e w' => ∃ A' c', e = .returned (.slice A' (n + m : Nat) c') ∧ Own .u8 5 w' base A' c' (xs ++ ys) ∧ Below base w0 w' ∧ base ≤ w'.heap.size := by
  have hl := hy.len
  have Hl := Lib.hid hl
  have Hn := Lib.hid hn
  clear hl hn
  have h0 : Own .u8 5 w base A c (xs ++ ys.take 0) := by simpa using hown
  go_enter Try.func67, Try.ntmps67
  go_wp2
  go_loopw [0, 5] (fun v i wr => ∃ (j : Nat) (A' : Option Addr) (c' : Nat), j ≤ m ∧ i = .int .i64 j ∧ v = .slice A' (n + j : Nat) c' ∧ Own .u8 5 wr base A' c' (xs ++ ys.take j) ∧ Rd .u8 wr A2 m ys ∧ (0 < m → ∀ p q, A' = some p → A2 = some q → p.block ≠ q.block) ∧ Below base w0 wr ∧ base ≤ wr.heap.size) (fun _ i _ => m - (intOf i).toNat)
  case atStart => exact ⟨0, A, c, Nat.zero_le _, rfl, rfl, h0, hy, hne, hb, hz⟩
  case round =>
    clear h0 hown hy hne hb hz
    obtain ⟨j, A', c', hj, rfl, rfl, hown, hy, hne, hb, hz⟩ := hrel
    by_cases hlt : j < m
    · have hy' := hy
      obtain ⟨b, o, rfl, hbl, hc⟩ := hy.at_ hlt
      have htl : (xs ++ ys.take j).length = n + j := by rw [List.length_append, List.length_take, Hl.out, Hn.out]; omega
      have Htl := Lib.hid htl
      have Hne := Lib.hid (hne (by omega))
      have Hown := Lib.hid hown
      have Hy := Lib.hid hy'
      clear htl hne hown hy hy'
      go_wp2_with (at_builtin; refine wpList_push2 .u8 (ys.getD j 0) 5 rfl _ _ 34 rfl _ 1 Try.underlying34 Try.infoU8 rfl Hown.out (n + j) Htl.out rfl rfl rfl (by omega) (by omega) hz ?_; intro A1 c1 w1 hown1 hw1 hz1)
      have hN : Rd .u8 w1 (some ⟨b, o, none⟩) m ys ∧ (∀ p q, A1 = some p → some (⟨b, o, none⟩ : Addr) = some q → p.block ≠ q.block) ∧ Below base w0 w1 := by
        rcases hw1 with ⟨rfl, hg⟩ | ⟨he, hq⟩
        · refine ⟨Hy.out.grown hg (fun a ha e => ?_), Hne.out, Below.grown hb hg hz (fun g hg' => (Hown.out.lt g (by cases A1 with | none => cases hg' | some p => exact hg')).1)⟩
          cases hA : A1 with
          | none => rw [hA] at e; cases e
          | some p => rw [hA] at e; injection e with e; exact Hne.out p a hA ha e.symm
        · refine ⟨Hy.out.ext he, fun p q hp hq2 e => ?_, Below.trans hb (Below.mono he hz)⟩
          have h1 := hq p hp
          injection hq2 with hq2
          subst hq2
          have h2 : p.block = b := e
          omega
      have HN := Lib.hid hN
      clear hN hw1
      go_roundw
      case rel => exact ⟨j + 1, A1, c1, by omega, by go_num, rfl, by rw [take_next _ _ (by have := Hl.out; omega), ← List.append_assoc]; exact hown1, HN.out.1, fun _ => HN.out.2.1, HN.out.2.2, hz1⟩
      case measure => simp [intOf]; omega
    · obtain rfl : j = m := by omega
      rw [List.take_of_length_le (Nat.le_of_eq Hl.out)] at hown
      go_wp2
      go_ret
      exact ⟨_, _, rfl, hown, hb, hz⟩

set_option maxHeartbeats 1600000 in
theorem refEncode11_any (A : Option Addr) (n c : Nat) (ss : List Sl) (w : World) (hx : TxL w A n ss) (hn : n ≤ 140737488355328) :
    Calls Try.prog 30 #[.slice A n c] w (PEncPost (pencR (bodies ss)) w) := by
  have Hl := Lib.hid hx.len
  have hbl : (bodies ss).length = n := by rw [bodies_len, Hl.out]
  by_cases hbig : 4096 < n
  · have HR := Lib.hid (pencR_bad (ss := bodies ss) (.inl (by rw [hbl]; exact hbig)))
    clear hbl
    go_enter Try.func30, Try.ntmps30
    go_wp2_with fail
    go_ret2
    exact PEncPost.bad _ HR.out (Ext.refl w)
  · have hb4 : n ≤ 4096 := by omega
    have Hbl := Lib.hid hbl
    clear hbl
    go_enter Try.func30, Try.ntmps30
    go_wp2_with fail
    refine (refPut_any n _ (by omega)).mono ?_
    rintro e w2 ⟨A2, c2, rfl, hown2, he2⟩
    go_wp2_with fail
    go_loopw [5] (fun i wr => ∃ j : Nat, j ≤ n ∧ i = .int .i64 j ∧ wr = w2 ∧ Hid (anyLong (bodies (ss.take j)) = false)) (fun i _ => n - (intOf i).toNat)
    case atStart => exact ⟨0, Nat.zero_le _, rfl, rfl, rfl⟩
    case round =>
      obtain ⟨j, hj, rfl, rfl, HA⟩ := hrel
      by_cases hlt : j < n
      · obtain ⟨b, o, s, rfl, hf, h1, _⟩ := (hx.ext he2).at_ hlt
        obtain ⟨sA, sc, body⟩ := s
        simp only at h1
        have e0 : bodies (ss.take (j + 1)) = bodies (ss.take j) ++ [body] := by rw [List.take_add_one, hf]; unfold bodies; rw [List.map_append]; rfl
        have hbj := bodies_at hf
        by_cases hb : 200 < body.length
        · have HR := Lib.hid (pencR_bad (.inr (anyLong_iff.2 ⟨body, List.mem_of_getElem? hbj, hb⟩)))
          clear e0 hf hbj
          obtain ⟨m, hm⟩ : ∃ m, m = body.length := ⟨_, rfl⟩
          rw [← hm] at h1 hb
          clear hm
          go_wp2_with fail
          go_ret2
          exact PEncPost.bad _ HR.out he2
        · have hN := Lib.hid (show anyLong (bodies (ss.take (j + 1))) = false by
            have h2 : anyLong [body] = false := by simp [anyLong]; omega
            have h3 := HA.out
            unfold anyLong at h2 h3 ⊢
            rw [e0, List.any_append, h3, h2]; rfl)
          clear e0 hf hbj
          obtain ⟨m, hm⟩ : ∃ m, m = body.length := ⟨_, rfl⟩
          rw [← hm] at h1 hb
          clear hm
          go_wp2_with fail
          go_roundw
          case rel => exact ⟨j + 1, by omega, by go_num, by first | trivial | rfl, hN⟩
          case measure => simp [intOf]; omega
      · obtain rfl : n = j := by omega
        have hany : anyLong (bodies ss) = false := by rw [← HA.out, List.take_of_length_le (by rw [Hl.out]; exact Nat.le_refl _)]
        have HR := Lib.hid (pencR_good (by rw [Hbl.out]; omega) hany)
        have hlong := anyLong_no hany
        have Hvl := Lib.hid (penc_len (by rw [Hbl.out]; omega) hlong)
        have Hlong := Lib.hid hlong
        obtain ⟨V, hV⟩ : ∃ V, V = penc (bodies ss) := ⟨_, rfl⟩
        rw [← hV] at HR Hvl
        have HV := Lib.hid hV
        have HP0 := Lib.hid (show vput n ++ pencA ((bodies ss).take 0) ((bodies ss).drop 0) = V by rw [HV.out, penc, Hbl.out]; rfl)
        clear hV hany hlong HA
        go_wp2_with fail
        go_loopw [4, 6, 7] (fun v i _ wr => ∃ (q : Nat) (P : List Nat) (A' : Option Addr) (c' : Nat), q ≤ n ∧ i = .int .i64 q ∧ v = .slice A' P.length c' ∧ Hid (P ++ pencA ((bodies ss).take q) ((bodies ss).drop q) = V) ∧ Own .u8 5 wr w.heap.size A' c' P ∧ Ext w wr) (fun _ i _ _ => n - (intOf i).toNat)
        case atStart => exact ⟨0, _, A2, c2, Nat.zero_le _, rfl, rfl, HP0.out, hown2, he2⟩
        case round =>
          clear HP0 hown2
          have he0 := he2
          clear he2
          obtain ⟨j, P, A', c', hj, rfl, rfl, HP, hown, he⟩ := hrel
          by_cases hlt : j < n
          · obtain ⟨b, o, s, rfl, hf, hc, hs⟩ := hx.at_ hlt
            have blt := World.block_lt_of_cell? _ _ hc
            have hbj := bodies_at hf
            have hst := pencA_step hbj
            have hah := ahead_take (ss := bodies ss) (j := j) (by rw [Hbl.out]; exact hj)
            have hsl : s.body.length ≤ 200 := Hlong.out _ (List.mem_of_getElem? hbj)
            obtain ⟨sA, sc, body⟩ := s
            simp only at hc hs hsl hst
            obtain ⟨srd, su8, scap, stop, slen⟩ := hs
            simp only at srd su8 scap stop slen
            obtain ⟨k, hk⟩ : ∃ k, k = cp (ahead ((bodies ss).take j)) body := ⟨_, rfl⟩
            have hkb : k ≤ body.length := by rw [hk]; exact (cp_le _ _).2
            have hN : (P ++ vput k ++ vput (body.length - k) ++ body.drop k) ++ pencA ((bodies ss).take (j + 1)) ((bodies ss).drop (j + 1)) = V := by
              rw [← HP.out, hst, ptext, ← hk]
              simp
            have hPl : P.length ≤ 1000000 := by have := Hvl.out; rw [← HP.out, List.length_append] at this; omega
            have HN := Lib.hid hN
            have Hk := Lib.hid hk
            clear hN hst hbj hk HP
            obtain ⟨m, hm⟩ : ∃ m, m = body.length := ⟨_, rfl⟩
            rw [← hm] at hc srd scap hsl hkb HN slen
            have Hm := Lib.hid hm
            clear hm
            have Hc := Lib.hid (fun (W : World) (hW : Below w.heap.size w W) => (Below.cell hW (p := ⟨b, o + j, none⟩) blt).trans hc)
            have cell := Hc.out wr he
            have hmk : (m : Int) - (k : Int) = ((m - k : Nat) : Int) := by omega
            have hk200 : k ≤ 200 := by omega
            have hmk200 : m - k ≤ 200 := by omega
            have sl9 := run_from sA m sc k hkb
            have sh9 := srd.offA hkb scap
            obtain ⟨A9, hA9⟩ : ∃ A9, A9 = offA sA k sc := ⟨_, rfl⟩
            rw [← hA9] at sl9 sh9
            have Hsl9 := Lib.hid sl9
            have Hsh9 := Lib.hid sh9
            clear sl9 sh9 hA9 hkb hc
            by_cases hw16 : j % 16 = 0
            · have hk0 : k = 0 := by rw [Hk.out, hah, if_pos hw16]; rfl
              have Hk0 := Lib.hid hk0
              have hd : (((j : Int) % 16) != 0) = false := by simp; omega
              clear hk0
              go_wp2_with fail
              rw [show Value.int .i64 0 = Value.int .i64 (k : Int) by rw [Hk0.out]; rfl, show Value.int .u64 0 = Value.int .u64 (k : Int) by rw [Hk0.out]; rfl]
              refine (refPut_any k _ (by omega)).mono ?_
              rintro e w4 ⟨A4, c4, rfl, hown4, he4⟩
              have hown3 := hown.ext he4
              have hE4 := he.trans he4
              have hv1 := vput_le (u := k) (by omega)
              go_wp2_with fail
              refine (refPutT_any _ _ P.length _ _ _ w.heap.size P (vput k) w _ hown3 rfl hown4.rd (fun _ p q hp hq e => by
                have h1 := (hown.block p hp).2
                have h2 := (hown4.block q hq).1
                omega) hE4 hE4.size (by omega)).mono ?_
              rintro e w5 ⟨A5, c5, rfl, hown5, hb5, hz5⟩
              have cell5 := Hc.out w5 hb5
              go_wp2_with fail
              refine (refPut_any (m - k) _ (by omega)).mono ?_
              rintro e w6 ⟨A6, c6, rfl, hown6, he6⟩
              have hown7 := hown5.ext he6
              have hE6 := Ext.trans hb5 he6
              have hv2 := vput_le (u := m - k) (by omega)
              have hL5 : (P ++ vput k).length = P.length + (vput k).length := List.length_append
              go_wp2_with fail
              refine (refPutT_any _ _ _ _ _ _ w.heap.size _ (vput (m - k)) w _ hown7 hL5 hown6.rd (fun _ p q hp hq e => by
                have h1 := (hown5.block p hp).2
                have h2 := (hown6.block q hq).1
                omega) hE6 hE6.size (by omega)).mono ?_
              rintro e w7 ⟨A7, c7, rfl, hown8, hb7, hz7⟩
              have hL7 : (P ++ vput k ++ vput (m - k)).length = P.length + (vput k).length + (vput (m - k)).length := by rw [List.length_append, List.length_append]
              have cell7 := Hc.out w7 hb7
              have sl9 := Hsl9.out
              go_wp2_with fail
              refine (refPutT_any _ A9 _ _ (m - k) _ w.heap.size _ _ w _ hown8 hL7 (Hsh9.out.ext hb7) (fun h0 p q hp hq e => by
                have h1 := (hown8.block p hp).1
                have h2 := Hsh9.out.lt h0 q hq
                omega) hb7 hz7 (by omega)).mono ?_
              rintro e w8 ⟨A8, c8, rfl, hown9, hb8, hz8⟩
              go_wp2_with fail
              go_roundw
              case rel => exact ⟨j + 1, _, A8, c8, by omega, by go_num, by rw [List.length_append, List.length_append, List.length_append, List.length_drop, ← Hm.out], HN.out, hown9, hb8⟩
              case measure => simp [intOf]; omega
            · obtain ⟨q, rfl⟩ : ∃ q, j = q + 1 := ⟨j - 1, by omega⟩
              obtain ⟨b', o', s', e', hf', hc', hs'⟩ := hx.at_ (j := q) (by omega)
              injection e' with e'
              injection e' with e1 e2
              subst e1 e2
              have blt' := World.block_lt_of_cell? _ _ hc'
              have hk1 : k = cp s'.body body := by rw [Hk.out, hah, if_neg hw16, Nat.add_sub_cancel, bodies_get hf']
              obtain ⟨sA', sc', body'⟩ := s'
              simp only at hc' hs' hk1
              have cell' : wr.cell? ⟨b, o + q, none⟩ = _ := (Below.cell he (p := ⟨b, o + q, none⟩) blt').trans hc'
              have Hk1 := Lib.hid hk1
              have hd : (((q : Int) + 1) % 16 != 0) = true := by simp; omega
              have H66 := Lib.hid (fun W (hW : Ext wr W) => refSame11_any sA' sA body'.length sc' m sc body' body W ((hs'.rd.ext he).ext hW) ((srd.ext he).ext hW) hs'.len slen)
              clear hk1 hf' hc'
              go_wp2_with fail
              go_quiet ((go_at_call 66; exact Calls.quiet_of (H66.out _ (Ext.of_drewN _ _))))
              rw [← Hk1.out]
              have cell4 := Hc.out (wr.drewN nq) (he.drewN nq)
              go_wp2_with fail
              refine (refPut_any k _ (by omega)).mono ?_
              rintro e w4 ⟨A4, c4, rfl, hown4, he4⟩
              have hown3 := (hown.ext (Ext.of_drewN _ nq)).ext he4
              have hE4 := (he.drewN nq).trans he4
              have hv1 := vput_le (u := k) (by omega)
              go_wp2_with fail
              refine (refPutT_any _ _ P.length _ _ _ w.heap.size P (vput k) w _ hown3 rfl hown4.rd (fun _ p q hp hq e => by
                have h1 := (hown.block p hp).2
                have h2 := (hown4.block q hq).1
                have h2 : wr.heap.size ≤ q.block := h2
                omega) hE4 hE4.size (by omega)).mono ?_
              rintro e w5 ⟨A5, c5, rfl, hown5, hb5, hz5⟩
              have cell5 := Hc.out w5 hb5
              go_wp2_with fail
              refine (refPut_any (m - k) _ (by omega)).mono ?_
              rintro e w6 ⟨A6, c6, rfl, hown6, he6⟩
              have hown7 := hown5.ext he6
              have hE6 := Ext.trans hb5 he6
              have hv2 := vput_le (u := m - k) (by omega)
              have hL5 : (P ++ vput k).length = P.length + (vput k).length := List.length_append
              go_wp2_with fail
              refine (refPutT_any _ _ _ _ _ _ w.heap.size _ (vput (m - k)) w _ hown7 hL5 hown6.rd (fun _ p q hp hq e => by
                have h1 := (hown5.block p hp).2
                have h2 := (hown6.block q hq).1
                omega) hE6 hE6.size (by omega)).mono ?_
              rintro e w7 ⟨A7, c7, rfl, hown8, hb7, hz7⟩
              have hL7 : (P ++ vput k ++ vput (m - k)).length = P.length + (vput k).length + (vput (m - k)).length := by rw [List.length_append, List.length_append]
              have cell7 := Hc.out w7 hb7
              have sl9 := Hsl9.out
              go_wp2_with fail
              refine (refPutT_any _ A9 _ _ (m - k) _ w.heap.size _ _ w _ hown8 hL7 (Hsh9.out.ext hb7) (fun h0 p q hp hq e => by
                have h1 := (hown8.block p hp).1
                have h2 := Hsh9.out.lt h0 q hq
                omega) hb7 hz7 (by omega)).mono ?_
              rintro e w8 ⟨A8, c8, rfl, hown9, hb8, hz8⟩
              go_wp2_with fail
              go_roundw
              case rel => exact ⟨q + 1 + 1, _, A8, c8, by omega, by go_num, by rw [List.length_append, List.length_append, List.length_append, List.length_drop, ← Hm.out], HN.out, hown9, hb8⟩
              case measure => simp [intOf]; omega
          · obtain rfl : n = j := by omega
            have hfin := Lib.hid (show P = V by rw [← HP.out, List.drop_of_length_le (by rw [Hbl.out]; exact Nat.le_refl _)]; simp [pencA])
            go_wp2_with fail
            go_ret2
            exact PEncPost.good _ HR.out (by rw [hfin.out]) (by rw [← hfin.out]; exact hown) he

end Go.Proofs.Ytpdppldkebfikaa
