/-
  Layer 11: the walk of PrefixSeeks.
-/
import Derived.Test.YtpdppldkebfikaaP11k
import Derived.Test.YtpdppldkebfikaaD10b
namespace Go.Proofs.Ytpdppldkebfikaa
open Go.RowKit

set_option maxHeartbeats 3200000 in
theorem walk_PrefixSeeks (A : Option Addr) (n c : Nat) (ss : List Sl) (A2 : Option Addr) (n2 c2 : Nat) (t : List Nat) (w : World) (hx : TxL w A n ss) (hn : n ≤ 5900000000000) (hy : Rd .u8 w A2 n2 t) (hu : U8 t) (hn2 : n2 * 1 ≤ 140737488351232) :
    Calls Try.prog 10 #[.slice A n c, .slice A2 n2 c2] w fun e w' => e = .returned (.bool true) ∧ Ext w w' := by
  have hlen := hx.len
  have HE1 := Lib.hid (fun (B : Option Addr) (cb k : Nat) (us : List Sl) (W : World) (h1 : TxL W B k us) (h2 : k ≤ 140737488355328) => pencode_any B k cb us W h1 h2)
  have Hx := Lib.hid hx
  have Hy := Lib.hid hy
  have Hu := Lib.hid hu
  by_cases hbad : 4096 < (bodies ss).length ∨ anyLong (bodies ss) = true
  · have HR := Lib.hid (idxR_bad hbad)
    have HP := Lib.hid (show pencR [] = ([0], 0) by decide +kernel)
    clear hbad hx hy hu hlen
    go_enter Try.func10, Try.ntmps10
    go_wp2_with fail
    refine (alive11 _).mono ?_
    rintro e w1 ⟨rfl, he1⟩
    go_wp2_with fail
    refine (refIndex_any A n c ss _ (Hx.out.ext he1) (by omega)).mono ?_
    rintro e w2 ⟨A3, c3, us, B, cB, rfl, hb, hen, _, he2⟩
    rw [HR.out] at hb ⊢
    simp only at hb ⊢
    have hl0 : us.length = 0 := by rw [← bodies_len, hb]; rfl
    rw [hl0, show ([] : List Nat).length = 0 from rfl]
    have htl : TxL w2 A3 0 us := ⟨by rw [← hl0]; exact hen.rd, fun s hs => by rw [List.eq_nil_of_length_eq_zero hl0] at hs; cases hs⟩
    have HG := Lib.hid (HE1.out A3 c3 0 us w2 htl (by omega))
    rw [hb, HP.out] at HG
    have hE2 := he1.trans he2
    clear hb hen hl0 htl
    go_wp2_with fail
    refine HG.out.mono ?_
    rintro e w3 ⟨A4, c4, rfl, _, he3⟩
    go_wp2_with fail
    go_ret
    exact ⟨rfl, hE2.trans he3⟩
  · have hgn : (bodies ss).length ≤ 4096 := by
      rcases Nat.lt_or_ge 4096 (bodies ss).length with q | q
      · exact absurd (.inl q) hbad
      · exact q
    have hgl : anyLong (bodies ss) = false := by
      cases q : anyLong (bodies ss) with
      | true => exact absurd (.inr q) hbad
      | false => rfl
    have HR := Lib.hid (idxR_good hgn hgl)
    obtain ⟨L, hL⟩ : ∃ L, L = dents (bodies ss) := ⟨_, rfl⟩
    rw [← hL] at HR
    have hLn : L.length ≤ 4096 := by rw [hL]; have := dents_len _ (bodies ss) rfl; omega
    have hLs : ∀ x ∈ L, x.length ≤ 200 := by rw [hL]; exact dents_short hgl
    have hLu : ∀ x ∈ L, U8 x := by rw [hL]; exact fun x hx2 => bodies_mem_of hx x (dents_mem.1 hx2)
    have HLa := Lib.hid (show Asc L by rw [hL]; exact dents_asc _)
    have hany : anyLong L = false := by
      cases q : anyLong L with
      | false => rfl
      | true =>
        obtain ⟨s, hs, hl⟩ := anyLong_iff.1 q
        have := hLs s hs
        omega
    have HP := Lib.hid (pencR_good hLn hany)
    have hPl := penc_len hLn hLs
    have hPu := penc_u8 hLu
    have hPd : pdec (penc L) = (L, 0) := by have := pdec_put L [] hLn hLs; rw [List.append_nil] at this; rw [this]; rfl
    obtain ⟨P, hP⟩ : ∃ P, P = penc L := ⟨_, rfl⟩
    rw [← hP] at HP hPl hPu hPd
    have hk := skN_le t L
    obtain ⟨k, hkk⟩ : ∃ k, k = skN t L := ⟨_, rfl⟩
    rw [← hkk] at hk
    have HS := Lib.hid (show seekR P t = ((k : Int), 0) by unfold seekR; rw [hPd, hkk]; rfl)
    have Hk := Lib.hid hkk
    have HPu := Lib.hid hPu
    have HLn := Lib.hid hLn
    have HLall := Lib.hid (show ∀ x ∈ L, U8 x ∧ x.length ≤ 140737488355328 from fun x h => ⟨hLu x h, by have := hLs x h; omega⟩)
    obtain ⟨p, hp⟩ : ∃ p, P.length = p := ⟨_, rfl⟩
    rw [hp] at hPl
    have Hp := Lib.hid hp
    clear hbad hgn hgl hL hLn hLs hLu hany hPu hPd hP hkk hp hx hy hu hlen
    go_enter Try.func10, Try.ntmps10
    go_wp2_with fail
    refine (alive11 _).mono ?_
    rintro e w1 ⟨rfl, he1⟩
    go_wp2_with fail
    refine (refIndex_any A n c ss _ (Hx.out.ext he1) (by omega)).mono ?_
    rintro e w2 ⟨A3, c3, us, B, cB, rfl, hb, hen, _, he2⟩
    rw [HR.out] at hb ⊢
    simp only at hb ⊢
    obtain ⟨nB, hnB⟩ : ∃ nB, nB = (List.map (fun s => skN s L) (bodies ss)).length := ⟨_, rfl⟩
    rw [← hnB]
    clear hnB
    obtain ⟨m, hm⟩ : ∃ m, us.length = m := ⟨_, rfl⟩
    have hmL : L.length = m := by rw [← hm, ← hb, bodies_len]
    rw [hm] at hen ⊢
    have hm4 : m ≤ 4096 := by rw [← hmL]; exact HLn.out
    have hkm : k ≤ m := by rw [← hmL]; exact hk
    have htl : TxL w2 A3 m us := ⟨hen.rd, fun s hs => by
      have h1 := HLall.out s.body (by rw [← hb]; exact List.mem_map.2 ⟨s, hs, rfl⟩)
      exact ⟨(hen.own s hs).rd, h1.1, (hen.own s hs).cap.1, (hen.own s hs).cap.2, h1.2⟩⟩
    have HG := Lib.hid (HE1.out A3 c3 m us w2 htl (by omega))
    rw [hb, HP.out] at HG
    have Htl := Lib.hid htl
    have Hb := Lib.hid hb
    have hE2 := he1.trans he2
    clear hb hen htl hm hmL hk
    go_wp2_with fail
    refine HG.out.mono ?_
    rintro e w3 ⟨A4, c4, rfl, hown4, he3⟩
    simp only at hown4 ⊢
    rw [Hp.out]
    have hcap := hown4.cap
    rw [Hp.out] at hcap
    obtain ⟨hc4, hc4m⟩ := hcap
    have hr4 := hown4.rd' Hp.out
    have hE3 := hE2.trans he3
    clear hown4
    go_wp2_with fail
    refine (pseek_any A4 p c4 A2 n2 c2 P t _ hr4 HPu.out (by omega) hc4 hc4m (Hy.out.ext hE3) Hu.out (by omega)).mono ?_
    rintro e w4 ⟨rfl, he4⟩
    rw [HS.out]
    simp only
    have hE4 := hE3.trans he4
    have hE24 := he3.trans he4
    have d1 : decide (m < k) = false := decide_eq_false (by omega)
    have d1' : decide ((m : Int) < (k : Int)) = false := decide_eq_false (by omega)
    obtain ⟨W4, hW4⟩ : ∃ W4, W4 = w4 := ⟨_, rfl⟩
    rw [← hW4] at hE4 hE24 ⊢
    clear hr4 he4 hW4
    go_wp2_with fail
    go_loopw [12, 13, 53] (fun _ _ i wr => ∃ j q : Nat, j ≤ m ∧ i = .int .i64 j ∧ wr = W4.drewN q) (fun _ _ i _ => m - (intOf i).toNat)
    case atStart => exact ⟨0, 0, Nat.zero_le _, rfl, rfl⟩
    case round =>
      obtain ⟨j, q, hj, rfl, rfl⟩ := hrel
      by_cases hlt : j < m
      · obtain ⟨b, o, s, rfl, hf, hc, hs⟩ := (Htl.out.ext hE24).at_ hlt
        have hbj := bodies_at hf
        rw [Hb.out] at hbj
        have h1 : j < k → ordT s.body t < 0 := fun h => skN_lt (by rw [← Hk.out]; exact h) hbj
        have h2 : k ≤ j → 0 ≤ ordT s.body t := fun h => skN_ge HLa.out (by rw [← Hk.out]; exact h) hbj
        have hrd := hs.rd
        have hln := hs.len
        obtain ⟨sA, sc, body⟩ := s
        simp only at hc hrd hln h1 h2
        have HC := Lib.hid (fun (W : World) (hW : Ext W4 W) => order_any sA A2 body.length sc n2 c2 body t W (hrd.ext hW) ((Hy.out.ext hE4).ext hW) hln (by omega))
        obtain ⟨bl, hbl⟩ : ∃ bl, bl = body.length := ⟨_, rfl⟩
        rw [← hbl] at hc HC
        obtain ⟨r, hr⟩ : ∃ r, r = ordT body t := ⟨_, rfl⟩
        rw [← hr] at HC h1 h2
        clear hf hbj hrd hln hs hbl hr
        by_cases hjk : j < k
        · have hneg := h1 hjk
          have d2 : decide (r < 0) = true := decide_eq_true hneg
          have d3 : decide (j < k) = true := decide_eq_true hjk
          have d3' : decide ((j : Int) < (k : Int)) = true := decide_eq_true (by omega)
          clear h1 h2
          go_wp2_with fail
          refine (HC.out _ (Ext.of_drewN _ q)).mono ?_
          rintro e w5 ⟨rfl, q5, rfl⟩
          go_wp2_with fail
          go_roundw
          case rel => exact ⟨j + 1, _, by omega, by go_num, by first | rfl | exact World.drewN_drewN .. | fail⟩
          case measure => simp [intOf]; omega
        · have hneg := h2 (by omega)
          have d2 : decide (r < 0) = false := decide_eq_false (by omega)
          have d3 : decide (j < k) = false := decide_eq_false hjk
          have d3' : decide ((j : Int) < (k : Int)) = false := decide_eq_false (by omega)
          clear h1 h2
          go_wp2_with fail
          refine (HC.out _ (Ext.of_drewN _ q)).mono ?_
          rintro e w5 ⟨rfl, q5, rfl⟩
          go_wp2_with fail
          go_roundw
          case rel => exact ⟨j + 1, _, by omega, by go_num, by first | rfl | exact World.drewN_drewN .. | fail⟩
          case measure => simp [intOf]; omega
      · obtain rfl : j = m := by omega
        go_wp2_with fail
        go_ret
        exact ⟨rfl, hE4.drewN _⟩

end Go.Proofs.Ytpdppldkebfikaa
