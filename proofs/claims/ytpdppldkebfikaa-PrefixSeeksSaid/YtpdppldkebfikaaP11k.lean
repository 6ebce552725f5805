/-
  Layer 11: the walks of the laws.
-/
import Derived.Test.YtpdppldkebfikaaP11j
import Derived.Test.YtpdppldkebfikaaTXK
namespace Go.Proofs.Ytpdppldkebfikaa
open Go.RowKit

theorem pencR_u8 {ss : List (List Nat)} (h : ∀ s ∈ ss, U8 s) : U8 (pencR ss).1 := by
  unfold pencR
  split
  · intro v hv; cases hv
  · exact penc_u8 h
theorem pencR_len (ss : List (List Nat)) : (pencR ss).1.length ≤ 1000000 := by
  by_cases h : 4096 < ss.length ∨ anyLong ss = true
  · rw [pencR_bad h]; simp
  · have h1 : ss.length ≤ 4096 := by
      rcases Nat.lt_or_ge 4096 ss.length with q | q
      · exact absurd (.inl q) h
      · exact q
    have h2 : anyLong ss = false := by
      cases q : anyLong ss with
      | true => exact absurd (.inr q) h
      | false => rfl
    rw [pencR_good h1 h2]
    exact penc_len h1 (anyLong_no h2)

set_option maxHeartbeats 1600000 in
theorem walk_PrefixEncodes (A : Option Addr) (n c : Nat) (ss : List Sl) (w : World) (hx : TxL w A n ss) (hn : n ≤ 5900000000000) :
    Calls Try.prog 7 #[.slice A n c] w fun e w' => e = .returned (.bool true) ∧ Ext w w' := by
  have he1 := pencR_len (bodies ss)
  have he2 := pencR_u8 (ss := bodies ss) (bodies_mem_of hx)
  obtain ⟨⟨P, F⟩, hR⟩ : ∃ R, R = pencR (bodies ss) := ⟨_, rfl⟩
  rw [← hR] at he1 he2
  simp only at he1 he2
  obtain ⟨p, hp⟩ : ∃ p, p = P.length := ⟨_, rfl⟩
  rw [← hp] at he1
  have Hp := Lib.hid hp.symm
  have Hu := Lib.hid he2
  have HE1 : Hid (∀ (B : Option Addr) (cb : Nat) (ts : List Sl) (W : World), TxL W B n ts → bodies ts = bodies ss → Calls Try.prog 29 #[.slice B n cb] W fun e w' => ∃ A' c', e = .returned (.tuple #[.slice A' p c', .int .i64 F]) ∧ Own .u8 5 w' W.heap.size A' c' P ∧ Ext W w') := Lib.hid (fun B cb ts W h1 h2 => by
    have h := pencode_any B n cb ts W h1 (by omega)
    unfold PEncPost at h
    rw [h2, ← hR] at h
    simp only [← hp] at h
    exact h)
  have HE2 : Hid (∀ (B : Option Addr) (cb : Nat) (ts : List Sl) (W : World), TxL W B n ts → bodies ts = bodies ss → Calls Try.prog 30 #[.slice B n cb] W fun e w' => ∃ A' c', e = .returned (.tuple #[.slice A' p c', .int .i64 F]) ∧ Own .u8 5 w' W.heap.size A' c' P ∧ Ext W w') := Lib.hid (fun B cb ts W h1 h2 => by
    have h := refEncode11_any B n cb ts W h1 (by omega)
    unfold PEncPost at h
    rw [h2, ← hR] at h
    simp only [← hp] at h
    exact h)
  have k2 : (F == F) = true := by simp
  have Hx := Lib.hid hx
  clear hp hR he2 hx
  go_enter Try.func7, Try.ntmps7
  go_wp2_with fail
  refine (alive11 _).mono ?_
  rintro e w1 ⟨rfl, he1⟩
  go_wp2_with fail
  refine (copyT_any A n c ss _ (Hx.out.ext he1) hn).mono ?_
  rintro e w2 ⟨A2, c2, ts, rfl, hb2, hown2, htx2, he2⟩
  have hl2 : ts.length = n := by rw [← bodies_len, hb2, bodies_len, Hx.out.len]
  have hall := bodies_all hb2 (P := fun b => U8 b ∧ b.length ≤ 140737488355328) Hx.out.all
  have Hm := Lib.hid (TxL.of_own hown2 htx2 hl2 hall)
  have hE2 := he1.trans he2
  have Hb2 := Lib.hid hb2
  clear hown2 htx2 hl2 hall hb2
  go_wp2_with fail
  refine (HE1.out _ _ _ _ Hm.out Hb2.out).mono ?_
  rintro e w8 ⟨A8, c8, rfl, hown8, he8⟩
  go_wp2_with fail
  refine (HE1.out _ _ _ _ (Hm.out.ext he8) Hb2.out).mono ?_
  rintro e w9 ⟨A9, c9, rfl, hown9, he9⟩
  go_wp2_with fail
  refine (HE2.out _ _ _ _ (((Hx.out.ext hE2).ext he8).ext he9) rfl).mono ?_
  rintro e w10 ⟨A10, c10, rfl, hown10, he10⟩
  go_wp2_with fail
  refine (apart3V hown8 he8 hown9 he9 hown10 he10 Hp.out Hu.out (by omega)).mono ?_
  rintro e w11 ⟨rfl, he11⟩
  go_wp2_with fail
  refine (sameT_yes _ _ n _ n _ ts ss _ (Hm.out.ext he11).rd ((Hx.out.ext hE2).ext he11).rd Hb2.out (by omega) (Hm.out.ext he11).same ((Hx.out.ext hE2).ext he11).rds).mono ?_
  rintro e w13 ⟨rfl, q13, rfl⟩
  go_wp2_with fail
  go_ret
  exact ⟨rfl, (hE2.trans he11).drewN _⟩

set_option maxHeartbeats 3200000 in
theorem walk_PrefixDecodes (A : Option Addr) (n c : Nat) (bs : List Nat) (A2 : Option Addr) (n2 c2 : Nat) (ts : List Nat) (w : World) (hx : Rd .u8 w A n bs) (hu : U8 bs) (hn : n * 1 ≤ 140737488351232) (hy : Rd .u8 w A2 n2 ts) (hu2 : U8 ts) (hn2 : n2 * 1 ≤ 140737488351232) :
    Calls Try.prog 8 #[.slice A n c, .slice A2 n2 c2] w fun e w' => e = .returned (.bool true) ∧ Ext w w' := by
  have Hl := Lib.hid hx.len
  obtain ⟨S, hS⟩ : ∃ S, S = seekR bs ts := ⟨_, rfl⟩
  obtain ⟨⟨L, E⟩, hR⟩ : ∃ R, R = pdec bs := ⟨_, rfl⟩
  have hfin : L.length ≤ 4096 ∧ ∀ s ∈ L, U8 s ∧ s.length ≤ 1048576 := by
    by_cases h0 : E = 0
    · subst h0
      obtain ⟨_, h2, h3⟩ := pdec_ok hu hR.symm
      exact ⟨h2, fun s hs => ⟨(h3 s hs).2, by have := (h3 s hs).1; omega⟩⟩
    · rw [pdec_no hR.symm h0]
      exact ⟨by simp, fun s hs => by cases hs⟩
  obtain ⟨m, hm⟩ : ∃ m, m = L.length := ⟨_, rfl⟩
  rw [← hm] at hfin
  have hmb : ∀ (us : List Sl), bodies us = L → us.length = m := fun us h => by rw [hm, ← h, bodies_len]
  have HP : Hid (∀ (B : Option Addr) (cb : Nat) (W : World), Rd .u8 W B n bs → n ≤ cb → cb ≤ 9223372036854775807 → Calls Try.prog 31 #[.slice B n cb] W fun e w' => ∃ A' c' us, e = .returned (.tuple #[.slice A' m c', .int .i64 E]) ∧ bodies us = L ∧ OwnT w' W.heap.size A' c' us ∧ Txts w' W.heap.size us ∧ Ext W w') := Lib.hid (fun B cb W h1 h2 h3 => by
    have h := pdecode11_any B n cb bs W h1 hu (by omega) h2 h3
    unfold TxtsPost at h
    rw [← hR] at h
    exact h.mono fun e w' ⟨A', c', us, q1, q2, q3⟩ => ⟨A', c', us, by rw [q1, hmb _ q2], q2, q3⟩)
  have HR : Hid (∀ (B : Option Addr) (cb : Nat) (W : World), Rd .u8 W B n bs → Calls Try.prog 32 #[.slice B n cb] W fun e w' => ∃ A' c' us, e = .returned (.tuple #[.slice A' m c', .int .i64 E]) ∧ bodies us = L ∧ OwnT w' W.heap.size A' c' us ∧ Txts w' W.heap.size us ∧ Ext W w') := Lib.hid (fun B cb W h1 => by
    have h := refDecode11_any B n cb bs W h1 hu (by omega)
    unfold TxtsPost at h
    rw [← hR] at h
    exact h.mono fun e w' ⟨A', c', us, q1, q2, q3⟩ => ⟨A', c', us, by rw [q1, hmb _ q2], q2, q3⟩)
  have HS : Hid (∀ (B : Option Addr) (cb : Nat) (W : World), Rd .u8 W B n bs → Rd .u8 W A2 n2 ts → n ≤ cb → cb ≤ 9223372036854775807 → Calls Try.prog 33 #[.slice B n cb, .slice A2 n2 c2] W fun e w' => e = .returned (.tuple #[.int .i64 S.1, .int .i64 S.2]) ∧ Ext W w') := Lib.hid (fun B cb W h1 h2 h3 h4 => by
    rw [hS]
    exact pseek_any B n cb A2 n2 c2 bs ts W h1 hu (by omega) h3 h4 h2 hu2 (by omega))
  have HT : Hid (∀ (B : Option Addr) (cb : Nat) (W : World), Rd .u8 W B n bs → Rd .u8 W A2 n2 ts → Calls Try.prog 34 #[.slice B n cb, .slice A2 n2 c2] W fun e w' => e = .returned (.tuple #[.int .i64 S.1, .int .i64 S.2]) ∧ Ext W w') := Lib.hid (fun B cb W h1 h2 => by
    rw [hS]
    exact refSeek_any B n cb A2 n2 c2 bs ts W h1 hu (by omega) h2 hu2 (by omega))
  obtain ⟨s1, s2⟩ := S
  simp only at HS HT
  have k1 : (E == E) = true := by simp
  have k2 : (s1 == s1) = true := by simp
  have k3 : (s2 == s2) = true := by simp
  have Hmb := Lib.hid hmb
  have Hfin := Lib.hid hfin
  have hm4 := hfin.1
  clear hm hR hS hu hu2 hmb hfin
  go_enter Try.func8, Try.ntmps8
  go_wp2_with fail
  refine (alive11 _).mono ?_
  rintro e w1 ⟨rfl, he1⟩
  go_wp2_with fail
  refine (wide_any A n c bs _ (hx.ext he1) (by omega)).mono ?_
  rintro e w2 ⟨B, cb, rfl, hown2, he2⟩
  have hr2 := hown2.rd_take (n := n) (by rw [List.length_append, hx.len]; omega)
  rw [List.take_left' hx.len] at hr2
  have hri := hown2.rd' (n := n + 64) (by rw [List.length_append, hx.len]; rfl)
  have hBb := hown2.block
  obtain ⟨b, rfl, _, hb, hcap, hcm⟩ := hown2.form (by rw [List.length_append, marks_len]; omega)
  rw [List.length_append, hx.len, marks_len] at hcap
  have hx2 := (hx.ext he1).ext he2
  have hy2 := (hy.ext he1).ext he2
  have hE2 := he1.trans he2
  have hcn : n ≤ cb := by omega
  have HBb := Lib.hid hBb
  clear hown2 hx hy hBb
  go_wp2_with fail
  refine (HP.out _ _ _ hr2 hcn hcm).mono ?_
  rintro e w3 ⟨A3, c3, us, rfl, hb3, hown3, htx3, he3⟩
  go_wp2_with fail
  refine (HR.out _ _ _ (hx2.ext he3)).mono ?_
  rintro e w4 ⟨A4, c4, vs, rfl, hb4, hown4, htx4, he4⟩
  go_wp2_with fail
  refine (HS.out _ _ _ ((hr2.ext he3).ext he4) ((hy2.ext he3).ext he4) hcn hcm).mono ?_
  rintro e w5 ⟨rfl, he5⟩
  go_wp2_with fail
  refine (HT.out _ _ _ (((hx2.ext he3).ext he4).ext he5) (((hy2.ext he3).ext he4).ext he5)).mono ?_
  rintro e w6 ⟨rfl, he6⟩
  have hE26 := ((he3.trans he4).trans he5).trans he6
  have HAp := Lib.hid (apartAll2 hown3 htx3 he3 hown4 htx4 he4 (he5.trans he6) (hb3.trans hb4.symm) (Hmb.out _ hb3) (by omega) (bodies_mem hb3 Hfin.out.2))
  have Habove := Lib.hid htx3.above
  have Hlt := Lib.hid htx3.lt
  clear hb3 hb4 hown3 hown4 htx3 htx4
  go_wp2_with fail
  refine HAp.out.mono ?_
  rintro e w7 ⟨rfl, hk⟩
  have hW7 : Rd .u8 w7 (some ⟨b, 0, none⟩) (n + 64) (bs ++ marks 64) := (hri.ext hE26).kept hk (fun _ => far_below Habove.out (fun q hq => (HBb.out q hq).2))
  have hx7 : Rd .u8 w7 A n bs := (hx2.ext hE26).kept hk (fun h0 => far_below Habove.out (fun q hq => hx2.lt h0 q hq))
  have hE7 : Ext w w7 := hk.ext0 (hE2.trans hE26) (fun s hs p hp => Nat.le_trans hE2.size (Habove.out s hs p hp))
  clear hk
  go_wp2_with fail
  refine (intact_yes hW7 hx7 (by omega) (by omega)).mono ?_
  rintro e w8 ⟨rfl, q8, rfl⟩
  go_wp2_with fail
  go_ret
  exact ⟨rfl, hE7.drewN _⟩

set_option maxHeartbeats 3200000 in
theorem walk_PrefixBack (A : Option Addr) (n c : Nat) (ss : List Sl) (A2 : Option Addr) (n2 c2 : Nat) (bs : List Nat) (w : World) (hx : TxL w A n ss) (hn : n ≤ 5900000000000) (hy : Rd .u8 w A2 n2 bs) (hu : U8 bs) (hn2 : n2 * 1 ≤ 140737488351232) :
    Calls Try.prog 9 #[.slice A n c, .slice A2 n2 c2] w fun e w' => e = .returned (.bool true) ∧ Ext w w' := by
  have hlen := hx.len
  have hE1 : ∀ (B : Option Addr) (cb k : Nat) (us : List Sl) (W : World), TxL W B k us → k ≤ 140737488355328 → Calls Try.prog 29 #[.slice B k cb] W (PEncPost (pencR (bodies us)) W) := fun B cb k us W h1 h2 => pencode_any B k cb us W h1 h2
  have hD : ∀ (B : Option Addr) (cb k : Nat) (xs : List Nat) (W : World), Rd .u8 W B k xs → U8 xs → k ≤ 140737488355328 → k ≤ cb → cb ≤ 9223372036854775807 → Calls Try.prog 31 #[.slice B k cb] W (TxtsPost (pdec xs) W) := fun B cb k xs W h1 h2 h3 h4 h5 => pdecode11_any B k cb xs W h1 h2 h3 h4 h5
  have HE1 := Lib.hid hE1
  have HD := Lib.hid hD
  have Hx := Lib.hid hx
  have Hlen := Lib.hid hlen
  by_cases hbad : 4096 < (bodies ss).length ∨ anyLong (bodies ss) = true
  · have HR := Lib.hid (pencR_bad hbad)
    clear hbad hE1 hD hx hlen
    go_enter Try.func9, Try.ntmps9
    go_wp2_with fail
    refine (alive11 _).mono ?_
    rintro e w1 ⟨rfl, he1⟩
    go_wp2_with fail
    refine (HE1.out _ _ _ _ _ (Hx.out.ext he1) (by omega)).mono ?_
    rintro e w2 ⟨A3, c3, rfl, _, he2⟩
    rw [HR.out]
    simp only
    rw [show ([] : List Nat).length = 0 from rfl]
    go_wp2_with fail
    refine (refEncode11_any _ _ _ _ _ ((Hx.out.ext he1).ext he2) (by omega)).mono ?_
    rintro e w3 ⟨A4, c4, rfl, _, he3⟩
    rw [HR.out]
    simp only
    rw [show ([] : List Nat).length = 0 from rfl]
    go_wp2_with fail
    go_ret
    exact ⟨rfl, (he1.trans he2).trans he3⟩
  · have hgn : (bodies ss).length ≤ 4096 := by
      rcases Nat.lt_or_ge 4096 (bodies ss).length with q | q
      · exact absurd (.inl q) hbad
      · exact q
    have hgl : anyLong (bodies ss) = false := by
      cases q : anyLong (bodies ss) with
      | true => exact absurd (.inr q) hbad
      | false => rfl
    have HR := Lib.hid (pencR_good hgn hgl)
    have hP : ∃ P, P = penc (bodies ss) := ⟨_, rfl⟩
    obtain ⟨P, hP⟩ := hP
    rw [← hP] at HR
    have hPl : P.length ≤ 1000000 := by rw [hP]; exact penc_len hgn (anyLong_no hgl)
    have HPu := Lib.hid (show U8 P by rw [hP]; exact penc_u8 (bodies_mem_of hx))
    have HP1 := Lib.hid (show pdec P = (bodies ss, 0) by have := pdec_put (bodies ss) [] hgn (anyLong_no hgl); rw [List.append_nil] at this; rw [hP, this]; rfl)
    have HP2 := Lib.hid (show pdec (P ++ [0]) = ([], 3) by rw [hP, pdec_put (bodies ss) [0] hgn (anyLong_no hgl)]; rfl)
    have HPu2 := Lib.hid (show U8 (P ++ [0]) by
      intro v hv
      rcases List.mem_append.1 hv with h | h
      · exact HPu.out v h
      · simp at h; omega)
    obtain ⟨p, hp⟩ : ∃ p, p = P.length := ⟨_, rfl⟩
    rw [← hp] at hPl
    have Hp := Lib.hid hp.symm
    clear hp hP hbad hgn hgl
    obtain ⟨⟨L, E⟩, hR⟩ : ∃ R, R = pdec bs := ⟨_, rfl⟩
    have Hy := Lib.hid hy
    have Hu := Lib.hid hu
    have HRd := Lib.hid hR.symm
    have hno : E ≠ 0 → L = [] := fun h => pdec_no hR.symm h
    have hyes : E = 0 → pencR L = (bs, 0) ∧ L.length ≤ 4096 ∧ ∀ s ∈ L, U8 s ∧ s.length ≤ 140737488355328 := fun h => by
      subst h
      obtain ⟨h1, h2, h3⟩ := pdec_ok hu hR.symm
      refine ⟨?_, h2, fun s hs => ⟨(h3 s hs).2, by have := (h3 s hs).1; omega⟩⟩
      rw [← h1]
      refine pencR_good h2 ?_
      cases q : anyLong L with
      | false => rfl
      | true =>
        obtain ⟨s, hs, hl⟩ := anyLong_iff.1 q
        have := (h3 s hs).1
        omega
    have Hno := Lib.hid hno
    have Hyes := Lib.hid hyes
    clear hE1 hD hx hlen hno hyes hR hy hu
    go_enter Try.func9, Try.ntmps9
    go_wp2_with fail
    refine (alive11 _).mono ?_
    rintro e w1 ⟨rfl, he1⟩
    go_wp2_with fail
    refine (HE1.out _ _ _ _ _ (Hx.out.ext he1) (by omega)).mono ?_
    rintro e w2 ⟨A3, c3, rfl, hown3, he2⟩
    rw [HR.out] at hown3 ⊢
    simp only at hown3 ⊢
    rw [Hp.out]
    have hr3 := hown3.rd' Hp.out
    have hcap3 := hown3.cap
    rw [Hp.out] at hcap3
    obtain ⟨hc3, hc3m⟩ := hcap3
    have hE2 := he1.trans he2
    clear hown3
    go_wp2_with fail
    refine (HD.out _ _ _ _ _ hr3 HPu.out (by omega) hc3 hc3m).mono ?_
    rintro e w3 ⟨A4, c4, us, rfl, hb4, hown4, htx4, he3⟩
    rw [HP1.out] at hb4 ⊢
    simp only at hb4 ⊢
    have hlu : us.length = n := by rw [← bodies_len, hb4, bodies_len, Hlen.out]
    have hru := hown4.rdL
    rw [hlu] at hru ⊢
    have hrs := fun s hs => htx4.rd s hs
    have Hus := Lib.hid (bodies_all hb4 (P := fun b => b.length ≤ 140737488355328) (fun s hs => (Hx.out.each s hs).len))
    have Hb4 := Lib.hid hb4
    have Hru := Lib.hid hru
    have Hrs := Lib.hid hrs
    clear hown4 htx4 hb4 hru hrs hlu
    go_wp2_with fail
    refine (cat_any _ _ p _ 1 1 P [0] _ ((hr3.ext he3).ext ((Ext.refl _).alloc _)) (Rd.lit_at .u8 5 w3 [0] rfl rfl) (by omega)).mono ?_
    rintro e w4 ⟨A5, c5, rfl, hown5, he4⟩
    have hL5 : (P ++ [0]).length = p + 1 := by rw [List.length_append, Hp.out]; rfl
    have hr5 := hown5.rd' hL5
    have hcap5 := hown5.cap
    rw [hL5] at hcap5
    obtain ⟨hc5, hc5m⟩ := hcap5
    have hE4 : Ext w3 w4 := Ext.trans ((Ext.refl _).alloc _) he4
    clear hown5 he4 hL5
    go_wp2_with fail
    refine (HD.out _ _ _ _ _ hr5 HPu2.out (by omega) hc5 hc5m).mono ?_
    rintro e w5 ⟨A6, c6, vs, rfl, hb6, _, _, he5⟩
    rw [HP2.out] at hb6 ⊢
    simp only at hb6 ⊢
    have hE5 := hE4.trans he5
    clear hb6 hr5
    go_wp2_with fail
    refine (sameT_yes _ _ n _ n _ us ss _ (Hru.out.ext hE5) (((Hx.out.ext hE2).ext he3).ext hE5).rd Hb4.out (by omega) (fun s hs => ⟨(Hrs.out s hs).ext hE5, Hus.out s hs⟩) (((Hx.out.ext hE2).ext he3).ext hE5).rds).mono ?_
    rintro e w6 ⟨rfl, q6, rfl⟩
    have hE6 := ((hE2.trans he3).trans hE5).drewN q6
    go_wp2_with fail
    refine (copy_any A2 n2 c2 bs _ (Hy.out.ext hE6) (by omega)).mono ?_
    rintro e w7 ⟨A7, c7, rfl, hown7, he7⟩
    have hl7 := Hy.out.len
    have hr7 := hown7.rd' hl7
    have hcap7 := hown7.cap
    rw [hl7] at hcap7
    obtain ⟨hc7, hc7m⟩ := hcap7
    have hE7 := hE6.trans he7
    clear hown7 hl7 he7
    go_wp2_with fail
    refine (HD.out _ _ _ _ _ hr7 Hu.out (by omega) hc7 hc7m).mono ?_
    rintro e w8 ⟨A8, c8, ys, rfl, hb8, hown8, htx8, he8⟩
    rw [HRd.out] at hb8 ⊢
    simp only at hb8 ⊢
    have hE8 := hE7.trans he8
    by_cases hE : E = 0
    · subst hE
      obtain ⟨y1, y2, y3⟩ := Hyes.out rfl
      have hly : ys.length ≤ 4096 := by rw [← bodies_len, hb8]; exact y2
      obtain ⟨m, hm⟩ : ∃ m, ys.length = m := ⟨_, rfl⟩
      have hTL := TxL.of_own hown8 htx8 hm (bodies_mem hb8 y3)
      rw [hm] at hly ⊢
      have HG := Lib.hid (HE1.out A8 c8 m ys w8 hTL (by omega))
      rw [hb8, y1] at HG
      clear hown8 htx8 hm hTL y1 y2 y3 hb8
      go_wp2_with fail
      refine HG.out.mono ?_
      rintro e w9 ⟨A9, c9, rfl, hown9, he9⟩
      simp only at hown9 ⊢
      rw [Hy.out.len]
      have hr9 := hown9.rd' Hy.out.len
      go_wp2_with fail
      refine (same_yes hr9 ((Hy.out.ext hE8).ext he9) (by omega)).mono ?_
      rintro e w10 ⟨rfl, q10, rfl⟩
      go_wp2_with fail
      go_ret
      exact ⟨rfl, (hE8.trans he9).drewN _⟩
    · have hb1 : (E != 0) = true := by rw [bne_iff_ne]; exact hE
      have h0 : ys.length = 0 := by rw [← bodies_len, hb8, Hno.out hE]; rfl
      rw [h0]
      clear hown8 htx8 hb8 h0
      go_wp2_with fail
      go_ret
      exact ⟨rfl, hE8⟩

end Go.Proofs.Ytpdppldkebfikaa
