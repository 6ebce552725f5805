/-
  Layer 10: the program's Encode.
-/
import Derived.Test.YtpdppldkebfikaaD10f
import Derived.Test.YtpdppldkebfikaaM10b
import Derived.Test.YtpdppldkebfikaaCTp
import Derived.Test.YtpdppldkebfikaaTXK
import Derived.Test.YtpdppldkebfikaaP11b
namespace Go.Proofs.Ytpdppldkebfikaa
open Go.RowKit

theorem wdt_one (v : Nat) : wdt [v] = bl v := by simp [wdt]

theorem widthFor_any (n : Nat) (w : World) (hn : n ≤ 1000000) :
    Calls Try.prog 45 #[.int .i64 (n : Int)] w fun e w' => e = .returned (.int .i64 (wfor n)) ∧ Ext w w' := by
  by_cases h : n = 0
  · subst h
    go_enter Try.func45, Try.ntmps45
    go_wp2
    go_ret
    exact ⟨rfl, Ext.refl w⟩
  · obtain ⟨m, rfl⟩ : ∃ m, n = m + 1 := ⟨n - 1, by omega⟩
    have HW := Lib.hid (show wfor (m + 1) = bl m by unfold wfor; rw [if_neg h, Nat.add_sub_cancel])
    have hz : (((m : Int) + 1) == 0) = false := by rw [beq_eq_false_iff_ne]; omega
    clear h
    go_enter Try.func45, Try.ntmps45
    go_wp2_with fail
    refine (width_any _ 1 1 [m] _ (Rd.lit_at .u64 71 w [m] rfl rfl) (by intro v hv; simp at hv; omega) (by omega)).mono ?_
    rintro e w1 ⟨rfl, rfl⟩
    rw [wdt_one, ← HW.out]
    go_wp2_with fail
    go_ret
    exact ⟨rfl, (Ext.refl w).alloc _⟩

set_option maxHeartbeats 400000 in
theorem toPack_any (A : Option Addr) (n c : Nat) (ns : List Nat) (w : World) (hx : Rd .i64 w A n ns) (hn : n ≤ 1000000) (hs : ∀ v ∈ ns, v ≤ 1000000) :
    Calls Try.prog 46 #[.slice A n c] w fun e w' => ∃ A' c', e = .returned (.slice A' n c') ∧ Own .u64 71 w' w.heap.size A' c' ns ∧ Ext w w' := by
  have hl := hx.len
  have Hl := Lib.hid hl
  clear hl
  go_enter Try.func46, Try.ntmps46
  go_wp2_with (first | (at_make; refine wpList_mk .u64 71 rfl _ _ 66 rfl 8 Try.underlying66 Try.infoU64 _ _ n rfl rfl rfl rfl (by omega) (by omega) ?_; intro w7 hown7 he7) | fail)
  have h0 : Own .u64 71 w7 w.heap.size (some ⟨w.heap.size, 0, none⟩) n (ns.take 0 ++ List.replicate (n - 0) 0) := hown7
  have H0 := Lib.hid h0
  have He7 := Lib.hid he7
  clear hown7 h0 he7
  go_loopw [4, 5, 11] (fun _ _ i wr => ∃ q : Nat, q ≤ n ∧ i = .int .i64 q ∧ Hid (Own .u64 71 wr w.heap.size (some ⟨w.heap.size, 0, none⟩) n (ns.take q ++ List.replicate (n - q) 0)) ∧ Hid (Ext w wr)) (fun _ _ i _ => n - (intOf i).toNat)
  case atStart => exact ⟨0, Nat.zero_le _, rfl, H0.out, He7.out⟩
  case round =>
    clear H0 He7
    obtain ⟨q, hq, rfl, HNs, HE5⟩ := hrel
    by_cases hlt2 : q < n
    · obtain ⟨b, o, rfl, hb, hc⟩ := (hx.ext HE5.out).at_ hlt2
      have hvs : ns[q]? = some (ns.getD q 0) := by simp [List.getD, show q < ns.length by rw [Hl.out]; exact hlt2]
      have hv := hs _ (List.mem_of_getElem? hvs)
      obtain ⟨f, hfv⟩ : ∃ f, f = ns.getD q 0 := ⟨_, rfl⟩
      rw [← hfv] at hc hvs hv
      have hlen7 : (ns.take q ++ List.replicate (n - q) 0).length = n := by rw [List.length_append, List.length_take, List.length_replicate, Hl.out]; omega
      obtain ⟨b2, hb2, hbase, hblt, hcell, hfro, hset⟩ := HNs.out.at_ (j := q) (by rw [hlen7]; exact hlt2)
      injection hb2 with hb2
      injection hb2 with hb2
      subst hb2
      obtain ⟨hs1, hs2⟩ := hset f
      have hstep : (ns.take q ++ List.replicate (n - q) 0).set q f = ns.take (q + 1) ++ List.replicate (n - (q + 1)) 0 := by
        have hlq : (ns.take q).length = q := by rw [List.length_take, Hl.out]; omega
        rw [take_nextG ns q hvs, List.set_append_right _ _ (by omega), hlq, Nat.sub_self, show n - q = (n - (q + 1)) + 1 by omega, List.replicate_succ, List.set_cons_zero, List.append_assoc]
        rfl
      rw [hstep] at hs1
      have Hs1 := Lib.hid hs1
      have HE6 := Lib.hid (HE5.out.setCell (p := ⟨w.heap.size, q, none⟩) (Nat.le_refl _) (.int .u64 (f : Int)))
      obtain ⟨old, hold⟩ : ∃ v, v = Value.int .u64 (((ns.take q ++ List.replicate (n - q) 0).getD q 0 : Nat) : Int) := ⟨_, rfl⟩
      rw [← hold] at hcell
      clear hold hs1 hs2 hset hstep hlen7 hvs hfv hbase
      go_wp2_with fail
      go_roundw
      case rel => exact ⟨q + 1, by omega, by go_num, Hs1.out, HE6.out⟩
      case measure => simp [intOf]; omega
    · obtain rfl : n = q := by omega
      have hN2 := HNs.out
      rw [Nat.sub_self, List.replicate_zero, List.append_nil, List.take_of_length_le (by rw [Hl.out]; exact Nat.le_refl _)] at hN2
      have HNf := Lib.hid hN2
      clear hN2
      go_wp2_with fail
      go_ret
      exact ⟨_, _, rfl, HNf.out, HE5.out⟩

set_option maxHeartbeats 800000 in
theorem putEntries_any (A : Option Addr) (n c : Nat) (us : List Sl) (w : World) (hx : RdL w A n us) (hr : ∀ s ∈ us, Rd .u8 w s.A s.body.length s.body) (hn : n ≤ 4096) (hs : ∀ s ∈ us, s.body.length ≤ 200) :
    Calls Try.prog 48 #[.slice A n c] w fun e w' => ∃ A' c', e = .returned (.slice A' (vput n ++ entB (bodies us)).length c') ∧ Own .u8 5 w' w.heap.size A' c' (vput n ++ entB (bodies us)) ∧ Ext w w' := by
  have Hl := Lib.hid hx.1
  have hbl : (bodies us).length = n := by rw [bodies_len, Hl.out]
  have hVl := entB_len (bodies us) (fun x h => by obtain ⟨s, hs2, rfl⟩ := List.mem_map.1 h; exact hs s hs2)
  rw [hbl] at hVl
  obtain ⟨V, hV⟩ : ∃ V, V = vput n ++ entB (bodies us) := ⟨_, rfl⟩
  have hvn := vput_le (u := n) (by omega)
  have hVl2 : V.length ≤ 1000000 := by rw [hV, List.length_append]; omega
  rw [← hV]
  have HV := Lib.hid hV
  have HVl := Lib.hid hVl2
  clear hV hVl hVl2 hbl
  go_enter Try.func48, Try.ntmps48
  go_wp2_with fail
  refine (put_any n _ (by omega)).mono ?_
  rintro e w2 ⟨A2, c2, rfl, hown2, he2⟩
  have HP0 := Lib.hid (show vput n ++ entB ((bodies us).drop 0) = V by rw [HV.out]; rfl)
  go_wp2_with fail
  go_loopw [3, 5, 12] (fun v _ i wr => ∃ (j : Nat) (P : List Nat) (A' : Option Addr) (c' : Nat), j ≤ n ∧ i = .int .i64 j ∧ v = .slice A' P.length c' ∧ Hid (P ++ entB ((bodies us).drop j) = V) ∧ Own .u8 5 wr w.heap.size A' c' P ∧ Ext w wr) (fun _ _ i _ => n - (intOf i).toNat)
  case atStart => exact ⟨0, _, A2, c2, Nat.zero_le _, rfl, rfl, HP0.out, hown2, he2⟩
  case round =>
    clear HP0 hown2 he2
    obtain ⟨j, P, A', c', hj, rfl, rfl, HP, hown, he⟩ := hrel
    by_cases hlt : j < n
    · obtain ⟨b, o, s, rfl, hf, hc⟩ := (hx.ext he).at_ hlt
      have hst := entB_step (bodies_at hf)
      have hsl := hs s (List.mem_of_getElem? hf)
      have hrs := hr s (List.mem_of_getElem? hf)
      obtain ⟨sA, sc, body⟩ := s
      simp only at hc hsl hst hrs
      have hPl : P.length ≤ 1000000 := by have := HVl.out; rw [← HP.out, List.length_append] at this; omega
      have hN : (P ++ vput body.length ++ body) ++ entB ((bodies us).drop (j + 1)) = V := by
        rw [← HP.out, hst]
        simp
      have HN := Lib.hid hN
      obtain ⟨m, hm⟩ : ∃ m, m = body.length := ⟨_, rfl⟩
      rw [← hm] at hc hsl hrs HN
      have Hm := Lib.hid hm
      have Hrs := Lib.hid hrs
      clear hN hst hf hm hrs HP
      go_wp2_with fail
      refine (put_any m _ (by omega)).mono ?_
      rintro e w4 ⟨A4, c4, rfl, hown4, he4⟩
      have hown3 := hown.ext he4
      have hE4 := he.trans he4
      have hv1 := vput_le (u := m) (by omega)
      have hL5 : (P ++ vput m).length = P.length + (vput m).length := List.length_append
      go_wp2_with (first
        | (at_builtin; refine wpList_pushes .u8 5 rfl _ _ 34 rfl _ 1 Try.underlying34 Try.infoU8 rfl hown3 P.length rfl rfl rfl hown4.rd (by omega) (by omega) hE4 hE4.size ?_; intro A5 c5 w5 hown5 hb5 hz5)
        | (at_builtin; refine wpList_pushes .u8 5 rfl _ _ 34 rfl _ 1 Try.underlying34 Try.infoU8 rfl hown5 _ hL5 rfl rfl (Hrs.out.ext hb5) (by omega) (by omega) hb5 hz5 ?_; intro A6 c6 w6 hown6 hb6 hz6)
        | fail)
      go_roundw
      case rel => exact ⟨j + 1, _, A6, c6, by omega, by go_num, by rw [List.length_append, List.length_append, ← Hm.out], HN.out, hown6, hb6⟩
      case measure => simp [intOf]; omega
    · obtain rfl : j = n := by omega
      have hfin := Lib.hid (show P = V by rw [← HP.out, List.drop_of_length_le (by rw [bodies_len, Hl.out]; exact Nat.le_refl _)]; simp [entB])
      go_wp2
      go_ret
      exact ⟨A', c', by rw [hfin.out]; rfl, by rw [← hfin.out]; exact hown, he⟩

set_option maxHeartbeats 1600000 in
theorem dencode_any (A : Option Addr) (n c : Nat) (ss : List Sl) (w : World) (hx : TxL w A n ss) (hn : n ≤ 140737488355328) :
    Calls Try.prog 18 #[.slice A n c] w (PEncPost (dencR (bodies ss)) w) := by
  have HI := Lib.hid (pindex_any A n c ss w hx hn)
  have hbl : (bodies ss).length = n := by rw [bodies_len, hx.len]
  by_cases hbad : 4096 < (bodies ss).length ∨ anyLong (bodies ss) = true
  · have HR := Lib.hid (dencR_bad hbad)
    rw [idxR_bad hbad] at HI
    clear hbad hx hbl
    go_enter Try.func18, Try.ntmps18
    go_wp2_with fail
    refine HI.out.mono ?_
    rintro e w1 ⟨A1, c1, us, B, cB, rfl, hb, _, _, _, he1⟩
    simp only at hb ⊢
    rw [show us.length = 0 by rw [← bodies_len, hb]; rfl, show ([] : List Nat).length = 0 from rfl]
    clear hb
    go_wp2_with fail
    go_ret2
    exact PEncPost.bad _ HR.out he1
  · have hgn : (bodies ss).length ≤ 4096 := by
      rcases Nat.lt_or_ge 4096 (bodies ss).length with q | q
      · exact absurd (.inl q) hbad
      · exact q
    have hgl : anyLong (bodies ss) = false := by
      cases q : anyLong (bodies ss) with
      | true => exact absurd (.inr q) hbad
      | false => rfl
    have HR := Lib.hid (dencR_good hgn hgl)
    rw [idxR_good hgn hgl, show (bodies ss).map (fun s => skN s (dents (bodies ss))) = dcodes (bodies ss) from rfl] at HI
    have hdl := denc_len hgn hgl
    have hLn := dents_len _ (bodies ss) rfl
    have hns := dcodes_lt (ss := bodies ss)
    have hcl := dcodes_len (bodies ss)
    have hshort := dents_short hgl
    obtain ⟨hp1, hp2⟩ := pack_good (by omega) (by omega) hns
    obtain ⟨L, hL⟩ : ∃ L, L = dents (bodies ss) := ⟨_, rfl⟩
    obtain ⟨ns, hnse⟩ : ∃ ns, ns = dcodes (bodies ss) := ⟨_, rfl⟩
    have hden : denc (bodies ss) = (vput L.length ++ entB L) ++ (vput ns.length ++ packB (wfor L.length) ns) := by rw [hL, hnse]; rfl
    rw [← hL] at HI hLn hns hp1 hp2 hshort
    rw [← hnse] at HI hns hp1 hp2 hcl
    obtain ⟨V, hV⟩ : ∃ V, V = denc (bodies ss) := ⟨_, rfl⟩
    rw [← hV] at HR hdl hden
    obtain ⟨m, hm⟩ : ∃ m, m = L.length := ⟨_, rfl⟩
    obtain ⟨k, hk⟩ : ∃ k, k = ns.length := ⟨_, rfl⟩
    rw [← hm] at hns hp1 hp2 hden hLn
    rw [← hk] at hden hcl
    have hcat : ([vput m ++ entB L, vput k, packB (wfor m) ns] : List (List Nat)).flatten = V := by rw [hden]; simp
    have Hcat := Lib.hid hcat
    have Hm := Lib.hid hm
    have Hk := Lib.hid hk
    have Hp1 := Lib.hid hp1
    have Hp2 := Lib.hid hp2
    have Hns := Lib.hid (show ∀ v ∈ ns, v ≤ 1000000 from fun v h => by have := hns v h; omega)
    have HnsU := Lib.hid (show U64 ns from fun v h => by have := hns v h; omega)
    have Hshort := Lib.hid hshort
    have hm4 : m ≤ 4096 := by omega
    have hk4 : k ≤ 4096 := by omega
    clear hbad hx hbl hL hnse hden hV hm hk hcat hp1 hp2 hns hshort hgn hgl hLn hcl
    go_enter Try.func18, Try.ntmps18
    go_wp2_with fail
    refine HI.out.mono ?_
    rintro e w1 ⟨A1, c1, us, B, cB, rfl, hb, hown, htx, hnum, he1⟩
    simp only at hb hnum ⊢
    have hul : us.length = m := by rw [Hm.out, ← hb, bodies_len]
    have hrd := hown.rdL
    rw [hul] at hrd ⊢
    rw [← Hk.out]
    have hnr := hnum.rd' Hk.out.symm
    have HPe := Lib.hid (fun (W : World) (hW : Ext w1 W) => putEntries_any A1 m c1 us W (hrd.ext hW) (fun s hs => (htx.rd s hs).ext hW) hm4 (fun s hs => Hshort.out _ (by rw [← hb]; exact List.mem_map.2 ⟨s, hs, rfl⟩)))
    rw [hb] at HPe
    clear hb hown htx hul hrd hnum
    go_wp2_with fail
    refine (widthFor_any m _ (by omega)).mono ?_
    rintro e w2 ⟨rfl, he2⟩
    go_wp2_with fail
    refine (toPack_any B k cB ns _ (hnr.ext he2) (by omega) Hns.out).mono ?_
    rintro e w3 ⟨A3, c3, rfl, hown3, he3⟩
    go_wp2_with fail
    refine (pack_any A3 k c3 (wfor m : Int) ns _ (hown3.rd' Hk.out.symm) HnsU.out (by omega)).mono ?_
    rintro e w4 ⟨A4, c4, rfl, hown4, he4⟩
    rw [Hp2.out] at hown4 ⊢
    rw [Hp1.out]
    obtain ⟨pl, hpl⟩ : ∃ pl, (packB (wfor m) ns).length = pl := ⟨_, rfl⟩
    rw [hpl]
    have hE4 : Ext w1 w4 := (he2.trans he3).trans he4
    have hr4 := hown4.rd' hpl
    clear hown3 hown4
    go_wp2_with fail
    refine (HPe.out _ hE4).mono ?_
    rintro e w5 ⟨A5, c5, rfl, hown5, he5⟩
    obtain ⟨el, hel⟩ : ∃ el, (vput m ++ entB L).length = el := ⟨_, rfl⟩
    rw [hel]
    have hr5 := hown5.rd' hel
    clear hown5
    go_wp2_with fail
    refine (put_any k _ (by omega)).mono ?_
    rintro e w6 ⟨A6, c6, rfl, hown6, he6⟩
    have hr6 := hown6.rd
    have hX := (Ext.refl w6).alloc (.cells #[.slice A5 el c5, .slice A6 (vput k).length c6, .slice A4 pl c4] 34)
    go_wp2_with fail
    refine (concat_any _ 3 3 [vput m ++ entB L, vput k, packB (wfor m) ns] _ (RdSS.three 34 w6 rfl (hr5.ext he6) hr6 ((hr4.ext he5).ext he6)) (by rw [Hcat.out]; omega) (by omega)).mono ?_
    rintro e w7 ⟨A7, c7, rfl, hown7, he7⟩
    rw [Hcat.out] at hown7 ⊢
    have hE7 : Ext w w7 := ((((he1.trans hE4).trans he5).trans he6).trans hX).trans he7
    have hb7 := (((he1.trans hE4).trans he5).trans he6).trans hX
    go_wp2_with fail
    go_ret2
    exact PEncPost.good _ HR.out rfl (hown7.mono hb7.size) hE7

end Go.Proofs.Ytpdppldkebfikaa
