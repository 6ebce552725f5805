/-
  Layer 10: the walk of DictBack.
-/
import Derived.Test.YtpdppldkebfikaaD10l
import Derived.Test.YtpdppldkebfikaaD10m
import Derived.Test.YtpdppldkebfikaaTXK
import Derived.Deep.RegionHeld3
namespace Go.Proofs.Ytpdppldkebfikaa
open Go.RowKit

/-- A text is the entry of its number. -/
theorem dents_of {ss : List (List Nat)} {x : Nat} {s : List Nat} (h : ss[x]? = some s) : ∃ u, (dcodes ss)[x]? = some u ∧ (dents ss)[u]? = some s := by
  refine ⟨skN s (dents ss), ?_, skN_at (dents_asc ss) (dents_mem.2 (List.mem_of_getElem? h))⟩
  unfold dcodes
  rw [List.getElem?_map, h]
  rfl

theorem quietD {P : Program} {f : FuncId} {args : Array Value} {w : World} {n : Nat} {v : Value} (h : Calls P f args (w.drewN n) fun e w' => e = .returned v ∧ ∃ q, w' = (w.drewN n).drewN q) : Calls P f args (w.drewN n) fun e w'' => e = .returned v ∧ ∃ m, w'' = w.drewN m :=
  h.mono fun _ _ ⟨he, q, hq⟩ => ⟨he, n + q, by rw [hq, World.drewN_drewN]⟩

set_option maxHeartbeats 6400000 in
set_option maxRecDepth 100000 in
theorem walk_DictBack (A : Option Addr) (n c : Nat) (ss : List Sl) (A2 : Option Addr) (n2 c2 : Nat) (bs : List Nat) (w : World) (hx : TxL w A n ss) (hn : n ≤ 5900000000000) (hy : Rd .u8 w A2 n2 bs) (hu : U8 bs) (hn2 : n2 * 1 ≤ 140737488351232) :
    Calls Try.prog 6 #[.slice A n c, .slice A2 n2 c2] w fun e w' => e = .returned (.bool true) ∧ Ext w w' := by
  have hlen := hx.len
  have hE1 : ∀ (B : Option Addr) (cb k : Nat) (us : List Sl) (W : World), TxL W B k us → k ≤ 140737488355328 → Calls Try.prog 18 #[.slice B k cb] W (PEncPost (dencR (bodies us)) W) := fun B cb k us W h1 h2 => dencode_any B k cb us W h1 h2
  have hD : ∀ (B : Option Addr) (cb k : Nat) (xs : List Nat) (W : World), Rd .u8 W B k xs → U8 xs → k ≤ 140737488351232 → k ≤ cb → cb ≤ 9223372036854775807 → Calls Try.prog 22 #[.slice B k cb] W (TxtsPost (ddec xs) W) := fun B cb k xs W h1 h2 h3 h4 h5 => ddecode_any B k cb xs W h1 h2 h3 h4 h5
  have HI := Lib.hid (fun (W : World) (hW : Ext w W) => pindex_any A n c ss W (hx.ext hW) (by omega))
  have HE1 := Lib.hid hE1
  have HD := Lib.hid hD
  have Hx := Lib.hid hx
  have Hlen := Lib.hid hlen
  by_cases hbad : 4096 < (bodies ss).length ∨ anyLong (bodies ss) = true
  · have HR := Lib.hid (dencR_bad hbad)
    have HQ := Lib.hid (idxR_bad hbad)
    clear hbad hE1 hD hx hlen
    go_enter Try.func6, Try.ntmps6
    go_wp2_with fail
    refine (alive10 _).mono ?_
    rintro e w1 ⟨rfl, he1⟩
    go_wp2_with fail
    refine (HI.out _ he1).mono ?_
    rintro e w2 ⟨A1, c1, us, B, cB, rfl, hb, _, _, _, he2⟩
    rw [HQ.out] at hb ⊢
    simp only at hb ⊢
    rw [show us.length = 0 by rw [← bodies_len, hb]; rfl, show ([] : List Nat).length = 0 from rfl]
    clear hb
    go_wp2_with fail
    refine (HE1.out _ _ _ _ _ ((Hx.out.ext he1).ext he2) (by omega)).mono ?_
    rintro e w3 ⟨A3, c3, rfl, _, he3⟩
    rw [HR.out]
    simp only
    rw [show ([] : List Nat).length = 0 from rfl]
    go_wp2_with fail
    refine (refIndex_any _ _ _ _ _ (((Hx.out.ext he1).ext he2).ext he3) (by omega)).mono ?_
    rintro e w4 ⟨A4, c4, vs, B4, cB4, rfl, hb4, _, _, he4⟩
    rw [HQ.out] at hb4 ⊢
    simp only at hb4 ⊢
    clear hb4
    go_wp2_with fail
    go_ret
    exact ⟨rfl, ((he1.trans he2).trans he3).trans he4⟩
  · obtain ⟨hgn, hgl⟩ := not_bad10 hbad
    have HR := Lib.hid (dencR_good hgn hgl)
    have HQ := Lib.hid (show idxR (bodies ss) = (dents (bodies ss), dcodes (bodies ss), 0) from idxR_good hgn hgl)
    obtain ⟨P, hP⟩ : ∃ P, P = denc (bodies ss) := ⟨_, rfl⟩
    rw [← hP] at HR
    have hPl : P.length ≤ 1000000 := by rw [hP]; exact denc_len hgn hgl
    have HPu := Lib.hid (show U8 P by rw [hP]; exact denc_u8 (bodies_mem_of hx))
    have HP1 := Lib.hid (show ddec P = (bodies ss, 0) by rw [hP]; exact ddec_put hgn hgl)
    obtain ⟨p, hp⟩ : ∃ p, p = P.length := ⟨_, rfl⟩
    rw [← hp] at hPl
    have Hp := Lib.hid hp.symm
    have hn4 : n ≤ 4096 := by rw [← hlen, ← bodies_len]; exact hgn
    have hLl := dents_len _ (bodies ss) rfl
    have Hof := Lib.hid (fun (x : Nat) (s : List Nat) => dents_of (ss := bodies ss) (x := x) (s := s))
    have Hasc := Lib.hid (dents_asc (bodies ss))
    have Hcl := Lib.hid (show (dcodes (bodies ss)).length = n by rw [dcodes_len, bodies_len, hlen])
    have Hlt := Lib.hid (dcodes_lt (ss := bodies ss))
    have Hsh := Lib.hid (dents_short hgl)
    obtain ⟨L, hL⟩ : ∃ L, L = dents (bodies ss) := ⟨_, rfl⟩
    obtain ⟨ns, hns⟩ : ∃ ns, ns = dcodes (bodies ss) := ⟨_, rfl⟩
    rw [← hL] at HQ hLl Hof Hasc Hlt Hsh
    rw [← hns] at HQ Hof Hcl Hlt
    obtain ⟨m, hm⟩ : ∃ m, L.length = m := ⟨_, rfl⟩
    rw [hm] at hLl
    rw [hm] at Hlt
    have hm4 : m ≤ 4096 := by omega
    have Hm := Lib.hid hm
    clear hp hP hbad hgn hgl hL hns hm
    obtain ⟨⟨L2, E⟩, hR⟩ : ∃ R, R = ddec bs := ⟨_, rfl⟩
    have Hy := Lib.hid hy
    have Hu := Lib.hid hu
    have HRd := Lib.hid hR.symm
    have hno : E ≠ 0 → L2 = [] := fun h => ddec_no hR.symm h
    have hyes : E = 0 → dencR L2 = (bs, 0) ∧ L2.length ≤ 4096 ∧ ∀ s ∈ L2, U8 s ∧ s.length ≤ 140737488355328 := fun h => by
      subst h
      obtain ⟨h1, h2, h3, h4⟩ := ddec_ok hu hR.symm
      refine ⟨?_, h2, fun s hs => ⟨(h4 s hs).1, by have := (h4 s hs).2; omega⟩⟩
      rw [← h1]
      exact dencR_good h2 h3
    have Hno := Lib.hid hno
    have Hyes := Lib.hid hyes
    clear hE1 hD hx hlen hno hyes hR hy hu
    go_enter Try.func6, Try.ntmps6
    go_wp2_with fail
    refine (alive10 _).mono ?_
    rintro e w1 ⟨rfl, he1⟩
    go_wp2_with fail
    refine (HI.out _ he1).mono ?_
    rintro e w2 ⟨A1, c1, us, B, cB, rfl, hb, hown, htx, hnum, he2⟩
    rw [HQ.out] at hb hnum ⊢
    simp only at hb hnum ⊢
    have hul : us.length = m := by rw [← Hm.out, ← hb, bodies_len]
    have hrd := hown.rdL
    rw [hul] at hrd ⊢
    rw [Hcl.out]
    have hnr := hnum.rd' Hcl.out
    have HB := Lib.hid hb
    have Htx := Lib.hid htx.rd
    clear hb hown htx hul hnum
    go_wp2_with fail
    refine (HE1.out _ _ _ _ _ ((Hx.out.ext he1).ext he2) (by omega)).mono ?_
    rintro e w3 ⟨A3, c3, rfl, hown3, he3⟩
    rw [HR.out] at hown3 ⊢
    simp only at hown3 ⊢
    rw [Hp.out]
    have hr3 := hown3.rd' Hp.out
    have hcap3 := hown3.cap
    rw [Hp.out] at hcap3
    obtain ⟨hc3, hc3m⟩ := hcap3
    have HE3 := Lib.hid ((he1.trans he2).trans he3)
    have Hr3 := Lib.hid hr3
    have Hrd := Lib.hid (RdL.ext hrd he3)
    have Hnr := Lib.hid (hnr.ext he3)
    have Hxr := Lib.hid (fun s hs => (Htx.out s hs).ext he3)
    clear hown3 hr3 hrd hnr he1 he2 he3 Htx
    go_wp2_with fail
    go_loopw [13, 14, 73] (fun _ _ i wr => ∃ x : Nat, x ≤ n ∧ i = .int .i64 x ∧ Hid (Ext w3 wr)) (fun _ _ i _ => n - (intOf i).toNat)
    case atStart => exact ⟨0, Nat.zero_le _, rfl, Ext.refl _⟩
    case round =>
      obtain ⟨x, hxn, rfl, HW⟩ := hrel
      by_cases hlt : x < n
      · obtain ⟨b, o, s, rfl, hf, hc, hs⟩ := (Hx.out.ext (HE3.out.trans HW.out)).at_ hlt
        obtain ⟨u, hu1, hu2⟩ := Hof.out x s.body (bodies_at hf)
        obtain ⟨b2, o2, rfl, _, hc2⟩ := (Hnr.out.ext HW.out).at_ hlt
        have hug : ns.getD x 0 = u := by simp [List.getD, hu1]
        rw [hug] at hc2
        have hum := Hlt.out u (List.mem_of_getElem? hu1)
        obtain ⟨b3, o3, t, rfl, hf3, hc3⟩ := (RdL.ext Hrd.out HW.out).at_ (j := u) hum
        have hbt : t.body = s.body := by
          have := bodies_at hf3
          rw [HB.out, hu2] at this
          injection this with this
          exact this.symm
        have hrt := (Hxr.out t (List.mem_of_getElem? hf3)).ext HW.out
        have hrs := hs.rd
        have hls : s.body.length ≤ 200 := Hsh.out _ (List.mem_of_getElem? hu2)
        obtain ⟨sA, sc, sb⟩ := s
        obtain ⟨tA, tc, tb⟩ := t
        simp only at hbt hc hc3 hrt hrs hls
        subst hbt
        have HC := Lib.hid (same_yes (c := tc) (c' := sc) hrt hrs (by omega))
        obtain ⟨tl, htl⟩ : ∃ tl, tl = tb.length := ⟨_, rfl⟩
        rw [← htl] at hc hc3 HC
        clear hf hf3 hu1 hu2 hug hrt hrs hls htl
        go_wp2_with fail
        refine HC.out.mono ?_
        rintro e' w5 ⟨rfl, q5, rfl⟩
        go_wp2_with fail
        go_roundw
        case rel => exact ⟨x + 1, by omega, by go_num, HW.out.drewN _⟩
        case measure => simp [intOf]; omega
      · obtain rfl : x = n := by omega
        obtain ⟨W4, hW4⟩ : ∃ W4, W4 = wr := ⟨_, rfl⟩
        subst hW4
        go_wp2_with fail
        go_loopw [15, 107] (fun _ i wr => ∃ y : Nat, y ≤ m ∧ i = .int .i64 y ∧ Hid (Ext W4 wr)) (fun _ i _ => m - (intOf i).toNat)
        case atStart => exact ⟨0, Nat.zero_le _, rfl, Ext.refl _⟩
        case round =>
          obtain ⟨y, hym, rfl, HV⟩ := hrel
          by_cases hlt : y < m
          · by_cases hy0 : y = 0
            · subst hy0
              have hd0 : decide ((0 : Int) < 0) = false := by decide
              go_wp2_with fail
              go_quiet (fail)
              go_wp2_with fail
              go_roundw
              case rel => exact ⟨0 + 1, by omega, by go_num, HV.out.drewN _⟩
              case measure => simp [intOf]; omega
            · obtain ⟨v, rfl⟩ : ∃ v, y = v + 1 := ⟨y - 1, by omega⟩
              obtain ⟨b, o, s, hA1, hf, hc⟩ := (RdL.ext Hrd.out (HW.out.trans HV.out)).at_ (j := v) (by omega)
              obtain ⟨b', o', t, hA1', hf', hc'⟩ := (RdL.ext Hrd.out (HW.out.trans HV.out)).at_ (j := v + 1) hlt
              rw [hA1] at hA1'
              injection hA1' with hA1'
              injection hA1' with q1 q2
              subst q1 q2
              subst hA1
              have hs1 := bodies_at hf
              have ht1 := bodies_at hf'
              rw [HB.out] at hs1 ht1
              have hord : ordT s.body t.body < 0 := by
                obtain ⟨h1, e1⟩ := List.getElem?_eq_some_iff.1 hs1
                obtain ⟨h2, e2⟩ := List.getElem?_eq_some_iff.1 ht1
                have := List.pairwise_iff_getElem.1 Hasc.out _ _ h1 h2 (Nat.lt_succ_self _)
                rw [e1, e2] at this
                exact this
              have hls := Hsh.out _ (List.mem_of_getElem? hs1)
              have hlt2 := Hsh.out _ (List.mem_of_getElem? ht1)
              have hrs := (Hxr.out s (List.mem_of_getElem? hf)).ext (HW.out.trans HV.out)
              have hrt := (Hxr.out t (List.mem_of_getElem? hf')).ext (HW.out.trans HV.out)
              obtain ⟨sA, sc, sb⟩ := s
              obtain ⟨tA, tc, tb⟩ := t
              simp only at hc hc' hrt hrs hls hlt2 hord
              have HC := Lib.hid (fun (k : Nat) => order_any sA tA sb.length sc tb.length tc sb tb (wr.drewN k) (hrs.drewN k) (hrt.drewN k) (by omega) (by omega))
              obtain ⟨sl, hsl⟩ : ∃ sl, sl = sb.length := ⟨_, rfl⟩
              obtain ⟨tl, htl⟩ : ∃ tl, tl = tb.length := ⟨_, rfl⟩
              rw [← hsl] at hc HC
              rw [← htl] at hc' HC
              obtain ⟨r, hr⟩ : ∃ r, r = ordT sb tb := ⟨_, rfl⟩
              rw [← hr] at HC hord
              have hdr : decide (0 ≤ r) = false := decide_eq_false (by omega)
              have i0 : (0 : Int) ≤ (v : Int) := by omega
              have i1 : (v : Int) < (m : Int) := by omega
              have i2 : (v : Int) + 1 < (m : Int) := by omega
              have i3 : (0 : Int) ≤ (v : Int) + 1 := by omega
              have i4 : (0 : Int) < (v : Int) + 1 := by omega
              have i5 : ((v : Int) + 1).toNat = v + 1 := by omega
              have i6 : IntKind.i64.wrap ((v : Int) + 1 - 1) = (v : Int) := (IntWalk.i64_in _ (by omega)).trans (by omega)
              clear hs1 ht1 hf hf' hrs hrt hls hlt2 hsl htl hr hord
              go_wp2_with fail
              go_quiet ((go_at_call 26; exact quietD (HC.out _)))
              clear i0 i1 i2 i3 i4 i5 i6
              go_wp2_with fail
              go_roundw
              case rel => exact ⟨v + 1 + 1, by omega, by go_num, HV.out.drewN _⟩
              case measure => simp [intOf]; omega
          · obtain rfl : y = m := by omega
            have HT := Lib.hid ((HE3.out.trans HW.out).trans HV.out)
            have hr3 := Hr3.out.ext (HW.out.trans HV.out)
            obtain ⟨W5, hW5⟩ : ∃ W5, W5 = wr := ⟨_, rfl⟩
            rw [← hW5] at hr3 HT ⊢
            clear hW5 HW HV
            go_wp2_with fail
            refine (HD.out _ _ _ _ _ hr3 HPu.out (by omega) hc3 hc3m).mono ?_
            rintro e w6 ⟨A4, c4, us2, rfl, hb4, hown4, htx4, he6⟩
            rw [HP1.out] at hb4 ⊢
            simp only at hb4 ⊢
            have hlu : us2.length = x := by rw [← bodies_len, hb4, bodies_len, Hlen.out]
            have hru := hown4.rdL
            rw [hlu] at hru ⊢
            have hrs := fun s hs => htx4.rd s hs
            have Hus := Lib.hid (bodies_all hb4 (P := fun b => b.length ≤ 140737488355328) (fun s hs => (Hx.out.each s hs).len))
            have Hb4 := Lib.hid hb4
            have Hru := Lib.hid hru
            have Hrs := Lib.hid hrs
            have HE6 := Lib.hid (HT.out.trans he6)
            clear hown4 htx4 hb4 hru hrs hlu he6 hr3
            go_wp2_with fail
            refine (sameT_yes _ _ x _ x _ us2 ss _ Hru.out (Hx.out.ext HE6.out).rd Hb4.out (by omega) (fun s hs => ⟨Hrs.out s hs, Hus.out s hs⟩) (Hx.out.ext HE6.out).rds).mono ?_
            rintro e w7 ⟨rfl, q7, rfl⟩
            have hE7 := HE6.out.drewN q7
            go_wp2_with fail
            refine (copy_any A2 n2 c2 bs _ (Hy.out.ext hE7) (by omega)).mono ?_
            rintro e w8 ⟨A7, c7, rfl, hown7, he8⟩
            have hl7 := Hy.out.len
            have hr7 := hown7.rd' hl7
            have hcap7 := hown7.cap
            rw [hl7] at hcap7
            obtain ⟨hc7, hc7m⟩ := hcap7
            have hE8 := hE7.trans he8
            clear hown7 hl7 he8
            go_wp2_with fail
            refine (HD.out _ _ _ _ _ hr7 Hu.out (by omega) hc7 hc7m).mono ?_
            rintro e w9 ⟨A8, c8, ys, rfl, hb8, hown8, htx8, he9⟩
            rw [HRd.out] at hb8 ⊢
            simp only at hb8 ⊢
            have hE9 := hE8.trans he9
            by_cases hE : E = 0
            · subst hE
              obtain ⟨y1, y2, y3⟩ := Hyes.out rfl
              have hly : ys.length ≤ 4096 := by rw [← bodies_len, hb8]; exact y2
              obtain ⟨yn, hyn⟩ : ∃ yn, ys.length = yn := ⟨_, rfl⟩
              have hTL := TxL.of_own hown8 htx8 hyn (bodies_mem hb8 y3)
              rw [hyn] at hly ⊢
              have HG := Lib.hid (HE1.out A8 c8 yn ys w9 hTL (by omega))
              rw [hb8, y1] at HG
              clear hown8 htx8 hyn hTL y1 y2 y3 hb8
              go_wp2_with fail
              refine HG.out.mono ?_
              rintro e w10 ⟨A9, c9, rfl, hown9, he10⟩
              simp only at hown9 ⊢
              rw [Hy.out.len]
              have hr9 := hown9.rd' Hy.out.len
              go_wp2_with fail
              refine (same_yes hr9 ((Hy.out.ext hE9).ext he10) (by omega)).mono ?_
              rintro e w11 ⟨rfl, q11, rfl⟩
              go_wp2_with fail
              go_ret
              exact ⟨rfl, (hE9.trans he10).drewN _⟩
            · have hb1 : (E != 0) = true := by rw [bne_iff_ne]; exact hE
              have h0 : ys.length = 0 := by rw [← bodies_len, hb8, Hno.out hE]; rfl
              rw [h0]
              clear hown8 htx8 hb8 h0
              go_wp2_with fail
              go_ret
              exact ⟨rfl, hE9⟩

end Go.Proofs.Ytpdppldkebfikaa
