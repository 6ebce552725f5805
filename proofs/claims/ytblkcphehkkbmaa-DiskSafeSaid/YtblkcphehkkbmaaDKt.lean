/-
  Layer 14: DiskSafe, walked.
-/
import Derived.Test.YtblkcphehkkbmaaDKs
namespace Go.Proofs.Ytblkcphehkkbmaa
open Go.RowKit Go.Maps Go.WideMaps
set_option maxRecDepth 100000

set_option maxHeartbeats 12800000 in
theorem walk_DiskSafe (A1 : Option Addr) (n1 c1 : Nat) (ys : List Nat) (A2 : Option Addr) (n2 c2 : Nat) (zs : List Nat) (A3 : Option Addr) (n3 c3 : Nat) (xs : List (List UInt8)) (A4 : Option Addr) (n4 c4 : Nat) (ks : List Int) (w : World)
    (r1 : Rd .u8 w A1 n1 ys) (u1 : ∀ v ∈ ys, v < 256) (z1 : n1 ≤ 140737488355328) (r2 : Rd .u8 w A2 n2 zs) (u2 : ∀ v ∈ zs, v < 256) (z2 : n2 ≤ 140737488355328) (r3 : RdG shNm w A3 n3 xs) (l3 : ∀ x ∈ xs, x.length ≤ 140737488355328) (z3 : n3 * 16 ≤ 140737488355328) (r4 : RdG shZ w A4 n4 ks) (z4 : n4 ≤ 17592186044416) :
    Calls Try.prog 3 #[.slice A1 n1 c1, .slice A2 n2 c2, .slice A3 n3 c3, .slice A4 n4 c4] w fun e w' => e = .returned (.bool true) ∧ Ext w w' := by
  have hl1 := Lib.hid r1.len
  have hl2 := Lib.hid r2.len
  have R1 := Lib.hid r1
  have R2 := Lib.hid r2
  have R3 := Lib.hid r3
  have R4 := Lib.hid r4
  have L3 := Lib.hid l3
  clear r1 r2 r3 r4 l3
  go_enter Try.func3, Try.ntmps3
  go_wp2_with fail
  refine (alive14 _).mono ?_
  rintro e w1 ⟨rfl, he1⟩
  have HE1 := Lib.hid he1
  clear he1
  go_wp2_with fail
  refine (new_Dk 16777216 _).mono ?_
  rintro e w2 ⟨dp, rfl, h2, hE2⟩
  rw [newRoom] at h2
  have H2 := Lib.hid h2
  have E2 := Lib.hid (show Below w.heap.size w w2 from HE1.out.trans hE2)
  clear h2 hE2
  by_cases hb1 : (1048576 : Int) < (n1 : Int)
  · go_wp2
    go_ret
    exact ⟨rfl, E2.out⟩
  by_cases hb2 : (1048576 : Int) < (n2 : Int)
  · go_wp2
    go_ret
    exact ⟨rfl, E2.out⟩
  have hb1' : n1 ≤ 1048576 := by omega
  have hb2' : n2 ≤ 1048576 := by omega
  have hy : Hid (ys.length ≤ 1048576) := Lib.hid (by rw [hl1.out]; exact hb1')
  have hz : Hid (zs.length ≤ 1048576) := Lib.hid (by rw [hl2.out]; exact hb2')
  go_wp2_with fail
  refine (create_Dk H2.out (by show (0 : Int) ≤ 0 ∧ (0 : Int) < 1000000000000000; decide) (by show 0 < 10000000000000; decide) nF (by show (1 : Nat) ≤ 140737488355328; decide)).mono ?_
  rintro e w3 hL
  obtain ⟨rfl, q, hq3, h3, hB3⟩ := hL.well (plain_mkS ..) (fun k hk => ss_1 k) H2.out
  have H3 := Lib.hid h3
  have E3 := Lib.hid (hB3.below E2.out (fun i hi => Nat.lt_of_lt_of_le hi HE1.out.size))
  clear hL h3 hB3
  go_wp2_with fail
  refine (copy_any A1 n1 c1 ys _ (R1.out.ext (show Ext w _ from E3.out)) (by omega)).mono ?_
  rintro e v4 ⟨B4q, d4q, rfl, ho4, hx4⟩
  have hcp := ho4.cap
  have hbk := ho4.block
  have hrd := ho4.rd
  rw [hl1.out] at hcp hrd
  have HM := H3.out.more hx4
  have EM := below_ext E3.out hx4
  have HC := Lib.hid (append_Dk (ys := ys) (c := d4q) HM (by show (0 : Int) ≤ 1 ∧ (1 : Int) < 1000000000000000; decide) nF (by show (1 : Nat) ≤ 140737488355328; decide) (⟨⟨by show (0 : Int) ≤ 16777216; decide, by show (16777216 : Int) ≤ 16777216; decide⟩, by intro p f hf; simp only [mkS, List.mem_singleton, Prod.mk.injEq] at hf; obtain ⟨_, rfl⟩ := hf; simp only [List.length_nil]; omega⟩) hcp.1 hrd (fun v hv => u1 v hv) (fun _ a ha => .inr (hbk a ha)))
  have HMh := Lib.hid HM
  have EMh := Lib.hid EM
  clear ho4 hcp hbk hrd HM EM hx4
  go_wp2_with fail
  refine HC.out.mono ?_
  rintro e w4 hL
  obtain ⟨rfl, k4, hk4, h4, hB4⟩ := hL.well (plain_mkS ..) (fun k hk => ss_2 q ys hy.out) HMh.out
  have H4 := Lib.hid (h4.less (fun b hb => .inl hb))
  have E4 := Lib.hid (show Below w.heap.size w w4 from (hB4.less (fun b hb => .inl hb)).below EMh.out (fun i hi => Nat.lt_of_lt_of_le hi HE1.out.size))
  clear hL h4 hB4 HC HMh EMh
  go_wp2_with fail
  refine (sync_Dk H4.out (by show (0 : Int) ≤ 2 ∧ (2 : Int) < 1000000000000000; decide) (by show 1 < 10000000000000; decide) nF (by show (1 : Nat) ≤ 140737488355328; decide)).mono ?_
  rintro e w5 hL
  obtain ⟨rfl, k5, hk5, h5, hB5⟩ := hL.well (plain_mkS ..) (fun k hk => ss_3 q ys) H4.out
  have H5 := Lib.hid h5
  have E5 := Lib.hid (hB5.below E4.out (fun i hi => Nat.lt_of_lt_of_le hi HE1.out.size))
  clear hL h5 hB5
  go_wp2_with fail
  refine (syncdir_Dk H5.out (by show (0 : Int) ≤ 3 ∧ (3 : Int) < 1000000000000000; decide)).mono ?_
  rintro e w6 hL
  obtain ⟨rfl, k6, hk6, h6, hB6⟩ := hL.well (plain_mkS ..) (fun k hk => ss_4 q ys) H5.out
  have H6 := Lib.hid h6
  have E6 := Lib.hid (hB6.below E5.out (fun i hi => Nat.lt_of_lt_of_le hi HE1.out.size))
  clear hL h6 hB6
  go_wp2_with fail
  refine (copy_any A2 n2 c2 zs _ (R2.out.ext (show Ext w _ from E6.out)) (by omega)).mono ?_
  rintro e v7 ⟨B7q, d7q, rfl, ho7, hx7⟩
  have hcp := ho7.cap
  have hbk := ho7.block
  have hrd := ho7.rd
  rw [hl2.out] at hcp hrd
  have HM := H6.out.more hx7
  have EM := below_ext E6.out hx7
  have HC := Lib.hid (append_Dk (ys := zs) (c := d7q) HM (by show (0 : Int) ≤ 4 ∧ (4 : Int) < 1000000000000000; decide) nF (by show (1 : Nat) ≤ 140737488355328; decide) (⟨⟨by show (0 : Int) ≤ 16777216; decide, by show (16777216 : Int) ≤ 16777216; decide⟩, by intro p f hf; simp only [mkS, List.mem_singleton, Prod.mk.injEq] at hf; obtain ⟨_, rfl⟩ := hf; simp only; have := hy.out; omega⟩) hcp.1 hrd (fun v hv => u2 v hv) (fun _ a ha => .inr (hbk a ha)))
  have HMh := Lib.hid HM
  have EMh := Lib.hid EM
  clear ho7 hcp hbk hrd HM EM hx7
  go_wp2_with fail
  refine HC.out.mono ?_
  rintro e w7 hL
  obtain ⟨rfl, k7, hk7, h7, hB7⟩ := hL.well (plain_mkS ..) (fun k hk => ss_5 q ys zs hy.out hz.out) HMh.out
  have H7 := Lib.hid (h7.less (fun b hb => .inl hb))
  have E7 := Lib.hid (show Below w.heap.size w w7 from (hB7.less (fun b hb => .inl hb)).below EMh.out (fun i hi => Nat.lt_of_lt_of_le hi HE1.out.size))
  clear hL h7 hB7 HC HMh EMh
  have HLI := Lib.hid (LI.zero q ys zs hy.out hz.out)
  have hz3 : n3 ≤ 8796093022208 := by omega
  go_wp2_with fail
  go_loopw [11, 62] (fun _ i wr => ∃ (j c : Nat) (S : DS), j ≤ n3 ∧ c ≤ j ∧ i = .int .i64 (j : Int) ∧ Hid (LI q ys zs c S) ∧ Hid (DkR wr (fun b => b < w1.heap.size) dp S) ∧ Hid (Below w.heap.size w wr)) (fun _ i _ => n3 - (intOf i).toNat)
  case atStart => exact ⟨0, 0, _, Nat.zero_le _, Nat.le_refl _, rfl, HLI, H7, E7⟩
  case round =>
    obtain ⟨j, c, S, hj, hcj, rfl, HI, HD, HE⟩ := hrel
    by_cases hlt : j < n3
    · obtain ⟨b, o, x, hA, hbl, hx, hcx⟩ := (R3.out.ext (show Ext w wr from HE.out)).at_ hlt
      have hcx : wr.cell? ⟨b, o + j, none⟩ = some (nm x) := by simpa [shNm] using hcx 0 _ rfl
      rw [hA]
      have hxl := L3.out x (List.mem_of_getElem? hx)
      have Hlt := Lib.hid hlt
      clear hA hbl hx
      by_cases hne : x = nF
      · have e1 : (x.toArray.toList == nF.toArray.toList) = true := by rw [hne]; simp
        subst hne
        go_wp2_with fail
        go_roundw
        case rel => exact ⟨j + 1, c, S, by have := Hlt.out; omega, by omega, by go_num, HI, HD, HE⟩
        case measure => simp [intOf]; have := Hlt.out; omega
      · have e1 := neq_nm x nF hne
        have e2 : (x == [102]) = false := by simpa using hne
        have HC := Lib.hid (create_Dk HD.out (by have := HI.out.steps; omega) (by have := HI.out.cnt; omega) x hxl)
        have Hne := Lib.hid hne
        clear hne
        go_wp2_with fail
        refine HC.out.mono ?_
        rintro e w9 ⟨r, S', k, rfl, hD9, hE9, _, hB9⟩
        have HD9 := Lib.hid hD9
        have HE9 := Lib.hid hE9
        have HB9 := Lib.hid (hB9.below HE.out (fun i hi => Nat.lt_of_lt_of_le hi HE1.out.size))
        clear hD9 hE9 hB9
        go_wp2_with fail
        go_roundw
        case rel =>
          have h9 := HE9.out
          rw [fated_plain HI.out.pl] at h9
          have hn := HI.out.next x Hne.out k
          rw [← h9] at hn
          exact ⟨j + 1, c + 1, S', by have := Hlt.out; omega, by omega, by go_num, Lib.hid hn, HD9, HB9⟩
        case measure => simp [intOf]; have := Hlt.out; omega
    · obtain rfl : j = n3 := by omega
      have HO := Lib.hid (on_Dk (c := c4) HD.out (R4.out.ext (show Ext w wr from HE.out)) HI.out.fit (by omega) (fun h0 a ha => by have h5 := R4.out.lt h0 a ha; have h6 := HE1.out.size; show a.block < w1.heap.size; omega))
      clear hlt
      go_wp2_with fail
      refine HO.out.mono ?_
      rintro e w10 ⟨rfl, hD10, hB10⟩
      obtain ⟨m, hm1, hm2, hsz, hrdd, hfit⟩ := HI.out.after ks HD.out.nd hD10.nd
      have HD10 := Lib.hid hD10
      have HE10 := Lib.hid (show Ext w w10 from hB10.below HE.out (fun i hi => Nat.lt_of_lt_of_le hi HE1.out.size))
      have HS := Lib.hid (size_Dk hD10 nF (by show (1 : Nat) ≤ 140737488355328; decide))
      rw [hsz] at HS
      have HR := Lib.hid (read_Dk hD10 nF 0 (m : Int) (by show (1 : Nat) ≤ 140737488355328; decide) hfit)
      rw [hrdd] at HR
      have htl : ((ys ++ zs).take m).length = m := by rw [List.length_take]; omega
      simp only [htl] at HR
      have hge : (n1 : Int) ≤ (m : Int) := by have := hl1.out; omega
      have hmz : m ≤ 2097152 := by have := hy.out; have := hz.out; rw [List.length_append] at hm2; omega
      have Htl := Lib.hid htl
      clear hD10 hB10 hsz hrdd hfit htl hm1 hm2 HO
      go_wp2_with fail
      refine HS.out.mono ?_
      rintro e w11 ⟨rfl, rfl⟩
      go_wp2_with fail
      refine HR.out.mono ?_
      rintro e w12 ⟨Ab, cb, rfl, hob, hx12⟩
      have HOB := Lib.hid hob.rd
      rw [Htl.out] at HOB
      have HX12 := Lib.hid hx12
      have HE12 := Lib.hid (show Ext w w12 from HE10.out.trans hx12)
      clear hob hx12 HS HR
      go_wp2_with fail
      refine (cat_any A1 A2 n1 c1 n2 c2 ys zs _ (R1.out.ext HE12.out) (R2.out.ext HE12.out) (by omega)).mono ?_
      rintro e w13 ⟨Ac, cc, rfl, hoc, hx13⟩
      have HOC := Lib.hid hoc.rd
      have hlc : (ys ++ zs).length = n1 + n2 := by rw [List.length_append, hl1.out, hl2.out]
      rw [hlc] at HOC
      have HX13 := Lib.hid hx13
      clear hoc hx13 hlc
      go_wp2_with fail
      refine (piece_any Ac (n1 + n2) cc 0 (m : Int) (ys ++ zs) _ HOC.out (by omega) (by omega)).mono ?_
      rintro e w14 ⟨Ad, cd, rfl, hod, hx14⟩
      have HOD := Lib.hid hod.rd
      have HX14 := Lib.hid hx14
      have hpc : piece (ys ++ zs) 0 (m : Int) = (ys ++ zs).take m := by simp [piece]
      rw [hpc, Htl.out] at HOD
      rw [hpc, Htl.out]
      clear hod hx14 hpc
      go_wp2_with fail
      refine (same_any Ab Ad m cb m cd _ _ _ (HOB.out.ext (HX13.out.trans HX14.out)) HOD.out (by omega) (by omega)).mono ?_
      rintro e w15 ⟨rfl, q15, rfl⟩
      have HL := Lib.hid (loose_Dk (HD10.out.ext (HX12.out.trans ((HX13.out.trans HX14.out).drewN q15))))
      rw [show ((doOn ks S).chs.length : Int) = 0 from rfl] at HL
      have hdec : decide ((ys ++ zs).take m = (ys ++ zs).take m) = true := decide_eq_true rfl
      rw [hdec]
      clear hdec
      go_wp2_with fail
      refine HL.out.mono ?_
      rintro e w16 ⟨rfl, rfl⟩
      go_wp2
      go_ret
      exact ⟨rfl, HE12.out.trans ((HX13.out.trans HX14.out).drewN q15)⟩

end Go.Proofs.Ytblkcphehkkbmaa
