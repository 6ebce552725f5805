/-
  Layer 14: DiskSwaps, walked.
-/
import Derived.Test.YtblkcphehkkbmaaDKw
namespace Go.Proofs.Ytblkcphehkkbmaa
open Go.RowKit Go.Maps Go.WideMaps
set_option maxRecDepth 100000

theorem EI.fit {old fresh : List Nat} {S : DS} (h : EI old fresh S) : Fit S 140737488355328 := ⟨by rw [h.room]; decide, fun p f hf => by have := h.len p f hf; omega⟩
theorem ldN (old : List Nat) (ids : Nat → Nat) : { ldS (newS 16777216) [(nN, old)] ids 1 with safe := (ldS (newS 16777216) [(nN, old)] ids 1).files, chs := [] } = mP [(nN, ids 0)] [(nN, ids 0)] [] [(ids 0, ⟨old, old.length⟩)] 0 (fun _ => (0, 0, 0)) := by
  have e : min (max (16777216 : Int) 0) 16777216 = 16777216 := by decide
  simp [ldS, ldStep, newS, putD, e]
theorem refN (ids : Nat → Nat) (old : List Nat) : refC (ldS (newS 16777216) [(nN, old)] ids 0) nN = 0 := by
  unfold refC
  rw [okN]
  simp [ldS, newS, lkp]

set_option maxHeartbeats 25600000 in
theorem walk_DiskSwaps (A1 : Option Addr) (n1 c1 : Nat) (old : List Nat) (A2 : Option Addr) (n2 c2 : Nat) (fresh : List Nat) (A3 : Option Addr) (n3 c3 : Nat) (fs : List (Int × Int × Int)) (A4 : Option Addr) (n4 c4 : Nat) (ks : List Int) (w : World)
    (r1 : Rd .u8 w A1 n1 old) (u1 : ∀ v ∈ old, v < 256) (z1 : n1 ≤ 140737488355328) (r2 : Rd .u8 w A2 n2 fresh) (u2 : ∀ v ∈ fresh, v < 256) (z2 : n2 ≤ 140737488355328) (r3 : RdG shFt w A3 n3 fs) (l3 : ∀ p ∈ fs, (Lit.int .i64 p.1).wf = true) (z3 : n3 ≤ 140737488355328) (r4 : RdG shZ w A4 n4 ks) (z4 : n4 ≤ 17592186044416) :
    Calls Try.prog 4 #[.slice A1 n1 c1, .slice A2 n2 c2, .slice A3 n3 c3, .slice A4 n4 c4] w fun e w' => e = .returned (.bool true) ∧ Ext w w' := by
  have hl1 := Lib.hid r1.len
  have hl2 := Lib.hid r2.len
  have R1 := Lib.hid r1
  have R2 := Lib.hid r2
  have R3 := Lib.hid r3
  have R4 := Lib.hid r4
  have L3 := Lib.hid l3
  clear r1 r2 r3 r4 l3
  go_enter Try.func4, Try.ntmps4
  go_wp2_with fail
  refine (alive14 _).mono ?_
  rintro e wa ⟨rfl, hea⟩
  have HEA := Lib.hid hea
  clear hea
  go_wp2_with fail
  refine (copy_any A1 n1 c1 old _ (R1.out.ext HEA.out) (by omega)).mono ?_
  rintro e wb ⟨Bq, dq, rfl, hob, hxb⟩
  have hbr := hob.rd
  rw [hl1.out] at hbr
  have HBR := Lib.hid hbr
  have HXB := Lib.hid hxb
  clear hob hbr hxb
  go_wp2_with fail
  obtain ⟨wl, hwl⟩ : ∃ wl, wl = wb.alloc (.cells #[nm nN, .slice Bq n1 dq] 47) := ⟨_, rfl⟩
  have hxl : Ext wb wl := by rw [hwl]; exact (Ext.refl wb).alloc _
  have hrow : RdG shF wl (some ⟨wb.heap.size, 0, none⟩) 1 [(nN, (⟨Bq, dq, old⟩ : Sl))] := by
    have q := RdG.lit shF 47 wb [(nN, (⟨Bq, dq, old⟩ : Sl))] (b := wb.heap.size) (n := 1) rfl rfl
    rw [hwl]
    have e : (shF.all [(nN, (⟨Bq, dq, old⟩ : Sl))]).toArray = #[nm nN, .slice Bq n1 dq] := by
      rw [← hl1.out]; rfl
    rw [e] at q
    exact q
  have HL := Lib.hid (load_any 16777216 (c := 1) hrow (fun r hr => by
    simp only [List.mem_singleton] at hr
    subst hr
    refine ⟨by show (4 : Nat) ≤ _; decide, ?_, fun v hv => u1 v hv, by show old.length ≤ _; rw [hl1.out]; omega⟩
    show Rd .u8 wl Bq old.length old
    rw [hl1.out]
    exact HBR.out.ext hxl) (by decide))
  rw [show ([(nN, (⟨Bq, dq, old⟩ : Sl))].map fun r : List UInt8 × Sl => (r.1, r.2.body)) = [(nN, old)] from rfl] at HL
  have HEL := Lib.hid (show Ext w wl from (HEA.out.trans HXB.out).trans hxl)
  rw [← hwl]
  clear hwl hrow hxl
  refine HL.out.mono ?_
  rintro e w0 hpost
  rcases hpost with hgood | ⟨ids, j, x, hj, _, hFj, _, hbad, _⟩
  rotate_left
  · exfalso
    have hj0 : j = 0 := by simp at hj; omega
    subst hj0
    simp at hFj
    subst hFj
    exact hbad (refN ids old)
  obtain ⟨dp, ids, rfl, hlaid, h0, hx0⟩ := hgood
  rw [show [(nN, old)].length = 1 from rfl, ldN] at h0
  obtain ⟨q0, hq0⟩ : ∃ q, q = ids 0 := ⟨_, rfl⟩
  rw [← hq0] at h0
  have H0 := Lib.hid h0
  have E0 := Lib.hid (show Below w.heap.size w w0 from HEL.out.trans hx0)
  clear hlaid h0 hx0 hq0 HL
  by_cases hb2 : (1048576 : Int) < (n2 : Int)
  · go_wp2
    go_ret
    exact ⟨rfl, E0.out⟩
  by_cases hb1 : (1048576 : Int) < (n1 : Int)
  · go_wp2
    go_ret
    exact ⟨rfl, E0.out⟩
  have hb1' : n1 ≤ 1048576 := by omega
  have hb2' : n2 ≤ 1048576 := by omega
  have ho : Hid (old.length ≤ 1048576) := Lib.hid (by rw [hl1.out]; exact hb1')
  have hn : Hid (fresh.length ≤ 1048576) := Lib.hid (by rw [hl2.out]; exact hb2')
  go_wp2_with fail
  refine (plan_Dk (c := c3) H0.out (R3.out.ext (show Ext w w0 from E0.out)) L3.out (by omega) (fun h0 a ha => by have h5 := R3.out.lt h0 a ha; have h6 := HEL.out.size; show a.block < wl.heap.size; omega)).mono ?_
  rintro e wc ⟨rfl, hD1, hB1⟩
  obtain ⟨pl, hpl⟩ : ∃ pl, pl = planL fs := ⟨_, rfl⟩
  rw [← hpl] at hD1
  have H1 := Lib.hid (show DkR wc (fun b => b < wl.heap.size) dp (mP [(nN, q0)] [(nN, q0)] [] [(q0, ⟨old, old.length⟩)] 0 pl) from hD1)
  have E1 := Lib.hid (show Below w.heap.size w wc from hB1.below E0.out (fun i hi => Nat.lt_of_lt_of_le hi HEL.out.size))
  clear hD1 hB1 hpl
  have Hq0 := Lib.hid (H1.out.lt (q := q0) (f := ⟨old, old.length⟩) (by simp))
  go_wp2_with fail
  refine (create_Dk H1.out (by show (0 : Int) ≤ 0 ∧ (0 : Int) < 1000000000000000; decide) (by show 0 < 10000000000000; decide) nT (by show (3 : Nat) ≤ 140737488355328; decide)).mono ?_
  rintro e w2 ⟨r2, S2, k2, rfl, hD2, hE2, hk2, hB2⟩
  have HK2 := Lib.hid hk2
  have H2 := Lib.hid (hD2)
  have E2 := Lib.hid (show Below w.heap.size w w2 from hB2.below E1.out (fun i hi => Nat.lt_of_lt_of_le hi HEL.out.size))
  have HF2 := Lib.hid hE2
  clear hD2 hE2 hB2 hk2
  by_cases hr2 : r2 = 0
  · subst hr2
    have hS2 := (fated_zero HF2.out).symm.trans (sw_1 q0 k2 pl)
    injection hS2 with _ hS2
    subst hS2
    clear HF2
    have HNE : Hid (q0 ≠ k2) := Lib.hid (by have := Hq0.out; have := HK2.out; omega)
    go_wp2_with fail
    refine (copy_any A2 n2 c2 fresh _ (R2.out.ext (show Ext w _ from E2.out)) (by omega)).mono ?_
    rintro e v3 ⟨Cq, eq, rfl, ho3, hx3⟩
    have hcp := ho3.cap
    have hbk := ho3.block
    have hrd := ho3.rd
    rw [hl2.out] at hcp hrd
    have HM3 := Lib.hid (H2.out.more hx3)
    have EM3 := Lib.hid (below_ext E2.out hx3)
    have HC := Lib.hid (append_Dk (ys := fresh) (c := eq) HM3.out (by show (0 : Int) ≤ 1 ∧ (1 : Int) < 1000000000000000; decide) nT (by show (3 : Nat) ≤ 140737488355328; decide) ⟨⟨by show (0 : Int) ≤ 16777216; decide, by show (16777216 : Int) ≤ 16777216; decide⟩, by
        intro p f hf
        have := ho.out
        simp only [List.mem_cons, Prod.mk.injEq, List.not_mem_nil, or_false] at hf
        rcases hf with ⟨_, rfl⟩ | ⟨_, rfl⟩ <;> (first | (show old.length ≤ _; omega) | (show fresh.length ≤ _; omega) | (show (0 : Nat) ≤ _; omega))⟩ hcp.1 hrd (fun v hv => u2 v hv) (fun _ a ha => .inr (hbk a ha)))
    clear ho3 hcp hbk hrd hx3
    go_wp2_with fail
    refine (HC.out).mono ?_
    rintro e w3 ⟨r3, S3, k3, rfl, hD3, hE3, hk3, hB3⟩
    have HK3 := Lib.hid hk3
    have H3 := Lib.hid (hD3.less (fun b hb => .inl hb))
    have E3 := Lib.hid (show Below w.heap.size w w3 from (hB3.less (fun b hb => .inl hb)).below EM3.out (fun i hi => Nat.lt_of_lt_of_le hi HEL.out.size))
    have HF3 := Lib.hid hE3
    clear hD3 hE3 hB3 hk3 HC HM3 EM3
    by_cases hr3 : r3 = 0
    · subst hr3
      have hS3 := (fated_zero HF3.out).symm.trans (sw_2 q0 k2 HNE.out pl ho.out hn.out)
      injection hS3 with _ hS3
      subst hS3
      clear HF3
      go_wp2_with fail
      refine (sync_Dk H3.out (by show (0 : Int) ≤ 2 ∧ (2 : Int) < 1000000000000000; decide) (by show 1 < 10000000000000; decide) nT (by show (3 : Nat) ≤ 140737488355328; decide)).mono ?_
      rintro e w4 ⟨r4, S4, k4, rfl, hD4, hE4, hk4, hB4⟩
      have HK4 := Lib.hid hk4
      have H4 := Lib.hid (hD4)
      have E4 := Lib.hid (show Below w.heap.size w w4 from hB4.below E3.out (fun i hi => Nat.lt_of_lt_of_le hi HEL.out.size))
      have HF4 := Lib.hid hE4
      clear hD4 hE4 hB4 hk4
      by_cases hr4 : r4 = 0
      · subst hr4
        have hS4 := (fated_zero HF4.out).symm.trans (sw_3 q0 k2 HNE.out pl)
        injection hS4 with _ hS4
        subst hS4
        clear HF4
        go_wp2_with fail
        refine (rename_Dk H4.out (by show (0 : Int) ≤ 3 ∧ (3 : Int) < 1000000000000000; decide) (by show 1 < 10000000000000; decide) nT nN (by show (3 : Nat) ≤ 140737488355328; decide) (by show (4 : Nat) ≤ 140737488355328; decide)).mono ?_
        rintro e w5 ⟨r5, S5, k5, rfl, hD5, hE5, hk5, hB5⟩
        have HK5 := Lib.hid hk5
        have H5 := Lib.hid (hD5)
        have E5 := Lib.hid (show Below w.heap.size w w5 from hB5.below E4.out (fun i hi => Nat.lt_of_lt_of_le hi HEL.out.size))
        have HF5 := Lib.hid hE5
        clear hD5 hE5 hB5 hk5
        by_cases hr5 : r5 = 0
        · subst hr5
          have hS5 := (fated_zero HF5.out).symm.trans (sw_4 q0 k2 pl)
          injection hS5 with _ hS5
          subst hS5
          clear HF5
          go_wp2_with fail
          refine (syncdir_Dk H5.out (by show (0 : Int) ≤ 4 ∧ (4 : Int) < 1000000000000000; decide)).mono ?_
          rintro e w6 ⟨r6, S6, k6, rfl, hD6, hE6, hk6, hB6⟩
          have HK6 := Lib.hid hk6
          have H6 := Lib.hid (hD6)
          have E6 := Lib.hid (show Below w.heap.size w w6 from hB6.below E5.out (fun i hi => Nat.lt_of_lt_of_le hi HEL.out.size))
          have HF6 := Lib.hid hE6
          clear hD6 hE6 hB6 hk6
          by_cases hr6 : r6 = 0
          · subst hr6
            have hS6 := (fated_zero HF6.out).symm.trans (sw_5 q0 k2 pl)
            injection hS6 with _ hS6
            subst hS6
            clear HF6
            have HEI := Lib.hid (ei_safe (files := [(nN, k2)]) (steps := 5) q0 k2 pl ho.out hn.out)
            have HCH : Hid ((mP [(nN, k2)] [(nN, k2)] [] [(q0, ⟨old, old.length⟩), (k2, ⟨fresh, fresh.length⟩)] 5 pl).chs = []) := Lib.hid rfl
            have HLK : Hid (lkp (mP [(nN, k2)] [(nN, k2)] [] [(q0, ⟨old, old.length⟩), (k2, ⟨fresh, fresh.length⟩)] 5 pl).safe nN = some k2) := Lib.hid (by simp [lkp])
            have HFR : Hid ((k2, (⟨fresh, fresh.length⟩ : FS)) ∈ (mP [(nN, k2)] [(nN, k2)] [] [(q0, ⟨old, old.length⟩), (k2, ⟨fresh, fresh.length⟩)] 5 pl).fl) := Lib.hid (by simp)
            have HZ := Lib.hid H6.out
            have EZ := Lib.hid E6.out
            go_wp2_with fail
            refine (on_Dk (c := c4) HZ.out (R4.out.ext (show Ext w _ from EZ.out)) (HEI.out.fit) (by omega) (fun h0 a ha => by have h5 := R4.out.lt h0 a ha; have h6 := HEL.out.size; show a.block < wl.heap.size; omega)).mono ?_
            rintro e wo ⟨rfl, hO, hBO⟩
            obtain ⟨d, hd1, hd2, hd3, hsz, hrdd, hfit⟩ := HEI.out.after ks hO.nd
            have HO := Lib.hid hO
            have EO := Lib.hid (show Ext w wo from hBO.below EZ.out (fun i hi => Nat.lt_of_lt_of_le hi HEL.out.size))
            have HS := Lib.hid (size_Dk hO nN (by show (4 : Nat) ≤ 140737488355328; decide))
            rw [hsz] at HS
            have HR := Lib.hid (read_Dk hO nN 0 (d.length : Int) (by show (4 : Nat) ≤ 140737488355328; decide) hfit)
            rw [hrdd] at HR
            have Hd1 := Lib.hid hd1
            have Hd2 := Lib.hid hd2
            obtain ⟨m, hm⟩ : ∃ m, m = d.length := ⟨_, rfl⟩
            rw [← hm] at HS HR hd3
            have Hm := Lib.hid hm
            clear hO hBO hsz hrdd hfit hd1 hd2 hm
            go_wp2_with fail
            refine HS.out.mono ?_
            rintro e wp ⟨rfl, rfl⟩
            go_wp2_with fail
            refine HR.out.mono ?_
            rintro e wq ⟨Ab, cb, rfl, hob, hxq⟩
            have HOB := Lib.hid hob.rd
            rw [← Hm.out] at HOB
            have EQ := Lib.hid (show Ext w wq from EO.out.trans hxq)
            clear hob hxq HS HR
            go_wp2_with fail
            have hdf : d = fresh := Hd2.out _ HCH.out HLK.out HFR.out
            refine (same_any Ab A2 m cb n2 c2 d fresh _ HOB.out (R2.out.ext EQ.out) (by omega) (by omega)).mono ?_
            rintro e wr ⟨rfl, q9, rfl⟩
            rw [decide_eq_true hdf]
            clear hdf
            go_wp2
            go_ret
            exact ⟨rfl, EQ.out.drewN q9⟩
          · have HEI : Hid (EI old fresh S6) := Lib.hid (by
              have q := ei_fated (S := mP [(nN, k2)] [(nN, q0)] [.cr nT k2, .mv nT nN] [(q0, ⟨old, old.length⟩), (k2, ⟨fresh, fresh.length⟩)] 4 pl) (f := doSyncDir) (g := fun S _ => S) (old := old) (fresh := fresh) (ei_new q0 k2 pl ho.out hn.out rfl) (by
                rw [show ({ (mP [(nN, k2)] [(nN, q0)] [.cr nT k2, .mv nT nN] [(q0, ⟨old, old.length⟩), (k2, ⟨fresh, fresh.length⟩)] 4 pl) with steps := 4 + 1 } : DS) = mP [(nN, k2)] [(nN, q0)] [.cr nT k2, .mv nT nN] [(q0, ⟨old, old.length⟩), (k2, ⟨fresh, fresh.length⟩)] 5 pl from rfl, sw_5 q0 k2 pl]
                exact ei_safe q0 k2 pl ho.out hn.out) (fun n => ei_new q0 k2 pl ho.out hn.out rfl)
              rw [← HF6.out] at q
              exact q)
            have hne6 : (r6 == 0) = false := by simpa using hr6
            have HZ := Lib.hid H6.out
            have EZ := Lib.hid E6.out
            clear hr6
            go_wp2_with fail
            refine (on_Dk (c := c4) HZ.out (R4.out.ext (show Ext w _ from EZ.out)) (HEI.out.fit) (by omega) (fun h0 a ha => by have h5 := R4.out.lt h0 a ha; have h6 := HEL.out.size; show a.block < wl.heap.size; omega)).mono ?_
            rintro e wo ⟨rfl, hO, hBO⟩
            obtain ⟨d, hd1, hd2, hd3, hsz, hrdd, hfit⟩ := HEI.out.after ks hO.nd
            have HO := Lib.hid hO
            have EO := Lib.hid (show Ext w wo from hBO.below EZ.out (fun i hi => Nat.lt_of_lt_of_le hi HEL.out.size))
            have HS := Lib.hid (size_Dk hO nN (by show (4 : Nat) ≤ 140737488355328; decide))
            rw [hsz] at HS
            have HR := Lib.hid (read_Dk hO nN 0 (d.length : Int) (by show (4 : Nat) ≤ 140737488355328; decide) hfit)
            rw [hrdd] at HR
            have Hd1 := Lib.hid hd1
            have Hd2 := Lib.hid hd2
            obtain ⟨m, hm⟩ : ∃ m, m = d.length := ⟨_, rfl⟩
            rw [← hm] at HS HR hd3
            have Hm := Lib.hid hm
            clear hO hBO hsz hrdd hfit hd1 hd2 hm
            go_wp2_with fail
            refine HS.out.mono ?_
            rintro e wp ⟨rfl, rfl⟩
            go_wp2_with fail
            refine HR.out.mono ?_
            rintro e wq ⟨Ab, cb, rfl, hob, hxq⟩
            have HOB := Lib.hid hob.rd
            rw [← Hm.out] at HOB
            have EQ := Lib.hid (show Ext w wq from EO.out.trans hxq)
            clear hob hxq HS HR
            go_wp2_with fail
            refine (same_any Ab A1 m cb n1 c1 d old _ HOB.out (R1.out.ext EQ.out) (by omega) (by omega)).mono ?_
            rintro e wr ⟨rfl, q9, rfl⟩
            by_cases hdo : d = old
            · rw [decide_eq_true hdo]
              clear hdo
              go_wp2
              go_ret
              exact ⟨rfl, EQ.out.drewN q9⟩
            · have hdf : d = fresh := by
                rcases Hd1.out with h | h
                · exact absurd h hdo
                · exact h
              rw [decide_eq_false hdo]
              have HDF := Lib.hid hdf
              clear hdo hdf
              go_wp2_with fail
              refine (same_any Ab A2 m cb n2 c2 d fresh _ (HOB.out.ext ((Ext.refl _).drewN q9)) (R2.out.ext (EQ.out.drewN q9)) (by omega) (by omega)).mono ?_
              rintro e ws ⟨rfl, q8, rfl⟩
              rw [decide_eq_true HDF.out]
              go_wp2
              go_ret
              exact ⟨rfl, EQ.out.drewN _⟩
        · have HEI : Hid (EI old fresh S5) := Lib.hid (by
            have q := ei_fated (S := mP [(nN, q0), (nT, k2)] [(nN, q0)] [.cr nT k2] [(q0, ⟨old, old.length⟩), (k2, ⟨fresh, fresh.length⟩)] 3 pl) (f := doRename nT nN) (g := fun S _ => S) (old := old) (fresh := fresh) (ei_old q0 k2 pl ho.out (.inr rfl) (by simp) (by
              intro p f hf
              have := ho.out
              have := hn.out
              simp only [List.mem_cons, Prod.mk.injEq, List.not_mem_nil, or_false] at hf
              rcases hf with ⟨_, rfl⟩ | ⟨_, rfl⟩ <;> (first | (show old.length ≤ _; omega) | (show fresh.length ≤ _; omega) | (show (0 : Nat) ≤ _; omega)))) (by
              rw [show ({ (mP [(nN, q0), (nT, k2)] [(nN, q0)] [.cr nT k2] [(q0, ⟨old, old.length⟩), (k2, ⟨fresh, fresh.length⟩)] 3 pl) with steps := 3 + 1 } : DS) = mP [(nN, q0), (nT, k2)] [(nN, q0)] [.cr nT k2] [(q0, ⟨old, old.length⟩), (k2, ⟨fresh, fresh.length⟩)] 4 pl from rfl, sw_4 q0 k2 pl]
              exact ei_new q0 k2 pl ho.out hn.out rfl) (fun n => ei_old q0 k2 pl ho.out (.inr rfl) (by simp) (by
              intro p f hf
              have := ho.out
              have := hn.out
              simp only [List.mem_cons, Prod.mk.injEq, List.not_mem_nil, or_false] at hf
              rcases hf with ⟨_, rfl⟩ | ⟨_, rfl⟩ <;> (first | (show old.length ≤ _; omega) | (show fresh.length ≤ _; omega) | (show (0 : Nat) ≤ _; omega))))
            rw [← HF5.out] at q
            exact q)
          have hne5 : (r5 == 0) = false := by simpa using hr5
          have HZ := Lib.hid H5.out
          have EZ := Lib.hid E5.out
          clear hr5
          go_wp2_with fail
          refine (on_Dk (c := c4) HZ.out (R4.out.ext (show Ext w _ from EZ.out)) (HEI.out.fit) (by omega) (fun h0 a ha => by have h5 := R4.out.lt h0 a ha; have h6 := HEL.out.size; show a.block < wl.heap.size; omega)).mono ?_
          rintro e wo ⟨rfl, hO, hBO⟩
          obtain ⟨d, hd1, hd2, hd3, hsz, hrdd, hfit⟩ := HEI.out.after ks hO.nd
          have HO := Lib.hid hO
          have EO := Lib.hid (show Ext w wo from hBO.below EZ.out (fun i hi => Nat.lt_of_lt_of_le hi HEL.out.size))
          have HS := Lib.hid (size_Dk hO nN (by show (4 : Nat) ≤ 140737488355328; decide))
          rw [hsz] at HS
          have HR := Lib.hid (read_Dk hO nN 0 (d.length : Int) (by show (4 : Nat) ≤ 140737488355328; decide) hfit)
          rw [hrdd] at HR
          have Hd1 := Lib.hid hd1
          have Hd2 := Lib.hid hd2
          obtain ⟨m, hm⟩ : ∃ m, m = d.length := ⟨_, rfl⟩
          rw [← hm] at HS HR hd3
          have Hm := Lib.hid hm
          clear hO hBO hsz hrdd hfit hd1 hd2 hm
          go_wp2_with fail
          refine HS.out.mono ?_
          rintro e wp ⟨rfl, rfl⟩
          go_wp2_with fail
          refine HR.out.mono ?_
          rintro e wq ⟨Ab, cb, rfl, hob, hxq⟩
          have HOB := Lib.hid hob.rd
          rw [← Hm.out] at HOB
          have EQ := Lib.hid (show Ext w wq from EO.out.trans hxq)
          clear hob hxq HS HR
          go_wp2_with fail
          refine (same_any Ab A1 m cb n1 c1 d old _ HOB.out (R1.out.ext EQ.out) (by omega) (by omega)).mono ?_
          rintro e wr ⟨rfl, q9, rfl⟩
          by_cases hdo : d = old
          · rw [decide_eq_true hdo]
            clear hdo
            go_wp2
            go_ret
            exact ⟨rfl, EQ.out.drewN q9⟩
          · have hdf : d = fresh := by
              rcases Hd1.out with h | h
              · exact absurd h hdo
              · exact h
            rw [decide_eq_false hdo]
            have HDF := Lib.hid hdf
            clear hdo hdf
            go_wp2_with fail
            refine (same_any Ab A2 m cb n2 c2 d fresh _ (HOB.out.ext ((Ext.refl _).drewN q9)) (R2.out.ext (EQ.out.drewN q9)) (by omega) (by omega)).mono ?_
            rintro e ws ⟨rfl, q8, rfl⟩
            rw [decide_eq_true HDF.out]
            go_wp2
            go_ret
            exact ⟨rfl, EQ.out.drewN _⟩
      · have HEI : Hid (EI old fresh S4) := Lib.hid (by
          have q := ei_fated (S := mP [(nN, q0), (nT, k2)] [(nN, q0)] [.cr nT k2] [(q0, ⟨old, old.length⟩), (k2, ⟨fresh, 0⟩)] 2 pl) (f := doSync nT) (g := fun S _ => S) (old := old) (fresh := fresh) (ei_old q0 k2 pl ho.out (.inr rfl) (by simp) (by
            intro p f hf
            have := ho.out
            have := hn.out
            simp only [List.mem_cons, Prod.mk.injEq, List.not_mem_nil, or_false] at hf
            rcases hf with ⟨_, rfl⟩ | ⟨_, rfl⟩ <;> (first | (show old.length ≤ _; omega) | (show fresh.length ≤ _; omega) | (show (0 : Nat) ≤ _; omega)))) (by
            rw [show ({ (mP [(nN, q0), (nT, k2)] [(nN, q0)] [.cr nT k2] [(q0, ⟨old, old.length⟩), (k2, ⟨fresh, 0⟩)] 2 pl) with steps := 2 + 1 } : DS) = mP [(nN, q0), (nT, k2)] [(nN, q0)] [.cr nT k2] [(q0, ⟨old, old.length⟩), (k2, ⟨fresh, 0⟩)] 3 pl from rfl, sw_3 q0 k2 HNE.out pl]
            exact ei_old q0 k2 pl ho.out (.inr rfl) (by simp) (by
            intro p f hf
            have := ho.out
            have := hn.out
            simp only [List.mem_cons, Prod.mk.injEq, List.not_mem_nil, or_false] at hf
            rcases hf with ⟨_, rfl⟩ | ⟨_, rfl⟩ <;> (first | (show old.length ≤ _; omega) | (show fresh.length ≤ _; omega) | (show (0 : Nat) ≤ _; omega)))) (fun n => ei_old q0 k2 pl ho.out (.inr rfl) (by simp) (by
            intro p f hf
            have := ho.out
            have := hn.out
            simp only [List.mem_cons, Prod.mk.injEq, List.not_mem_nil, or_false] at hf
            rcases hf with ⟨_, rfl⟩ | ⟨_, rfl⟩ <;> (first | (show old.length ≤ _; omega) | (show fresh.length ≤ _; omega) | (show (0 : Nat) ≤ _; omega))))
          rw [← HF4.out] at q
          exact q)
        have hne4 : (r4 == 0) = false := by simpa using hr4
        have HZ := Lib.hid H4.out
        have EZ := Lib.hid E4.out
        clear hr4
        go_wp2_with fail
        refine (on_Dk (c := c4) HZ.out (R4.out.ext (show Ext w _ from EZ.out)) (HEI.out.fit) (by omega) (fun h0 a ha => by have h5 := R4.out.lt h0 a ha; have h6 := HEL.out.size; show a.block < wl.heap.size; omega)).mono ?_
        rintro e wo ⟨rfl, hO, hBO⟩
        obtain ⟨d, hd1, hd2, hd3, hsz, hrdd, hfit⟩ := HEI.out.after ks hO.nd
        have HO := Lib.hid hO
        have EO := Lib.hid (show Ext w wo from hBO.below EZ.out (fun i hi => Nat.lt_of_lt_of_le hi HEL.out.size))
        have HS := Lib.hid (size_Dk hO nN (by show (4 : Nat) ≤ 140737488355328; decide))
        rw [hsz] at HS
        have HR := Lib.hid (read_Dk hO nN 0 (d.length : Int) (by show (4 : Nat) ≤ 140737488355328; decide) hfit)
        rw [hrdd] at HR
        have Hd1 := Lib.hid hd1
        have Hd2 := Lib.hid hd2
        obtain ⟨m, hm⟩ : ∃ m, m = d.length := ⟨_, rfl⟩
        rw [← hm] at HS HR hd3
        have Hm := Lib.hid hm
        clear hO hBO hsz hrdd hfit hd1 hd2 hm
        go_wp2_with fail
        refine HS.out.mono ?_
        rintro e wp ⟨rfl, rfl⟩
        go_wp2_with fail
        refine HR.out.mono ?_
        rintro e wq ⟨Ab, cb, rfl, hob, hxq⟩
        have HOB := Lib.hid hob.rd
        rw [← Hm.out] at HOB
        have EQ := Lib.hid (show Ext w wq from EO.out.trans hxq)
        clear hob hxq HS HR
        go_wp2_with fail
        refine (same_any Ab A1 m cb n1 c1 d old _ HOB.out (R1.out.ext EQ.out) (by omega) (by omega)).mono ?_
        rintro e wr ⟨rfl, q9, rfl⟩
        by_cases hdo : d = old
        · rw [decide_eq_true hdo]
          clear hdo
          go_wp2
          go_ret
          exact ⟨rfl, EQ.out.drewN q9⟩
        · have hdf : d = fresh := by
            rcases Hd1.out with h | h
            · exact absurd h hdo
            · exact h
          rw [decide_eq_false hdo]
          have HDF := Lib.hid hdf
          clear hdo hdf
          go_wp2_with fail
          refine (same_any Ab A2 m cb n2 c2 d fresh _ (HOB.out.ext ((Ext.refl _).drewN q9)) (R2.out.ext (EQ.out.drewN q9)) (by omega) (by omega)).mono ?_
          rintro e ws ⟨rfl, q8, rfl⟩
          rw [decide_eq_true HDF.out]
          go_wp2
          go_ret
          exact ⟨rfl, EQ.out.drewN _⟩
    · have HEI : Hid (EI old fresh S3) := Lib.hid (by
        have q := ei_fated (S := mP [(nN, q0), (nT, k2)] [(nN, q0)] [.cr nT k2] [(q0, ⟨old, old.length⟩), (k2, ⟨[], 0⟩)] 1 pl) (f := doAppend nT fresh) (g := doPart nT fresh) (old := old) (fresh := fresh) (ei_old q0 k2 pl ho.out (.inr rfl) (by simp) (by
          intro p f hf
          have := ho.out
          have := hn.out
          simp only [List.mem_cons, Prod.mk.injEq, List.not_mem_nil, or_false] at hf
          rcases hf with ⟨_, rfl⟩ | ⟨_, rfl⟩ <;> (first | (show old.length ≤ _; omega) | (show fresh.length ≤ _; omega) | (show (0 : Nat) ≤ _; omega)))) (by
          rw [show ({ (mP [(nN, q0), (nT, k2)] [(nN, q0)] [.cr nT k2] [(q0, ⟨old, old.length⟩), (k2, ⟨[], 0⟩)] 1 pl) with steps := 1 + 1 } : DS) = mP [(nN, q0), (nT, k2)] [(nN, q0)] [.cr nT k2] [(q0, ⟨old, old.length⟩), (k2, ⟨[], 0⟩)] 2 pl from rfl, sw_2 q0 k2 HNE.out pl ho.out hn.out]
          exact ei_old q0 k2 pl ho.out (.inr rfl) (by simp) (by
          intro p f hf
          have := ho.out
          have := hn.out
          simp only [List.mem_cons, Prod.mk.injEq, List.not_mem_nil, or_false] at hf
          rcases hf with ⟨_, rfl⟩ | ⟨_, rfl⟩ <;> (first | (show old.length ≤ _; omega) | (show fresh.length ≤ _; omega) | (show (0 : Nat) ≤ _; omega)))) (fun n => sw_2p q0 k2 HNE.out pl ho.out hn.out n)
        rw [← HF3.out] at q
        exact q)
      have hne3 : (r3 == 0) = false := by simpa using hr3
      have HZ := Lib.hid H3.out
      have EZ := Lib.hid E3.out
      clear hr3
      go_wp2_with fail
      refine (on_Dk (c := c4) HZ.out (R4.out.ext (show Ext w _ from EZ.out)) (HEI.out.fit) (by omega) (fun h0 a ha => by have h5 := R4.out.lt h0 a ha; have h6 := HEL.out.size; show a.block < wl.heap.size; omega)).mono ?_
      rintro e wo ⟨rfl, hO, hBO⟩
      obtain ⟨d, hd1, hd2, hd3, hsz, hrdd, hfit⟩ := HEI.out.after ks hO.nd
      have HO := Lib.hid hO
      have EO := Lib.hid (show Ext w wo from hBO.below EZ.out (fun i hi => Nat.lt_of_lt_of_le hi HEL.out.size))
      have HS := Lib.hid (size_Dk hO nN (by show (4 : Nat) ≤ 140737488355328; decide))
      rw [hsz] at HS
      have HR := Lib.hid (read_Dk hO nN 0 (d.length : Int) (by show (4 : Nat) ≤ 140737488355328; decide) hfit)
      rw [hrdd] at HR
      have Hd1 := Lib.hid hd1
      have Hd2 := Lib.hid hd2
      obtain ⟨m, hm⟩ : ∃ m, m = d.length := ⟨_, rfl⟩
      rw [← hm] at HS HR hd3
      have Hm := Lib.hid hm
      clear hO hBO hsz hrdd hfit hd1 hd2 hm
      go_wp2_with fail
      refine HS.out.mono ?_
      rintro e wp ⟨rfl, rfl⟩
      go_wp2_with fail
      refine HR.out.mono ?_
      rintro e wq ⟨Ab, cb, rfl, hob, hxq⟩
      have HOB := Lib.hid hob.rd
      rw [← Hm.out] at HOB
      have EQ := Lib.hid (show Ext w wq from EO.out.trans hxq)
      clear hob hxq HS HR
      go_wp2_with fail
      refine (same_any Ab A1 m cb n1 c1 d old _ HOB.out (R1.out.ext EQ.out) (by omega) (by omega)).mono ?_
      rintro e wr ⟨rfl, q9, rfl⟩
      by_cases hdo : d = old
      · rw [decide_eq_true hdo]
        clear hdo
        go_wp2
        go_ret
        exact ⟨rfl, EQ.out.drewN q9⟩
      · have hdf : d = fresh := by
          rcases Hd1.out with h | h
          · exact absurd h hdo
          · exact h
        rw [decide_eq_false hdo]
        have HDF := Lib.hid hdf
        clear hdo hdf
        go_wp2_with fail
        refine (same_any Ab A2 m cb n2 c2 d fresh _ (HOB.out.ext ((Ext.refl _).drewN q9)) (R2.out.ext (EQ.out.drewN q9)) (by omega) (by omega)).mono ?_
        rintro e ws ⟨rfl, q8, rfl⟩
        rw [decide_eq_true HDF.out]
        go_wp2
        go_ret
        exact ⟨rfl, EQ.out.drewN _⟩
  · have HEI : Hid (EI old fresh S2) := Lib.hid (by
      have q := ei_fated (S := mP [(nN, q0)] [(nN, q0)] [] [(q0, ⟨old, old.length⟩)] 0 pl) (f := doCreate nT k2) (g := fun S _ => S) (old := old) (fresh := fresh) (ei_old q0 k2 pl ho.out (.inl rfl) (by simp) (by intro p f hf; simp only [List.mem_singleton, Prod.mk.injEq] at hf; obtain ⟨_, rfl⟩ := hf; have := ho.out; simp only; omega)) (by
        have e := sw_1 (old := old) q0 k2 pl
        rw [show ({ (mP [(nN, q0)] [(nN, q0)] [] [(q0, ⟨old, old.length⟩)] 0 pl) with steps := 0 + 1 } : DS) = mP [(nN, q0)] [(nN, q0)] [] [(q0, ⟨old, old.length⟩)] 1 pl from rfl, e]
        refine ei_old q0 k2 pl ho.out (.inr rfl) (by simp) ?_
        intro p f hf
        have := ho.out
        simp only [List.mem_cons, Prod.mk.injEq, List.not_mem_nil, or_false] at hf
        rcases hf with ⟨_, rfl⟩ | ⟨_, rfl⟩ <;> (first | (show old.length ≤ _; omega) | (show fresh.length ≤ _; omega) | (show (0 : Nat) ≤ _; omega))) (fun n => ei_old q0 k2 pl ho.out (.inl rfl) (by simp) (by intro p f hf; simp only [List.mem_singleton, Prod.mk.injEq] at hf; obtain ⟨_, rfl⟩ := hf; have := ho.out; simp only; omega))
      rw [← HF2.out] at q
      exact q)
    have hne2 : (r2 == 0) = false := by simpa using hr2
    have HZ := Lib.hid H2.out
    have EZ := Lib.hid E2.out
    clear hr2
    go_wp2_with fail
    refine (on_Dk (c := c4) HZ.out (R4.out.ext (show Ext w _ from EZ.out)) (HEI.out.fit) (by omega) (fun h0 a ha => by have h5 := R4.out.lt h0 a ha; have h6 := HEL.out.size; show a.block < wl.heap.size; omega)).mono ?_
    rintro e wo ⟨rfl, hO, hBO⟩
    obtain ⟨d, hd1, hd2, hd3, hsz, hrdd, hfit⟩ := HEI.out.after ks hO.nd
    have HO := Lib.hid hO
    have EO := Lib.hid (show Ext w wo from hBO.below EZ.out (fun i hi => Nat.lt_of_lt_of_le hi HEL.out.size))
    have HS := Lib.hid (size_Dk hO nN (by show (4 : Nat) ≤ 140737488355328; decide))
    rw [hsz] at HS
    have HR := Lib.hid (read_Dk hO nN 0 (d.length : Int) (by show (4 : Nat) ≤ 140737488355328; decide) hfit)
    rw [hrdd] at HR
    have Hd1 := Lib.hid hd1
    have Hd2 := Lib.hid hd2
    obtain ⟨m, hm⟩ : ∃ m, m = d.length := ⟨_, rfl⟩
    rw [← hm] at HS HR hd3
    have Hm := Lib.hid hm
    clear hO hBO hsz hrdd hfit hd1 hd2 hm
    go_wp2_with fail
    refine HS.out.mono ?_
    rintro e wp ⟨rfl, rfl⟩
    go_wp2_with fail
    refine HR.out.mono ?_
    rintro e wq ⟨Ab, cb, rfl, hob, hxq⟩
    have HOB := Lib.hid hob.rd
    rw [← Hm.out] at HOB
    have EQ := Lib.hid (show Ext w wq from EO.out.trans hxq)
    clear hob hxq HS HR
    go_wp2_with fail
    refine (same_any Ab A1 m cb n1 c1 d old _ HOB.out (R1.out.ext EQ.out) (by omega) (by omega)).mono ?_
    rintro e wr ⟨rfl, q9, rfl⟩
    by_cases hdo : d = old
    · rw [decide_eq_true hdo]
      clear hdo
      go_wp2
      go_ret
      exact ⟨rfl, EQ.out.drewN q9⟩
    · have hdf : d = fresh := by
        rcases Hd1.out with h | h
        · exact absurd h hdo
        · exact h
      rw [decide_eq_false hdo]
      have HDF := Lib.hid hdf
      clear hdo hdf
      go_wp2_with fail
      refine (same_any Ab A2 m cb n2 c2 d fresh _ (HOB.out.ext ((Ext.refl _).drewN q9)) (R2.out.ext (EQ.out.drewN q9)) (by omega) (by omega)).mono ?_
      rintro e ws ⟨rfl, q8, rfl⟩
      rw [decide_eq_true HDF.out]
      go_wp2
      go_ret
      exact ⟨rfl, EQ.out.drewN _⟩

end Go.Proofs.Ytblkcphehkkbmaa
