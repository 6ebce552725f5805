/-
  Layer 17: the floor never falls: walked.
-/
import Derived.Test.YtkmnhapeohlooaaMV9
namespace Go.Proofs.Ytkmnhapeohlooaa
open Go.RowKit Go.Maps
set_option maxRecDepth 100000

theorem floor_mono {s s' : CkS} (hn : s.mark ≤ s'.mark) (hf : ∀ x ∈ s'.pn, x ∈ s.pn ∨ s.mark ≤ x) : s.floor ≤ s'.floor := by
  unfold CkS.floor
  obtain ⟨a1, a2, a3⟩ := leastL_spec s.pn s.mark
  obtain ⟨b1, b2, b3⟩ := leastL_spec s'.pn s'.mark
  rcases b3 with b3 | b3
  · omega
  · rcases hf _ b3 with q | q
    · exact a2 _ q
    · omega
theorem floor_le (s : CkS) : s.floor ≤ s.mark := (leastL_spec s.pn s.mark).1
theorem floor_pn {s : CkS} {x : Int} (h : x ∈ s.pn) : s.floor ≤ x := (leastL_spec s.pn s.mark).2.1 x h

theorem pin_floor (s : CkS) (t : Int) : s.floor ≤ (s.pin t).1.floor := by
  unfold CkS.pin
  split
  · exact Int.le_refl _
  · split
    · exact Int.le_refl _
    · refine floor_mono (Int.le_refl _) fun x hx => ?_
      rcases List.mem_append.1 hx with hx | hx
      · exact .inl hx
      · have := List.mem_singleton.1 hx
        exact .inr (by omega)
theorem move_floor (s : CkS) (t : Int) : s.floor ≤ (s.move t).1.floor := by
  unfold CkS.move
  split
  · exact Int.le_refl _
  · exact floor_mono (by show s.mark ≤ t; omega) fun x hx => .inl hx
theorem other_floor (s : CkS) (k t : Int) : s.floor ≤ (s.other k t).floor := by
  have hsame : ∀ s' : CkS, s'.pn = s.pn → s'.mark = s.mark → s.floor ≤ s'.floor := fun s' e1 e2 => by
    unfold CkS.floor
    rw [e1, e2]
    exact Int.le_refl _
  unfold CkS.other
  split
  · exact hsame _ rfl rfl
  split
  · exact hsame _ rfl rfl
  split
  · exact hsame _ rfl rfl
  split
  · exact move_floor s t
  split
  · exact pin_floor s t
  split
  · exact floor_mono (Int.le_refl _) fun x hx => .inl (List.mem_of_mem_erase hx)
  split
  · split <;> exact hsame _ rfl rfl
  · exact hsame _ rfl rfl

/-- What a call leaves of a clock's floor. -/
structure AftF (w w' : World) (b0 base sb bf bp N : Nat) (s s' : CkS) : Prop where
  ck : Ck w' b0 base sb bf bp (N + 1) s'
  fr : Fr b0 base w w'
  ok : s'.Ok (N + 1)
  floor : s.floor ≤ s'.floor

theorem other_stepF {w : World} {b0 base sb bf bp N : Nat} {s : CkS} (h : Ck w b0 base sb bf bp N s) (ho : s.Ok N) (hN : N ≤ 17592186044416) (k t : Int) (ht : R64 t) :
    Calls Try.prog 26 #[.pointer (some ⟨sb, 0, none⟩), .agg #[.int .i64 k, .int .i64 t]] w fun e w' => e = .returned (.tuple #[]) ∧ ∃ s', AftF w w' b0 base sb bf bp N s s' := by
  refine (other_any h ho hN k t ht).mono ?_
  rintro e w' ⟨rfl, k1, f1⟩
  exact ⟨rfl, _, k1, f1, ho.other k t, other_floor s k t⟩
theorem begin_stepF {w : World} {b0 base sb bf bp N : Nat} {s : CkS} (h : Ck w b0 base sb bf bp N s) (ho : s.Ok N) (hN : N ≤ 17592186044416) :
    Calls Try.prog 25 #[.pointer (some ⟨sb, 0, none⟩)] w fun e w' => ∃ x y, e = .returned (.tuple #[.int .i64 x, .int .i64 y]) ∧ ∃ s', AftF w w' b0 base sb bf bp N s s' := by
  refine (mbegin_any h ho hN).mono ?_
  rintro e w' ⟨rfl, k1, f1⟩
  refine ⟨_, _, rfl, _, k1, f1, ho.begin, ?_⟩
  unfold CkS.begin
  split
  · exact Int.le_refl _
  · exact floor_mono (Int.le_refl _) fun x hx => .inl hx
theorem pin_stepF {w : World} {b0 base sb bf bp N : Nat} {s : CkS} (h : Ck w b0 base sb bf bp N s) (ho : s.Ok N) (hN : N ≤ 17592186044416) (t : Int) (ht : R64 t) :
    Calls Try.prog 27 #[.pointer (some ⟨sb, 0, none⟩), .int .i64 t] w fun e w' => (∃ E : Int, e = .returned (.int .i64 E) ∧ E ≠ 0 ∧ (t < s.mark ∨ (s.mark ≤ t ∧ 1099511627776 < t)) ∧ ∃ s', AftF w w' b0 base sb bf bp N s s') ∨
      (e = .returned (.int .i64 0) ∧ s.mark ≤ t ∧ t ≤ 1099511627776 ∧ ∃ s', AftF w w' b0 base sb bf bp N s s' ∧ s'.pn.length = s.pn.length + 1) := by
  refine (mpin_any h ho hN t ht).mono ?_
  rintro e w' ⟨rfl, k1, f1⟩
  have o1 := ho.pin t
  have fl := pin_floor s t
  have hm := ho.mark
  unfold CkS.pin at k1 o1 fl ⊢
  by_cases q : t < 0 ∨ t > 1099511627776
  · rw [if_pos q] at k1 o1 fl ⊢
    exact .inl ⟨1, rfl, by decide, by omega, s, k1, f1, o1, fl⟩
  · rw [if_neg q] at k1 o1 fl ⊢
    by_cases q2 : t < s.mark
    · rw [if_pos q2] at k1 o1 fl ⊢
      exact .inl ⟨171, rfl, by decide, by omega, s, k1, f1, o1, fl⟩
    · rw [if_neg q2] at k1 o1 fl ⊢
      exact .inr ⟨rfl, by omega, by omega, _, ⟨k1, f1, o1, fl⟩, by simp⟩

set_option maxHeartbeats 6400000 in
theorem walk_MvccFloors (A : Option Addr) (n c : Nat) (ops : List (Int × Int)) (w : World) (hx : RdG shR w A n ops) (hr : ∀ o ∈ ops, R64 o.2) (hn : n ≤ 8796093022208) :
    Calls Try.prog 5 #[.slice A n c] w fun e w' => e = .returned (.bool true) ∧ Ext w w' := by
  have Hr := Lib.hid hr
  clear hr
  go_enter Try.func5, Try.ntmps5
  go_wp2_with fail
  refine (mnew_any _).mono ?_
  rintro e w0 ⟨sb, bf, bp, rfl, k0, he0⟩
  obtain ⟨B, hB⟩ : ∃ B, B = w0.heap.size := ⟨_, rfl⟩
  rw [← hB] at k0
  clear hB
  go_wp2_with fail
  refine (alive17_any _).mono ?_
  rintro e w1 ⟨rfl, he1⟩
  have k1 := k0.ext he1
  have hE1 := he0.trans he1
  clear k0 he0 he1
  go_wp2_with fail
  refine (mfloor_any k1).mono ?_
  rintro e w2 ⟨rfl, he2⟩
  have k2 := k1.ext he2
  have hE2 := hE1.trans he2
  clear k1 hE1 he2
  go_wp2_with fail
  go_loopw [4, 23] (fun v i wr => ∃ (j : Nat) (s : CkS), j ≤ n ∧ i = .int .i64 j ∧ v = .int .i64 s.floor ∧ Hid (Ck wr w.heap.size B sb bf bp j s) ∧ Hid (s.Ok j) ∧ Ext w wr) (fun _ i _ => n - (intOf i).toNat)
  case atStart => exact ⟨0, CkS.new, Nat.zero_le _, rfl, rfl, Lib.hid k2, Lib.hid CkS.Ok.new, hE2⟩
  case round =>
    clear k2 hE2
    obtain ⟨j, s, hj, rfl, rfl, Hk, Ho, hE⟩ := hrel
    by_cases hlt : j < n
    · obtain ⟨b, o, k, t, rfl, hb, hxj, hc0, hc1⟩ := (hx.ext hE).shR_at hlt
      have ht : R64 t := Hr.out _ (List.mem_of_getElem? hxj)
      have Ht := Lib.hid ht
      have hN : j ≤ 17592186044416 := by omega
      obtain ⟨cl, hcl⟩ : ∃ cl, cl = s.floor := ⟨_, rfl⟩
      rw [← hcl]
      have Hcl := Lib.hid hcl
      have hX : Ext wr (wr.alloc (.cells #[.int .i64 k, .int .i64 t] 31)) := (Ext.refl wr).alloc _
      have HX := Lib.hid hX
      have Hk1 := Lib.hid (Hk.out.ext hX)
      have hbB := Hk.out.top
      have HT : Hid (∀ W, Fr w.heap.size B (wr.alloc (.cells #[.int .i64 k, .int .i64 t] 31)) W → W.cell? ⟨wr.heap.size, 1, none⟩ = some (.int .i64 t)) := Lib.hid fun W hW => by
        have h1 := (hW.block wr.heap.size (by simp) (.inr hbB)).trans (heap_alloc_new wr _)
        rw [cell_of_row W wr.heap.size 1 _ _ (0, 0) h1]; rfl
      clear hxj ht hcl hX hbB
      by_cases q7 : k = 7
      · subst q7
        have CM := Lib.hid (mmark_any Hk1.out)
        have CP := Lib.hid (mpins_any Hk1.out Ho.out hN)
        have CQ := Lib.hid (fun W (hW : Ext (wr.alloc (.cells #[.int .i64 7, .int .i64 t] 31)) W) => pin_stepF (Hk1.out.ext hW) Ho.out hN t Ht.out)
        have hpb := Ho.out.pn
        obtain ⟨mk, hmk⟩ : ∃ mk, mk = s.mark := ⟨_, rfl⟩
        obtain ⟨PL, hPL⟩ : ∃ PL, PL = s.pn.length := ⟨_, rfl⟩
        rw [← hmk] at CM CQ
        rw [← hPL] at CP CQ hpb
        clear hmk hPL
        go_wp2_with fail
        refine CM.out.mono ?_
        rintro e w2 ⟨rfl, rfl⟩
        go_wp2_with fail
        refine CP.out.mono ?_
        rintro e w2 ⟨A2, c2, rfl, _, he2⟩
        have ct2 := HT.out w2 (he2.fr _ _)
        have HE2 := Lib.hid he2
        clear he2
        go_wp2_with fail
        refine (CQ.out _ HE2.out).mono ?_
        rintro e w3 (⟨E, rfl, hE0, hbad, S, hA⟩ | ⟨rfl, g1, g2, S, hA, hlen⟩)
        · have HA := Lib.hid hA
          have ct3 := HT.out w3 ((HE2.out.fr _ _).trans hA.fr)
          have HF : Hid (Fr w.heap.size B wr w3) := Lib.hid ((HX.out.fr _ _).trans ((HE2.out.fr _ _).trans hA.fr))
          have e0 : (E == 0) = false := by simpa using hE0
          clear hA hE0 ct2 CQ
          rcases hbad with hbad | ⟨hbad1, hbad2⟩
          · have d1 : decide (mk ≤ t) = false := decide_eq_false (by omega)
            clear hbad
            have K2 := Lib.hid HA.out.ck
            have O2 := Lib.hid HA.out.ok
            have Hle : Hid (cl ≤ S.floor) := Lib.hid (by rw [Hcl.out]; exact HA.out.floor)
            have T1 := Lib.hid (fun W (hW : Ext w3 W) => mfloor_any (K2.out.ext hW))
            have T2 := Lib.hid (fun W (hW : Ext w3 W) => mmark_any (K2.out.ext hW))
            have T3 := Lib.hid (fun W (hW : Ext w3 W) => mpins_any (K2.out.ext hW) O2.out (by omega))
            have Hfl : Hid (∀ x ∈ sortZ S.pn, S.floor ≤ x) := Lib.hid (fun x hx => floor_pn ((sortZ_perm S.pn).mem_iff.1 hx))
            have Hsl := Lib.hid (sortZ_len S.pn)
            have hLb : S.pn.length ≤ 17592186044417 := by have := O2.out.pn; omega
            have hfm := floor_le S
            obtain ⟨C2, hC2⟩ : ∃ C2, C2 = S.floor := ⟨_, rfl⟩
            obtain ⟨L, hL⟩ : ∃ L, L = S.pn.length := ⟨_, rfl⟩
            obtain ⟨M2, hM2⟩ : ∃ M2, M2 = S.mark := ⟨_, rfl⟩
            have HC2 := Lib.hid hC2
            rw [← hC2] at T1 Hfl Hle hfm
            rw [← hL] at T3 Hsl hLb
            rw [← hM2] at T2 hfm
            have dd : decide (C2 < cl) = false := decide_eq_false (by have := Hle.out; omega)
            have dm : decide (M2 < C2) = false := decide_eq_false (by omega)
            clear hC2 hL hM2 hfm
            go_wp2_with fail
            refine (T1.out _ (Ext.refl _)).mono ?_
            rintro e w4 ⟨rfl, he3⟩
            go_wp2_with fail
            refine (T1.out _ he3).mono ?_
            rintro e w5 ⟨rfl, he4⟩
            have he5 := he3.trans he4
            clear he3 he4
            go_wp2_with fail
            refine (T2.out _ he5).mono ?_
            rintro e w6 ⟨rfl, rfl⟩
            go_wp2_with fail
            refine (T1.out _ he5).mono ?_
            rintro e w6 ⟨rfl, he6⟩
            have he7 := he5.trans he6
            clear he5 he6
            go_wp2_with fail
            refine (T3.out _ he7).mono ?_
            rintro e w7 ⟨A2, c2, rfl, hown, he8⟩
            have he9 := he7.trans he8
            have hrd := hown.rd' Hsl.out
            clear hown he7 he8
            go_wp2_with fail
            have hE2 : Ext w w7 := Fr.ext hE (HF.out.trans (he9.fr _ _)) (Nat.le_refl _)
            have HE9 := Lib.hid hE2
            have HK5 := Lib.hid (K2.out.ext he9)
            clear hE2 he9
            go_loopw [87] (fun i ws => ∃ m : Nat, m ≤ L ∧ i = .int .i64 m ∧ ws = w7) (fun i _ => L - (intOf i).toNat)
            case atStart => exact ⟨0, Nat.zero_le _, rfl, rfl⟩
            case round =>
              obtain ⟨m, hm, rfl, rfl⟩ := hrel
              by_cases hlm : m < L
              · obtain ⟨b3, o3, rfl, hb3, hc3⟩ := hrd.atZ hlm
                obtain ⟨y, hy⟩ : ∃ y, y = (sortZ S.pn).getD m 0 := ⟨_, rfl⟩
                have hy2 := Hfl.out y (by rw [hy, List.getD, List.getElem?_eq_getElem (by have := Hsl.out; omega)]; exact List.getElem_mem _)
                rw [← hy] at hc3
                have g1 : decide (y < C2) = false := decide_eq_false (by omega)
                clear hy hy2
                go_wp2_with fail
                go_roundw
                case rel => exact ⟨m + 1, by omega, by go_num, (by trivial)⟩
                case measure => simp [intOf]; omega
              · obtain rfl : m = L := by omega
                go_wp2_with fail
                go_roundw
                case rel => exact ⟨j + 1, S, by omega, by go_num, by rw [HC2.out], HK5, O2, HE9.out⟩
                case measure => simp [intOf]; omega
          · have d1 : decide (mk ≤ t) = true := decide_eq_true hbad1
            have d2 : decide (t ≤ 1099511627776) = false := decide_eq_false (by omega)
            clear hbad1 hbad2
            have K2 := Lib.hid HA.out.ck
            have O2 := Lib.hid HA.out.ok
            have Hle : Hid (cl ≤ S.floor) := Lib.hid (by rw [Hcl.out]; exact HA.out.floor)
            have T1 := Lib.hid (fun W (hW : Ext w3 W) => mfloor_any (K2.out.ext hW))
            have T2 := Lib.hid (fun W (hW : Ext w3 W) => mmark_any (K2.out.ext hW))
            have T3 := Lib.hid (fun W (hW : Ext w3 W) => mpins_any (K2.out.ext hW) O2.out (by omega))
            have Hfl : Hid (∀ x ∈ sortZ S.pn, S.floor ≤ x) := Lib.hid (fun x hx => floor_pn ((sortZ_perm S.pn).mem_iff.1 hx))
            have Hsl := Lib.hid (sortZ_len S.pn)
            have hLb : S.pn.length ≤ 17592186044417 := by have := O2.out.pn; omega
            have hfm := floor_le S
            obtain ⟨C2, hC2⟩ : ∃ C2, C2 = S.floor := ⟨_, rfl⟩
            obtain ⟨L, hL⟩ : ∃ L, L = S.pn.length := ⟨_, rfl⟩
            obtain ⟨M2, hM2⟩ : ∃ M2, M2 = S.mark := ⟨_, rfl⟩
            have HC2 := Lib.hid hC2
            rw [← hC2] at T1 Hfl Hle hfm
            rw [← hL] at T3 Hsl hLb
            rw [← hM2] at T2 hfm
            have dd : decide (C2 < cl) = false := decide_eq_false (by have := Hle.out; omega)
            have dm : decide (M2 < C2) = false := decide_eq_false (by omega)
            clear hC2 hL hM2 hfm
            go_wp2_with fail
            refine (T1.out _ (Ext.refl _)).mono ?_
            rintro e w4 ⟨rfl, he3⟩
            go_wp2_with fail
            refine (T1.out _ he3).mono ?_
            rintro e w5 ⟨rfl, he4⟩
            have he5 := he3.trans he4
            clear he3 he4
            go_wp2_with fail
            refine (T2.out _ he5).mono ?_
            rintro e w6 ⟨rfl, rfl⟩
            go_wp2_with fail
            refine (T1.out _ he5).mono ?_
            rintro e w6 ⟨rfl, he6⟩
            have he7 := he5.trans he6
            clear he5 he6
            go_wp2_with fail
            refine (T3.out _ he7).mono ?_
            rintro e w7 ⟨A2, c2, rfl, hown, he8⟩
            have he9 := he7.trans he8
            have hrd := hown.rd' Hsl.out
            clear hown he7 he8
            go_wp2_with fail
            have hE2 : Ext w w7 := Fr.ext hE (HF.out.trans (he9.fr _ _)) (Nat.le_refl _)
            have HE9 := Lib.hid hE2
            have HK5 := Lib.hid (K2.out.ext he9)
            clear hE2 he9
            go_loopw [87] (fun i ws => ∃ m : Nat, m ≤ L ∧ i = .int .i64 m ∧ ws = w7) (fun i _ => L - (intOf i).toNat)
            case atStart => exact ⟨0, Nat.zero_le _, rfl, rfl⟩
            case round =>
              obtain ⟨m, hm, rfl, rfl⟩ := hrel
              by_cases hlm : m < L
              · obtain ⟨b3, o3, rfl, hb3, hc3⟩ := hrd.atZ hlm
                obtain ⟨y, hy⟩ : ∃ y, y = (sortZ S.pn).getD m 0 := ⟨_, rfl⟩
                have hy2 := Hfl.out y (by rw [hy, List.getD, List.getElem?_eq_getElem (by have := Hsl.out; omega)]; exact List.getElem_mem _)
                rw [← hy] at hc3
                have g1 : decide (y < C2) = false := decide_eq_false (by omega)
                clear hy hy2
                go_wp2_with fail
                go_roundw
                case rel => exact ⟨m + 1, by omega, by go_num, (by trivial)⟩
                case measure => simp [intOf]; omega
              · obtain rfl : m = L := by omega
                go_wp2_with fail
                go_roundw
                case rel => exact ⟨j + 1, S, by omega, by go_num, by rw [HC2.out], HK5, O2, HE9.out⟩
                case measure => simp [intOf]; omega
        · have HA := Lib.hid hA
          have ct3 := HT.out w3 ((HE2.out.fr _ _).trans hA.fr)
          have HF : Hid (Fr w.heap.size B wr w3) := Lib.hid ((HX.out.fr _ _).trans ((HE2.out.fr _ _).trans hA.fr))
          have d1 : decide (mk ≤ t) = true := decide_eq_true g1
          have d2 : decide (t ≤ 1099511627776) = true := decide_eq_true g2
          have CZ := Lib.hid (mpins_any hA.ck hA.ok (by omega))
          rw [hlen] at CZ
          clear hA ct2 CQ g1 g2 hlen
          go_wp2_with fail
          refine CZ.out.mono ?_
          rintro e w4 ⟨A4, c4, rfl, _, he4⟩
          obtain ⟨wX, hwX⟩ : ∃ wX, wX = w3 := ⟨_, rfl⟩
          have HA0 := HA
          clear HA
          have HA : Hid (AftF wr w4 w.heap.size B sb bf bp j s S) := Lib.hid ⟨HA0.out.ck.ext he4, HF.out.trans (he4.fr _ _), HA0.out.ok, HA0.out.floor⟩
          have HF2 : Hid (Fr w.heap.size B wr w4) := Lib.hid (HF.out.trans (he4.fr _ _))
          clear HF he4 HA0 hwX
          have HF := HF2
          clear HF2
          rename_i w3old
          obtain ⟨w3, hw3⟩ : ∃ w3, w3 = w4 := ⟨_, rfl⟩
          rw [← hw3] at HA HF ⊢
          clear hw3
          have K2 := Lib.hid HA.out.ck
          have O2 := Lib.hid HA.out.ok
          have Hle : Hid (cl ≤ S.floor) := Lib.hid (by rw [Hcl.out]; exact HA.out.floor)
          have T1 := Lib.hid (fun W (hW : Ext w3 W) => mfloor_any (K2.out.ext hW))
          have T2 := Lib.hid (fun W (hW : Ext w3 W) => mmark_any (K2.out.ext hW))
          have T3 := Lib.hid (fun W (hW : Ext w3 W) => mpins_any (K2.out.ext hW) O2.out (by omega))
          have Hfl : Hid (∀ x ∈ sortZ S.pn, S.floor ≤ x) := Lib.hid (fun x hx => floor_pn ((sortZ_perm S.pn).mem_iff.1 hx))
          have Hsl := Lib.hid (sortZ_len S.pn)
          have hLb : S.pn.length ≤ 17592186044417 := by have := O2.out.pn; omega
          have hfm := floor_le S
          obtain ⟨C2, hC2⟩ : ∃ C2, C2 = S.floor := ⟨_, rfl⟩
          obtain ⟨L, hL⟩ : ∃ L, L = S.pn.length := ⟨_, rfl⟩
          obtain ⟨M2, hM2⟩ : ∃ M2, M2 = S.mark := ⟨_, rfl⟩
          have HC2 := Lib.hid hC2
          rw [← hC2] at T1 Hfl Hle hfm
          rw [← hL] at T3 Hsl hLb
          rw [← hM2] at T2 hfm
          have dd : decide (C2 < cl) = false := decide_eq_false (by have := Hle.out; omega)
          have dm : decide (M2 < C2) = false := decide_eq_false (by omega)
          clear hC2 hL hM2 hfm
          go_wp2_with fail
          refine (T1.out _ (Ext.refl _)).mono ?_
          rintro e w4 ⟨rfl, he3⟩
          go_wp2_with fail
          refine (T1.out _ he3).mono ?_
          rintro e w5 ⟨rfl, he4⟩
          have he5 := he3.trans he4
          clear he3 he4
          go_wp2_with fail
          refine (T2.out _ he5).mono ?_
          rintro e w6 ⟨rfl, rfl⟩
          go_wp2_with fail
          refine (T1.out _ he5).mono ?_
          rintro e w6 ⟨rfl, he6⟩
          have he7 := he5.trans he6
          clear he5 he6
          go_wp2_with fail
          refine (T3.out _ he7).mono ?_
          rintro e w7 ⟨A2, c2, rfl, hown, he8⟩
          have he9 := he7.trans he8
          have hrd := hown.rd' Hsl.out
          clear hown he7 he8
          go_wp2_with fail
          have hE2 : Ext w w7 := Fr.ext hE (HF.out.trans (he9.fr _ _)) (Nat.le_refl _)
          have HE9 := Lib.hid hE2
          have HK5 := Lib.hid (K2.out.ext he9)
          clear hE2 he9
          go_loopw [87] (fun i ws => ∃ m : Nat, m ≤ L ∧ i = .int .i64 m ∧ ws = w7) (fun i _ => L - (intOf i).toNat)
          case atStart => exact ⟨0, Nat.zero_le _, rfl, rfl⟩
          case round =>
            obtain ⟨m, hm, rfl, rfl⟩ := hrel
            by_cases hlm : m < L
            · obtain ⟨b3, o3, rfl, hb3, hc3⟩ := hrd.atZ hlm
              obtain ⟨y, hy⟩ : ∃ y, y = (sortZ S.pn).getD m 0 := ⟨_, rfl⟩
              have hy2 := Hfl.out y (by rw [hy, List.getD, List.getElem?_eq_getElem (by have := Hsl.out; omega)]; exact List.getElem_mem _)
              rw [← hy] at hc3
              have g1 : decide (y < C2) = false := decide_eq_false (by omega)
              clear hy hy2
              go_wp2_with fail
              go_roundw
              case rel => exact ⟨m + 1, by omega, by go_num, (by trivial)⟩
              case measure => simp [intOf]; omega
            · obtain rfl : m = L := by omega
              go_wp2_with fail
              go_roundw
              case rel => exact ⟨j + 1, S, by omega, by go_num, by rw [HC2.out], HK5, O2, HE9.out⟩
              case measure => simp [intOf]; omega
      · have b7 : (k == 7) = false := by simpa using q7
        by_cases q2 : k = 2
        · subst q2
          have CB := Lib.hid (begin_stepF Hk1.out Ho.out hN)
          go_wp2_with fail
          refine CB.out.mono ?_
          rintro e w3 ⟨X, Y, rfl, S, hA⟩
          have HA := Lib.hid hA
          have HF : Hid (Fr w.heap.size B wr w3) := Lib.hid ((HX.out.fr _ _).trans hA.fr)
          clear hA
          have K2 := Lib.hid HA.out.ck
          have O2 := Lib.hid HA.out.ok
          have Hle : Hid (cl ≤ S.floor) := Lib.hid (by rw [Hcl.out]; exact HA.out.floor)
          have T1 := Lib.hid (fun W (hW : Ext w3 W) => mfloor_any (K2.out.ext hW))
          have T2 := Lib.hid (fun W (hW : Ext w3 W) => mmark_any (K2.out.ext hW))
          have T3 := Lib.hid (fun W (hW : Ext w3 W) => mpins_any (K2.out.ext hW) O2.out (by omega))
          have Hfl : Hid (∀ x ∈ sortZ S.pn, S.floor ≤ x) := Lib.hid (fun x hx => floor_pn ((sortZ_perm S.pn).mem_iff.1 hx))
          have Hsl := Lib.hid (sortZ_len S.pn)
          have hLb : S.pn.length ≤ 17592186044417 := by have := O2.out.pn; omega
          have hfm := floor_le S
          obtain ⟨C2, hC2⟩ : ∃ C2, C2 = S.floor := ⟨_, rfl⟩
          obtain ⟨L, hL⟩ : ∃ L, L = S.pn.length := ⟨_, rfl⟩
          obtain ⟨M2, hM2⟩ : ∃ M2, M2 = S.mark := ⟨_, rfl⟩
          have HC2 := Lib.hid hC2
          rw [← hC2] at T1 Hfl Hle hfm
          rw [← hL] at T3 Hsl hLb
          rw [← hM2] at T2 hfm
          have dd : decide (C2 < cl) = false := decide_eq_false (by have := Hle.out; omega)
          have dm : decide (M2 < C2) = false := decide_eq_false (by omega)
          clear hC2 hL hM2 hfm
          go_wp2_with fail
          refine (T1.out _ (Ext.refl _)).mono ?_
          rintro e w4 ⟨rfl, he3⟩
          go_wp2_with fail
          refine (T1.out _ he3).mono ?_
          rintro e w5 ⟨rfl, he4⟩
          have he5 := he3.trans he4
          clear he3 he4
          go_wp2_with fail
          refine (T2.out _ he5).mono ?_
          rintro e w6 ⟨rfl, rfl⟩
          go_wp2_with fail
          refine (T1.out _ he5).mono ?_
          rintro e w6 ⟨rfl, he6⟩
          have he7 := he5.trans he6
          clear he5 he6
          go_wp2_with fail
          refine (T3.out _ he7).mono ?_
          rintro e w7 ⟨A2, c2, rfl, hown, he8⟩
          have he9 := he7.trans he8
          have hrd := hown.rd' Hsl.out
          clear hown he7 he8
          go_wp2_with fail
          have hE2 : Ext w w7 := Fr.ext hE (HF.out.trans (he9.fr _ _)) (Nat.le_refl _)
          have HE9 := Lib.hid hE2
          have HK5 := Lib.hid (K2.out.ext he9)
          clear hE2 he9
          go_loopw [87] (fun i ws => ∃ m : Nat, m ≤ L ∧ i = .int .i64 m ∧ ws = w7) (fun i _ => L - (intOf i).toNat)
          case atStart => exact ⟨0, Nat.zero_le _, rfl, rfl⟩
          case round =>
            obtain ⟨m, hm, rfl, rfl⟩ := hrel
            by_cases hlm : m < L
            · obtain ⟨b3, o3, rfl, hb3, hc3⟩ := hrd.atZ hlm
              obtain ⟨y, hy⟩ : ∃ y, y = (sortZ S.pn).getD m 0 := ⟨_, rfl⟩
              have hy2 := Hfl.out y (by rw [hy, List.getD, List.getElem?_eq_getElem (by have := Hsl.out; omega)]; exact List.getElem_mem _)
              rw [← hy] at hc3
              have g1 : decide (y < C2) = false := decide_eq_false (by omega)
              clear hy hy2
              go_wp2_with fail
              go_roundw
              case rel => exact ⟨m + 1, by omega, by go_num, (by trivial)⟩
              case measure => simp [intOf]; omega
            · obtain rfl : m = L := by omega
              go_wp2_with fail
              go_roundw
              case rel => exact ⟨j + 1, S, by omega, by go_num, by rw [HC2.out], HK5, O2, HE9.out⟩
              case measure => simp [intOf]; omega
        · have b2 : (k == 2) = false := by simpa using q2
          have CB := Lib.hid (other_stepF Hk1.out Ho.out hN k t Ht.out)
          go_wp2_with fail
          refine CB.out.mono ?_
          rintro e w3 ⟨rfl, S, hA⟩
          have HA := Lib.hid hA
          have HF : Hid (Fr w.heap.size B wr w3) := Lib.hid ((HX.out.fr _ _).trans hA.fr)
          clear hA
          have K2 := Lib.hid HA.out.ck
          have O2 := Lib.hid HA.out.ok
          have Hle : Hid (cl ≤ S.floor) := Lib.hid (by rw [Hcl.out]; exact HA.out.floor)
          have T1 := Lib.hid (fun W (hW : Ext w3 W) => mfloor_any (K2.out.ext hW))
          have T2 := Lib.hid (fun W (hW : Ext w3 W) => mmark_any (K2.out.ext hW))
          have T3 := Lib.hid (fun W (hW : Ext w3 W) => mpins_any (K2.out.ext hW) O2.out (by omega))
          have Hfl : Hid (∀ x ∈ sortZ S.pn, S.floor ≤ x) := Lib.hid (fun x hx => floor_pn ((sortZ_perm S.pn).mem_iff.1 hx))
          have Hsl := Lib.hid (sortZ_len S.pn)
          have hLb : S.pn.length ≤ 17592186044417 := by have := O2.out.pn; omega
          have hfm := floor_le S
          obtain ⟨C2, hC2⟩ : ∃ C2, C2 = S.floor := ⟨_, rfl⟩
          obtain ⟨L, hL⟩ : ∃ L, L = S.pn.length := ⟨_, rfl⟩
          obtain ⟨M2, hM2⟩ : ∃ M2, M2 = S.mark := ⟨_, rfl⟩
          have HC2 := Lib.hid hC2
          rw [← hC2] at T1 Hfl Hle hfm
          rw [← hL] at T3 Hsl hLb
          rw [← hM2] at T2 hfm
          have dd : decide (C2 < cl) = false := decide_eq_false (by have := Hle.out; omega)
          have dm : decide (M2 < C2) = false := decide_eq_false (by omega)
          clear hC2 hL hM2 hfm
          go_wp2_with fail
          refine (T1.out _ (Ext.refl _)).mono ?_
          rintro e w4 ⟨rfl, he3⟩
          go_wp2_with fail
          refine (T1.out _ he3).mono ?_
          rintro e w5 ⟨rfl, he4⟩
          have he5 := he3.trans he4
          clear he3 he4
          go_wp2_with fail
          refine (T2.out _ he5).mono ?_
          rintro e w6 ⟨rfl, rfl⟩
          go_wp2_with fail
          refine (T1.out _ he5).mono ?_
          rintro e w6 ⟨rfl, he6⟩
          have he7 := he5.trans he6
          clear he5 he6
          go_wp2_with fail
          refine (T3.out _ he7).mono ?_
          rintro e w7 ⟨A2, c2, rfl, hown, he8⟩
          have he9 := he7.trans he8
          have hrd := hown.rd' Hsl.out
          clear hown he7 he8
          go_wp2_with fail
          have hE2 : Ext w w7 := Fr.ext hE (HF.out.trans (he9.fr _ _)) (Nat.le_refl _)
          have HE9 := Lib.hid hE2
          have HK5 := Lib.hid (K2.out.ext he9)
          clear hE2 he9
          go_loopw [87] (fun i ws => ∃ m : Nat, m ≤ L ∧ i = .int .i64 m ∧ ws = w7) (fun i _ => L - (intOf i).toNat)
          case atStart => exact ⟨0, Nat.zero_le _, rfl, rfl⟩
          case round =>
            obtain ⟨m, hm, rfl, rfl⟩ := hrel
            by_cases hlm : m < L
            · obtain ⟨b3, o3, rfl, hb3, hc3⟩ := hrd.atZ hlm
              obtain ⟨y, hy⟩ : ∃ y, y = (sortZ S.pn).getD m 0 := ⟨_, rfl⟩
              have hy2 := Hfl.out y (by rw [hy, List.getD, List.getElem?_eq_getElem (by have := Hsl.out; omega)]; exact List.getElem_mem _)
              rw [← hy] at hc3
              have g1 : decide (y < C2) = false := decide_eq_false (by omega)
              clear hy hy2
              go_wp2_with fail
              go_roundw
              case rel => exact ⟨m + 1, by omega, by go_num, (by trivial)⟩
              case measure => simp [intOf]; omega
            · obtain rfl : m = L := by omega
              go_wp2_with fail
              go_roundw
              case rel => exact ⟨j + 1, S, by omega, by go_num, by rw [HC2.out], HK5, O2, HE9.out⟩
              case measure => simp [intOf]; omega
    · obtain rfl : j = n := by omega
      go_wp2_with fail
      go_ret
      exact ⟨rfl, hE⟩

end Go.Proofs.Ytkmnhapeohlooaa
