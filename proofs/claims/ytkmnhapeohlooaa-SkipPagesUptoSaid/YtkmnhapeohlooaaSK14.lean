/-
  Layer 18: whatever the heights: walked.
-/
import Derived.Test.YtkmnhapeohlooaaSK13
namespace Go.Proofs.Ytkmnhapeohlooaa
open Go.RowKit
set_option maxRecDepth 100000

theorem RdL.fr {P : Nat → Prop} {w w' : World} {A : Option Addr} {n : Nat} {ss : List Sl} (h : RdL w A n ss) (f : FrX P w w') (hP : ∀ a, A = some a → ¬ P a.block) : RdL w' A n ss :=
  ⟨h.1, fun hn => by
    obtain ⟨b, o, e, hlt, hc⟩ := h.2 hn
    exact ⟨b, o, e, Nat.lt_of_lt_of_le hlt f.size, fun j s hj => (World.cell?_of_block (w := w) (a := ⟨b, o + j, none⟩) (show w'.heap[b]? = w.heap[b]? from f.block b hlt (hP _ e))).trans (hc j s hj)⟩⟩
theorem Rd.fr {P : Nat → Prop} {k : IntKind} {w w' : World} {A : Option Addr} {n : Nat} {xs : List Nat} (h : Rd k w A n xs) (f : FrX P w w') (hP : ∀ a, A = some a → ¬ P a.block) : Rd k w' A n xs :=
  ⟨h.1, fun hn => by
    obtain ⟨b, o, e, hlt, hc⟩ := h.2 hn
    exact ⟨b, o, e, Nat.lt_of_lt_of_le hlt f.size, fun j hj => (World.cell?_of_block (w := w) (a := ⟨b, o + j, none⟩) (show w'.heap[b]? = w.heap[b]? from f.block b hlt (hP _ e))).trans (hc j hj)⟩⟩
theorem FrX.toExt {P : Nat → Prop} {w0 w w' : World} (f : FrX P w w') (h : Ext w0 w) (hP : ∀ q, P q → w0.heap.size ≤ q) : Ext w0 w' :=
  ⟨f.os.trans h.os, f.tape.trans h.tape, f.output.trans h.output, Nat.le_trans h.size f.size, fun q hq => (f.block q (Nat.lt_of_lt_of_le hq h.size) (fun hp => by have := hP q hp; omega)).trans (h.block q hq)⟩

theorem zs_up (j : Nat) : zs (List.range (j + 1)) = zs (List.range j) ++ [(j : Int)] := by rw [List.range_succ, zs_snoc]
theorem zs_down {m k : Nat} (h : k < m) : (zs (List.range m)).drop k = (k : Int) :: (zs (List.range m)).drop (k + 1) := by
  have hl : k < (zs (List.range m)).length := by rw [zs_len, List.length_range]; exact h
  rw [List.drop_eq_getElem_cons hl]
  congr 1
  simp [zs]

set_option maxHeartbeats 6400000 in
theorem walk_SkipHeights (A1 : Option Addr) (n1 c1 : Nat) (xs1 : List Int) (A2 : Option Addr) (n2 c2 : Nat) (xs2 : List Int) (A3 : Option Addr) (n3 c3 : Nat) (ss : List Sl) (A4 : Option Addr) (n4 c4 : Nat) (lo : List Nat) (A5 : Option Addr) (n5 c5 : Nat) (hi : List Nat) (w : World)
    (r1 : RdG shZ w A1 n1 xs1) (z1 : n1 ≤ 17592186044416) (r2 : RdG shZ w A2 n2 xs2) (z2 : n2 ≤ 17592186044416) (r3 : TxL w A3 n3 ss) (z3 : n3 ≤ 140737488355328) (r4 : Rd .u8 w A4 n4 lo) (u4 : ∀ v ∈ lo, v < 256) (z4 : n4 ≤ 140737488355328) (r5 : Rd .u8 w A5 n5 hi) (u5 : ∀ v ∈ hi, v < 256) (_z5 : n5 ≤ 140737488355328) :
    Calls Try.prog 8 #[.slice A1 n1 c1, .slice A2 n2 c2, .slice A3 n3 c3, .slice A4 n4 c4, .slice A5 n5 c5] w fun e w' => e = .returned (.bool true) ∧ Ext w w' := by
  have C1 := Lib.hid (snew_any A1 n1 c1 xs1 w r1 z1)
  have C2 := Lib.hid (fun W (hW : Ext w W) => snew_any A2 n2 c2 xs2 W (r2.ext hW) z2)
  have C4 := Lib.hid (fun W (hW : Ext w W) => refIndex_any A3 n3 c3 ss W (r3.ext hW) z3)
  have R4 := Lib.hid r4
  have R5 := Lib.hid r5
  have U4 := Lib.hid u4
  have U5 := Lib.hid u5
  have R3 := Lib.hid r3
  clear r1 r2 r3 r4 r5 u4 u5
  go_enter Try.func8, Try.ntmps8
  go_wp2_with fail
  refine C1.out.mono ?_
  rintro e w1 ⟨sl, rfl, k1, he1⟩
  have K1 := Lib.hid k1
  have C2 := Lib.hid (C2.out w1 he1)
  have HE1 := Lib.hid he1
  clear k1 he1 C1
  go_wp2_with fail
  refine C2.out.mono ?_
  rintro e w2 ⟨sm, rfl, k2, he2⟩
  have K2 := Lib.hid k2
  have HE2 := Lib.hid he2
  clear k2 he2 C2
  go_wp2_with fail
  refine (alive18_any _).mono ?_
  rintro e w3 ⟨rfl, he3⟩
  have C4 := Lib.hid (C4.out w3 ((HE1.out.trans HE2.out).trans he3))
  have HE3 := Lib.hid he3
  clear he3
  go_wp2_with fail
  refine C4.out.mono ?_
  rintro e w4 ⟨A, c, us, B, cB, rfl, hbu, hEn, _, he4⟩
  obtain ⟨ha, hl, hx⟩ := idx_facts (bodies ss)
  obtain ⟨U, hU⟩ : ∃ U, U = (idxR (bodies ss)).1 := ⟨_, rfl⟩
  rw [← hU] at hbu ha hl hx
  obtain ⟨H1, hH1⟩ : ∃ H1, H1 = hts xs1 := ⟨_, rfl⟩
  obtain ⟨H2, hH2⟩ : ∃ H2, H2 = hts xs2 := ⟨_, rfl⟩
  obtain ⟨P, hP⟩ : ∃ P : Nat → Prop, P = fun q => w.heap.size ≤ q ∧ q < w2.heap.size := ⟨_, rfl⟩
  have hs1 := HE1.out.size
  have hs2 := HE2.out.size
  have hs3 := HE3.out.size
  have hs4 := he4.size
  have hTwo : TwoL P w4 w4 sl H1 [] [] sm H2 [] [] := by
    subst hH1 hH2 hP
    exact ⟨_, _, _, _, ((K1.out.ext HE2.out).ext HE3.out).ext he4, (K2.out.ext HE3.out).ext he4, fun q h1 h2 => by omega, fun q h1 => .inl ⟨by omega, by omega⟩, fun q h1 => .inl ⟨by omega, by omega⟩, FrX.refl _ _⟩
  have hE4 : Ext w w4 := ((HE1.out.trans HE2.out).trans HE3.out).trans he4
  have HUs : Hid (∀ W, FrX P w4 W → RdL W A us.length us ∧ (∀ s ∈ us, Rd .u8 W s.A s.body.length s.body) ∧ Ext w W) := Lib.hid fun W f => by
    subst hP
    refine ⟨hEn.rd.fr f (fun a h1 h2 => by have := hEn.row a h1; omega), fun s hs => (hEn.own s hs).rd.fr f (fun a h1 h2 => by have := ((hEn.own s hs).block a h1).1; omega), f.toExt hE4 (fun q hq => hq.1)⟩
  have HBs : Hid (∀ s ∈ us, U8 s.body ∧ s.body.length ≤ 200) := Lib.hid fun s hs => by
    have h1 : s.body ∈ U := by rw [← hbu]; exact List.mem_map_of_mem hs
    obtain ⟨h2, h3⟩ := hx _ h1
    obtain ⟨t, ht, e⟩ := List.mem_map.1 h2
    exact ⟨by rw [← e]; exact (R3.out.each t ht).u8, h3⟩
  have HTwo := Lib.hid hTwo
  have Ha := Lib.hid ha
  have Hbu := Lib.hid hbu
  obtain ⟨m, hm⟩ : ∃ m, m = us.length := ⟨_, rfl⟩
  have hmU : U.length = m := by rw [← hbu, hm]; exact bodies_len us
  have HmU := Lib.hid hmU
  have hmb : m ≤ 4096 := by rw [← hmU]; exact hl
  rw [← hm] at HUs ⊢
  clear hU hH1 hH2 hP hs1 hs2 hs3 hs4 hTwo hE4 ha hbu hx hl hm hmU hEn he4 C4
  go_wp2_with fail
  go_loopw [51] (fun i wr => ∃ j : Nat, j ≤ m ∧ i = .int .i64 j ∧ Hid (TwoL P w4 wr sl H1 (U.take j) (zs (List.range j)) sm H2 [] [])) (fun i _ => m - (intOf i).toNat)
  case atStart => exact ⟨0, Nat.zero_le _, rfl, HTwo⟩
  case round =>
    obtain ⟨j, hj, rfl, HT⟩ := hrel
    by_cases hlt : j < m
    · obtain ⟨q1, q2, q3⟩ := HUs.out _ HT.out.fr
      obtain ⟨b, o, s, rfl, hf, hc⟩ := q1.at_ hlt
      have hUj : U[j]? = some s.body := by rw [← Hbu.out]; exact bodies_at hf
      obtain ⟨a1, a2, a3⟩ := asc_up Ha.out hUj (V := zs (List.range j)) (by rw [zs_len, List.length_range]) (j : Int)
      obtain ⟨b1, b2⟩ := HBs.out s (List.mem_of_getElem? hf)
      have CP := twoput_any HT.out (by rw [List.length_take]; omega) s.A s.body.length s.c s.body (j : Int) (q2 s (List.mem_of_getElem? hf)) b1 (by omega)
      rw [a2, a3, decide_eq_true a1, ← zs_up] at CP
      have CP := Lib.hid CP
      obtain ⟨sn, hsn⟩ : ∃ sn, sn = s.body.length := ⟨_, rfl⟩
      rw [← hsn] at hc CP
      clear q1 q2 q3 hUj a1 a2 a3 hf b1 b2 hsn
      go_wp2_with fail
      refine CP.out.mono ?_
      rintro e w5 ⟨rfl, h5⟩
      have H5 := Lib.hid h5
      clear h5 CP
      go_wp2_with fail
      go_roundw
      case rel => exact ⟨j + 1, by omega, by go_num, H5⟩
      case measure => simp [intOf]; omega
    · obtain rfl : j = m := by omega
      have HT0 : Hid (TwoL P w4 wr sl H1 U (zs (List.range j)) sm H2 (U.drop j) ((zs (List.range j)).drop j)) := Lib.hid (by
        have := HT.out
        rw [List.take_of_length_le (by rw [HmU.out]; exact Nat.le_refl _)] at this
        rw [List.drop_of_length_le (by rw [HmU.out]; exact Nat.le_refl _), List.drop_of_length_le (by rw [zs_len, List.length_range]; exact Nat.le_refl _)]
        exact this)
      clear HT HTwo
      go_wp2_with fail
      go_loopw [18] (fun v wr => ∃ k : Nat, k ≤ j ∧ v = .int .i64 ((k : Int) - 1) ∧ Hid (TwoL P w4 wr sl H1 U (zs (List.range j)) sm H2 (U.drop k) ((zs (List.range j)).drop k))) (fun v _ => (intOf v + 1).toNat)
      case atStart => exact ⟨j, Nat.le_refl _, by go_num, HT0⟩
      case round =>
        obtain ⟨k, hk, rfl, HT⟩ := hrel
        by_cases k0 : k = 0
        · subst k0
          have hT := HT.out
          rw [List.drop_zero, List.drop_zero] at hT
          obtain ⟨X1, b1, l1⟩ := hT.one
          obtain ⟨X2, b2, l2⟩ := hT.swap.one
          obtain ⟨_, _, hEw⟩ := HUs.out _ hT.fr
          obtain ⟨V, hV⟩ : ∃ V, V = zs (List.range j) := ⟨_, rfl⟩
          rw [← hV] at l1 l2
          have hUb : U.length < 1099511627776 := by rw [HmU.out]; omega
          have HL1 := Lib.hid (fun W (hW : Ext wr W) => l1.ext hW)
          have HL2 := Lib.hid (fun W (hW : Ext wr W) => l2.ext hW)
          have HEw := Lib.hid hEw
          have CR1 := Lib.hid (srange_any l1 hUb A4 n4 c4 lo (R4.out.ext hEw) U4.out z4 A5 n5 c5 hi (R5.out.ext hEw) U5.out)
          have hk1 : ((0 : Nat) : Int) - 1 = -1 := rfl
          clear HT hT l1 l2 hEw hV HT0
          go_wp2_with fail
          refine CR1.out.mono ?_
          rintro e w5 ⟨A6, c6, ts, Av6, cv6, rfl, hb6, hk6, ht6, hv6, he6⟩
          have HE6 := Lib.hid he6
          have CR2 := Lib.hid (srange_any (HL2.out _ he6) hUb A4 n4 c4 lo (R4.out.ext (HEw.out.trans he6)) U4.out z4 A5 n5 c5 hi (R5.out.ext (HEw.out.trans he6)) U5.out)
          have H6 := Lib.hid (show bodies ts = rngK U lo hi ∧ OwnT w5 wr.heap.size A6 c6 ts ∧ Txts w5 wr.heap.size ts ∧ OwnG shZ 3 w5 wr.heap.size Av6 cv6 (rngV U V lo hi) from ⟨hb6, hk6, ht6, hv6⟩)
          obtain ⟨n6, hn6⟩ : ∃ n6, n6 = ts.length := ⟨_, rfl⟩
          obtain ⟨nv, hnv⟩ : ∃ nv, nv = (rngV U V lo hi).length := ⟨_, rfl⟩
          rw [← hn6, ← hnv]
          have Hn6 := Lib.hid hn6
          have HB6 := Lib.hid hb6
          have Hnv := Lib.hid hnv
          clear hb6 hk6 ht6 hv6 he6 CR1 hn6 hnv
          go_wp2_with fail
          refine CR2.out.mono ?_
          rintro e w6 ⟨A7, c7, us7, Av7, cv7, rfl, hb7, hk7, ht7, hv7, he7⟩
          rw [← Hnv.out]
          have HE7 := Lib.hid (HE6.out.trans he7)
          have hl67 : us7.length = n6 := by
            have h1 := congrArg List.length hb7
            have h2 := congrArg List.length H6.out.1
            rw [bodies_len] at h1 h2
            rw [h1, ← h2, ← Hn6.out]
          rw [hl67]
          have H67 := Lib.hid (show OwnT w6 wr.heap.size A6 c6 ts ∧ Txts w6 wr.heap.size ts ∧ OwnG shZ 3 w6 wr.heap.size Av6 cv6 (rngV U V lo hi) from ⟨H6.out.2.1.ext he7, H6.out.2.2.1.ext he7, H6.out.2.2.2.ext he7⟩)
          have H7 := Lib.hid (show bodies ts = bodies us7 ∧ OwnT w6 w5.heap.size A7 c7 us7 ∧ Txts w6 w5.heap.size us7 ∧ OwnG shZ 3 w6 w5.heap.size Av7 cv7 (rngV U V lo hi) from ⟨H6.out.1.trans hb7.symm, hk7, ht7, hv7⟩)
          have Hl67 := Lib.hid hl67
          have CS1 := Lib.hid (lsseek_any (HL1.out _ HE7.out) hUb A4 n4 c4 lo (R4.out.ext (HEw.out.trans HE7.out)) U4.out)
          clear hb7 hk7 ht7 hv7 he7 CR2 hl67 H6
          go_wp2_with fail
          refine CS1.out.mono ?_
          rintro e w7 ⟨hs7, he8⟩
          have HE8 := Lib.hid (HE7.out.trans he8)
          have CS2 := Lib.hid (lsseek_any (HL2.out _ HE8.out) hUb A4 n4 c4 lo (R4.out.ext (HEw.out.trans HE8.out)) U4.out)
          have H67 := Lib.hid (show OwnT w7 wr.heap.size A6 c6 ts ∧ Txts w7 wr.heap.size ts ∧ OwnG shZ 3 w7 wr.heap.size Av6 cv6 (rngV U V lo hi) from ⟨H67.out.1.ext he8, H67.out.2.1.ext he8, H67.out.2.2.ext he8⟩)
          have H7 := Lib.hid (show bodies ts = bodies us7 ∧ OwnT w7 w5.heap.size A7 c7 us7 ∧ Txts w7 w5.heap.size us7 ∧ OwnG shZ 3 w7 w5.heap.size Av7 cv7 (rngV U V lo hi) from ⟨H7.out.1, H7.out.2.1.ext he8, H7.out.2.2.1.ext he8, H7.out.2.2.2.ext he8⟩)
          clear he8 CS1
          obtain ⟨pA, pn, pc, pv, pb, pt, rfl, hp1, hp2, hp3⟩ : ∃ (pA : Option Addr) (pn pc : Nat) (pv : Int) (pb : Bool) (pt : List Nat), e = .returned (.tuple #[.slice pA pn pc, .int .i64 pv, .bool pb]) ∧ Rd .u8 w7 pA pn pt ∧ pn ≤ 200 ∧
              ((skN lo U = U.length ∧ pn = 0 ∧ pt = [] ∧ pv = 0 ∧ pb = false) ∨ (U[skN lo U]? = some pt ∧ pv = V.getD (skN lo U) 0 ∧ pb = true)) := by
            rcases hs7 with ⟨h1, rfl⟩ | ⟨x, A', c', h1, rfl, h3⟩
            · exact ⟨none, 0, 0, 0, false, [], rfl, ⟨rfl, fun h => absurd h (by decide)⟩, by omega, .inl ⟨h1, rfl, rfl, rfl, rfl⟩⟩
            · exact ⟨A', x.length, c', _, true, x, rfl, h3.rd, by
                obtain ⟨s, hs, e⟩ := List.mem_map.1 (show x ∈ us.map Sl.body from by have := List.mem_of_getElem? h1; rw [← Hbu.out] at this; exact this)
                rw [← e]; exact (HBs.out s hs).2, .inr ⟨h1, rfl, rfl⟩⟩
          have Hp1 := Lib.hid hp1
          have Hp3 := Lib.hid hp3
          clear hs7 hp1 hp3
          go_wp2_with fail
          refine CS2.out.mono ?_
          rintro e w8 ⟨hs8, he9⟩
          have HE9 := Lib.hid (HE8.out.trans he9)
          have H67 := Lib.hid (show OwnT w8 wr.heap.size A6 c6 ts ∧ Txts w8 wr.heap.size ts ∧ OwnG shZ 3 w8 wr.heap.size Av6 cv6 (rngV U V lo hi) from ⟨H67.out.1.ext he9, H67.out.2.1.ext he9, H67.out.2.2.ext he9⟩)
          have H7 := Lib.hid (show bodies ts = bodies us7 ∧ OwnT w8 w5.heap.size A7 c7 us7 ∧ Txts w8 w5.heap.size us7 ∧ OwnG shZ 3 w8 w5.heap.size Av7 cv7 (rngV U V lo hi) from ⟨H7.out.1, H7.out.2.1.ext he9, H7.out.2.2.1.ext he9, H7.out.2.2.2.ext he9⟩)
          have Hp1 := Lib.hid (Hp1.out.ext he9)
          clear he9 CS2
          obtain ⟨qA, qn, qc, rfl, hq1⟩ : ∃ (qA : Option Addr) (qn qc : Nat), e = .returned (.tuple #[.slice qA qn qc, .int .i64 pv, .bool pb]) ∧ Rd .u8 w8 qA qn pt := by
            rcases hs8 with ⟨h1, rfl⟩ | ⟨x, A', c', h1, rfl, h3⟩
            · rcases Hp3.out with ⟨_, _, e3, e4, e5⟩ | ⟨g1, _, _⟩
              · subst e3 e4 e5
                exact ⟨none, 0, 0, rfl, ⟨rfl, fun h => absurd h (by decide)⟩⟩
              · rw [h1, List.getElem?_eq_none (Nat.le_refl _)] at g1; cases g1
            · rcases Hp3.out with ⟨g1, _⟩ | ⟨g1, g2, g3⟩
              · rw [g1, List.getElem?_eq_none (Nat.le_refl _)] at h1; cases h1
              · rw [h1] at g1
                injection g1 with g1
                subst g1 g2 g3
                exact ⟨A', x.length, c', rfl, h3.rd⟩
          have CL1 := Lib.hid (lslen_any (HL1.out _ HE9.out) hUb)
          have CL2 := Lib.hid (lslen_any (HL2.out _ HE9.out) hUb)
          rw [HmU.out] at CL1 CL2
          have Hq1 := Lib.hid hq1
          have hr6 : RdL w8 A6 n6 ts := by have := OwnG.rdL H67.out.1; rwa [← Hn6.out] at this
          have hr7 : RdL w8 A7 n6 us7 := by have := OwnG.rdL H7.out.2.1; rwa [Hl67.out] at this
          have hn6b : n6 ≤ 4096 := by
            have h1 : (rngK U lo hi).length ≤ U.length := by
              unfold rngK
              have := (List.takeWhile_sublist (fun k => !stopB hi k) (l := U.drop (skN lo U))).length_le
              rw [List.length_drop] at this
              omega
            have h2 : n6 = (rngK U lo hi).length := by rw [Hn6.out, ← HB6.out, bodies_len]
            rw [h2]
            have := HmU.out
            omega
          have hnvb : nv ≤ n6 := by
            have h2 : n6 = (rngK U lo hi).length := by rw [Hn6.out, ← HB6.out, bodies_len]
            rw [Hnv.out, h2]
            unfold rngV
            exact List.length_take_le _ _
          have Hsb : Hid (∀ s ∈ ts, s.body.length ≤ 140737488355328) := Lib.hid fun s hs => by
            have h1 : s.body ∈ rngK U lo hi := by rw [← HB6.out]; exact List.mem_map_of_mem hs
            have h2 : s.body ∈ U := List.mem_of_mem_drop ((List.takeWhile_sublist _).subset h1)
            rw [← Hbu.out] at h2
            obtain ⟨x, hx, e⟩ := List.mem_map.1 h2
            have := (HBs.out x hx).2
            rw [← e]
            omega
          clear hs8 hq1
          go_wp2_with fail
          refine CL1.out.mono ?_
          rintro e w9 ⟨rfl, rfl⟩
          go_wp2_with fail
          refine CL2.out.mono ?_
          rintro e w9 ⟨rfl, rfl⟩
          go_wp2_with fail
          refine (sameT_yes A6 A7 n6 c6 n6 c7 ts us7 w8 hr6 hr7 H7.out.1 (by omega) (fun s hs => ⟨H67.out.2.1.rd s hs, Hsb.out s hs⟩) (fun t ht => H7.out.2.2.1.rd t ht)).mono ?_
          rintro e w9 ⟨rfl, q9, hw9⟩
          have hE9 : Ext w8 w9 := by rw [hw9]; exact (Ext.refl w8).drewN q9
          have HE10 := Lib.hid (HE9.out.trans hE9)
          have CI := Lib.hid (sameInts_yes Av6 Av7 nv cv6 cv7 (rngV U V lo hi) w9 ((H67.out.2.2.rd' Hnv.out.symm).ext hE9) ((H7.out.2.2.2.rd' Hnv.out.symm).ext hE9) (by omega))
          have Hp1 := Lib.hid (Hp1.out.ext hE9)
          have Hq1 := Lib.hid (Hq1.out.ext hE9)
          clear hw9 hE9
          go_wp2_with fail
          refine CI.out.mono ?_
          rintro e w10 ⟨rfl, q10, hw10⟩
          have hE10 : Ext w9 w10 := by rw [hw10]; exact (Ext.refl w9).drewN q10
          have CS := Lib.hid (same_yes (c := pc) (c' := qc) (Hp1.out.ext hE10) (Hq1.out.ext hE10) (by omega))
          have HE11 := Lib.hid ((HEw.out.trans HE10.out).trans hE10)
          clear hw10 hE10
          go_wp2_with fail
          refine CS.out.mono ?_
          rintro e w11 ⟨rfl, q11, hw11⟩
          have HE12 := Lib.hid (show Ext w w11 from by rw [hw11]; exact HE11.out.drewN q11)
          clear hw11
          go_wp2_with fail
          go_ret
          exact ⟨rfl, HE12.out⟩
        · obtain ⟨i, rfl⟩ : ∃ i, k = i + 1 := ⟨k - 1, by omega⟩
          have hki : (((i + 1 : Nat) : Int) - 1) = (i : Int) := by omega
          rw [hki]
          obtain ⟨q1, q2, q3⟩ := HUs.out _ HT.out.fr
          obtain ⟨b, o, s, rfl, hf, hc⟩ := q1.at_ (show i < j by omega)
          have hUj : U[i]? = some s.body := by rw [← Hbu.out]; exact bodies_at hf
          obtain ⟨a1, a2, a3⟩ := asc_down Ha.out hUj (V := (zs (List.range j)).drop (i + 1)) (i : Int)
          obtain ⟨b1, b2⟩ := HBs.out s (List.mem_of_getElem? hf)
          have CP := twoput_any HT.out.swap (by rw [List.length_drop, HmU.out]; omega) s.A s.body.length s.c s.body (i : Int) (q2 s (List.mem_of_getElem? hf)) b1 (by omega)
          rw [a2, a3, decide_eq_true a1, ← zs_down (show i < j by omega)] at CP
          have CP := Lib.hid CP
          obtain ⟨sn, hsn⟩ : ∃ sn, sn = s.body.length := ⟨_, rfl⟩
          rw [← hsn] at hc CP
          have hij : (i : Int) < (j : Int) := by omega
          clear q1 q2 q3 hUj a1 a2 a3 hf b1 b2 hsn hki
          go_wp2_with fail
          refine CP.out.mono ?_
          rintro e w5 ⟨rfl, h5⟩
          have H5 := Lib.hid h5.swap
          clear h5 CP
          go_wp2_with fail
          go_roundw
          case rel => exact ⟨i, by omega, by go_num, H5⟩
          case measure => simp [intOf] <;> omega

end Go.Proofs.Ytkmnhapeohlooaa
