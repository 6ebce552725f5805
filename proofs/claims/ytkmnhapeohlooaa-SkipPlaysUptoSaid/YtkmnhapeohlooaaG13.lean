import Derived.Test.YtkmnhapeohlooaaG12
import Derived.Test.YtkmnhapeohlooaaG8
import Derived.Test.YtkmnhapeohlooaaG2

/-
  Layer 18: page by page: walked.
-/
namespace Go.Proofs.Ytkmnhapeohlooaa
open Go.RowKit
set_option maxRecDepth 100000

set_option maxHeartbeats 1600000 in
theorem walk_SkipPages (A1 : Option Addr) (n1 c1 : Nat) (xs1 : List Int) (A2 : Option Addr) (n2 c2 : Nat) (ss : List Sl) (page : Int) (A3 : Option Addr) (n3 c3 : Nat) (low : List Nat) (w : World)
    (r1 : RdG shZ w A1 n1 xs1) (z1 : n1 ≤ 17592186044416) (r2 : TxL w A2 n2 ss) (z2 : n2 ≤ 1048576) (r3 : Rd .u8 w A3 n3 low) (u3 : ∀ v ∈ low, v < 256) (z3 : n3 ≤ 140737488355328) :
    Calls Try.prog 10 #[.slice A1 n1 c1, .slice A2 n2 c2, .int .i64 page, .slice A3 n3 c3] w fun e w' => e = .returned (.bool true) ∧ Ext w w' := by
  have hE0 : Ext w ((w.alloc (.cells #[.int .i64 page] 3)).alloc (.cells #[.bool false] 4)) := ((Ext.refl w).alloc _).alloc _
  have C1 := Lib.hid (snew_any A1 n1 c1 xs1 _ (r1.ext hE0) z1)
  have R2 := Lib.hid r2
  have R3 := Lib.hid r3
  have U3 := Lib.hid u3
  obtain ⟨ks, hks⟩ : ∃ ks, ks = bodies ss := ⟨_, rfl⟩
  have Hks := Lib.hid hks
  have Hkl := Lib.hid (show ks.length = n2 from by rw [hks, bodies_len]; exact r2.len)
  obtain ⟨H, hH⟩ : ∃ H, H = hts xs1 := ⟨_, rfl⟩
  rw [← hH] at C1
  have HE0 := Lib.hid hE0
  clear r1 r2 r3 u3 hks hH hE0
  refine (callsIn_wide (n := 6)).1 ?_
  refine callsIn_of_wp_marks Try.func10 rfl trivial ?_ rfl
  simp only [Try.ntmps10, List.size_toArray, List.length_cons, List.length_nil, Nat.reduceAdd, Nat.reduceSub, Array.replicate_succ, Array.replicate_zero, List.push_toArray, List.append_toArray, List.nil_append, List.cons_append]
  refine wpIn_wide.2 ?_
  go_wp2_with fail
  refine C1.out.mono ?_
  rintro e w1 ⟨sb, rfl, k1, he1⟩
  obtain ⟨W0, hW0⟩ : ∃ W0, W0 = (w.alloc (.cells #[.int .i64 page] 3)).alloc (.cells #[.bool false] 4) := ⟨_, rfl⟩
  have K1 := Lib.hid (show LA W0 w1 sb H [] [] from ⟨_, _, k1, by rw [hW0]; exact Nat.le_refl _, by rw [hW0]; exact he1⟩)
  have HE0 := Lib.hid (show Ext w W0 from by rw [hW0]; exact HE0.out)
  have q6 : W0.heap[w.heap.size]? = some (.cells #[.int .i64 page] 3 (0, 0)) := by rw [hW0]; exact (Below.heap_alloc _ _ _ (by simp)).trans (heap_alloc_new w _)
  have q8 : W0.heap[w.heap.size + 1]? = some (.cells #[.bool false] 4 (0, 0)) := by rw [hW0]; have := heap_alloc_new (w.alloc (.cells #[.int .i64 page] 3)) (.cells #[.bool false] 4); rwa [World.size_alloc] at this
  obtain ⟨B6, hB6⟩ : ∃ B6, B6 = w.heap.size := ⟨_, rfl⟩
  obtain ⟨B8, hB8⟩ : ∃ B8, B8 = w.heap.size + 1 := ⟨_, rfl⟩
  rw [← hB6] at q6
  rw [← hB8] at q8
  rw [← hB6] at hB8
  have HB6 := Lib.hid hB6
  have HB8 := Lib.hid hB8
  have hb8 : w.heap.size + 1 = B8 := by omega
  have hb6 : w.heap.size = B6 := by omega
  have HQ : Hid (∀ W, Ext W0 W → W.heap[B6]? = some (.cells #[.int .i64 page] 3 (0, 0)) ∧ W.heap[B8]? = some (.cells #[.bool false] 4 (0, 0))) := Lib.hid fun W hW => ⟨(hW.block _ (Array.getElem?_eq_some_iff.1 q6).1).trans q6, (hW.block _ (Array.getElem?_eq_some_iff.1 q8).1).trans q8⟩
  clear k1 he1 C1 hB6 hB8 q6 q8 hW0
  rw [hb8, hb6]
  clear hb6 hb8
  go_wp2_with fail
  refine (alive18_any _).mono ?_
  rintro e w2 ⟨rfl, he2⟩
  have K2 := Lib.hid (K1.out.ext he2)
  clear he2 K1
  go_wp2_with fail
  go_loopw [35] (fun i wr => ∃ j : Nat, j ≤ n2 ∧ i = .int .i64 j ∧ Hid (LA W0 wr sb H (lvA ks 0 j).1 (lvA ks 0 j).2)) (fun i _ => n2 - (intOf i).toNat)
  case atStart => exact ⟨0, Nat.zero_le _, rfl, K2⟩
  case round =>
    clear K2
    obtain ⟨j, hj, rfl, HT⟩ := hrel
    by_cases hlt : j < n2
    · obtain ⟨b, o, s, rfl, hf, hc, hs⟩ := (R2.out.ext (HE0.out.trans HT.out.toExt)).at_ hlt
      have hg : ks.getD j [] = s.body := by rw [Hks.out]; exact bodies_get hf
      have hb : (lvA ks 0 j).1.length < 1099511627776 := by have := (lvA_len ks 0 j).2; omega
      have CP := laput_any HT.out hb s.A s.body.length s.c s.body (j : Int) hs.rd hs.u8 hs.len
      rw [← hg] at CP
      have HN : Hid (insL (lvA ks 0 j).1 (ks.getD j []) = (lvA ks 0 (j + 1)).1 ∧ putV (lvA ks 0 j).1 (lvA ks 0 j).2 (ks.getD j []) (j : Int) = (lvA ks 0 (j + 1)).2) := Lib.hid ⟨rfl, by show _ = putV _ _ _ ((j : Int) + 0); rw [Int.add_zero]⟩
      rw [HN.out.1, HN.out.2] at CP
      obtain ⟨D, hD⟩ : ∃ D, D = decide (¬ (lvA ks 0 j).1[skN (ks.getD j []) (lvA ks 0 j).1]? = some (ks.getD j [])) := ⟨_, rfl⟩
      rw [← hD] at CP
      rw [← hg] at hc
      obtain ⟨sn, hsn⟩ : ∃ sn, sn = (ks.getD j []).length := ⟨_, rfl⟩
      rw [← hsn] at hc CP
      have CP := Lib.hid CP
      clear hf hs hg hb hsn hD
      go_wp2_with fail
      refine CP.out.mono ?_
      rintro e w5 ⟨rfl, h5⟩
      have H5 := Lib.hid h5
      clear h5 CP HN
      go_wp2_with fail
      go_roundw
      case rel => exact ⟨j + 1, by omega, by go_num, H5⟩
      case measure => simp [intOf]; omega
    · obtain rfl : j = n2 := by omega
      have hq68 := HQ.out _ HT.out.toExt
      have hc6 := cell_of_row wr B6 0 _ _ (0, 0) hq68.1
      have hc8 := cell_of_row wr B8 0 _ _ (0, 0) hq68.2
      have hf8 : wr.frozen? ⟨B8, 0, none⟩ = false := by simp [World.frozen?, hq68.2]
      have HE0T := Lib.hid HT.out.toExt
      have hpe : ∀ W, Ext W0 W → Ext w ((W.setCell ⟨B8, 0, none⟩ (.bool true))) ∧ (W.setCell ⟨B8, 0, none⟩ (.bool true)).cell? ⟨B8, 0, none⟩ = some (.bool true) := fun W hW => by
        have h8 := (HQ.out W hW).2
        exact ⟨(HE0.out.trans hW).setCell (p := ⟨B8, 0, none⟩) (by show w.heap.size ≤ B8; rw [HB8.out, HB6.out]; omega) _, cell_of_row _ B8 0 _ _ (0, 0) (heap_setCell_same W B8 0 _ _ _ h8)⟩
      clear hq68
      have HPE := Lib.hid hpe
      clear hpe
      by_cases hp : page < 1
      · go_wp2_with fail
        exact pages_end (ds := []) rfl (HPE.out _ HE0T.out).2 (HPE.out _ HE0T.out).1 List.nodup_nil (fun D hD => by cases hD)
      · by_cases hk3 : 3000 < j
        · go_wp2_with fail
          exact pages_end (ds := []) rfl (HPE.out _ HE0T.out).2 (HPE.out _ HE0T.out).1 List.nodup_nil (fun D hD => by cases hD)
        · obtain ⟨L, hL⟩ : ∃ L, L = (lvA ks 0 j).1 := ⟨_, rfl⟩
          obtain ⟨V, hV⟩ : ∃ V, V = (lvA ks 0 j).2 := ⟨_, rfl⟩
          have HT1 := HT.out
          rw [← hL, ← hV] at HT1
          have hasc := lvA_asc ks 0 j (by rw [Hkl.out]; exact Nat.le_refl _)
          have hlen := lvA_len ks 0 j
          have hden := lvA_dents ks 0 j (by rw [Hkl.out]; exact Nat.le_refl _)
          rw [List.take_of_length_le (by rw [Hkl.out]; exact Nat.le_refl _)] at hden
          rw [← hL, ← hV] at hlen
          rw [← hL] at hasc hden
          have hLu : Hid (∀ x ∈ L, U8 x ∧ x.length ≤ 140737488355328) := Lib.hid fun x hx => by
            rw [hden, dents_mem, Hks.out] at hx
            obtain ⟨s, hs, rfl⟩ := List.mem_map.1 hx
            exact ⟨(R2.out.each s hs).u8, (R2.out.each s hs).len⟩
          have hLb : L.length < 1099511627776 := by omega
          obtain ⟨s0, hs0⟩ : ∃ s0, s0 = skN low L := ⟨_, rfl⟩
          obtain ⟨g1, g2⟩ := rng_from L V hlen.1 low
          rw [← hs0] at g1 g2
          have HA := Lib.hid hasc
          have HLn := Lib.hid hlen
          have Hs0 := Lib.hid hs0
          have HLA := Lib.hid HT1
          obtain ⟨X, bX, l1⟩ := HT1.one
          have HL1 := Lib.hid (fun W hW => l1.ext (w' := W) hW)
          have hEw := HE0.out.trans HLA.out.toExt
          have CR := srange_any l1 hLb A3 n3 c3 low (R3.out.ext hEw) U3.out z3 none 0 0 [] ⟨rfl, fun h => absurd h (by decide)⟩ (by decide)
          unfold RngPost at CR
          rw [g1, g2] at CR
          have CR := Lib.hid CR
          have HEw := Lib.hid hEw
          clear HT hL hV hasc hlen hden hs0 g1 g2 HT1 l1 hEw
          go_wp2_with fail
          refine CR.out.mono ?_
          rintro e w7 ⟨A7, c7, ts, Av, cv, rfl, hbt, hk7, ht7, hv7, he7⟩
          obtain ⟨N, hN⟩ : ∃ N, N = ts.length := ⟨_, rfl⟩
          have hvl : (V.drop s0).length = N := by
            have h1 := congrArg List.length hbt
            have h2 := HLn.out.1
            rw [bodies_len] at h1
            rw [hN, h1, List.length_drop, List.length_drop, h2]
          rw [← hN, hvl]
          have HN := Lib.hid hN
          clear hN
          go_wp2_with fail
          have hE7 := HE0T.out.trans he7
          have h12 := heap_alloc_new w7 (.cells #[.slice A7 N c7] 49)
          obtain ⟨W8, hW8⟩ : ∃ W8, W8 = (w7.alloc (.cells #[.slice A7 N c7] 49)).alloc (.cells #[.slice Av N cv] 45) := ⟨_, rfl⟩
          have q12 : W8.heap[w7.heap.size]? = some (.cells #[.slice A7 N c7] 49 (0, 0)) := by rw [hW8]; exact (Below.heap_alloc _ _ _ (by simp)).trans h12
          have q13 : W8.heap[w7.heap.size + 1]? = some (.cells #[.slice Av N cv] 45 (0, 0)) := by rw [hW8]; have := heap_alloc_new (w7.alloc (.cells #[.slice A7 N c7] 49)) (.cells #[.slice Av N cv] 45); rwa [World.size_alloc] at this
          have he8 : Ext w7 W8 := by rw [hW8]; exact ((Ext.refl w7).alloc _).alloc _
          obtain ⟨B12, hB12⟩ : ∃ B12, B12 = w7.heap.size := ⟨_, rfl⟩
          have HB12 := Lib.hid hB12
          have hN7 : N ≤ j := by
            have h1 := congrArg List.length hbt
            rw [bodies_len, List.length_drop] at h1
            have := HLn.out.2
            have := HN.out
            omega
          have HW : Hid (bodies ts = L.drop s0 ∧ OwnT W8 wr.heap.size A7 c7 ts ∧ Txts W8 wr.heap.size ts ∧ OwnG shZ 3 W8 wr.heap.size Av cv (V.drop s0) ∧ Ext wr W8 ∧ B12 + 2 ≤ W8.heap.size ∧ W8.heap[B12]? = some (.cells #[.slice A7 N c7] 49 (0, 0)) ∧ W8.heap[B12 + 1]? = some (.cells #[.slice Av N cv] 45 (0, 0))) := Lib.hid ⟨hbt, hk7.ext he8, ht7.ext he8, hv7.ext he8, he7.trans he8, by rw [hW8, hB12, World.size_alloc, World.size_alloc]; omega, by rw [hB12]; exact q12, by rw [hB12]; exact q13⟩
          have CC := Lib.hid (copy_any A3 n3 c3 low W8 (R3.out.ext (HEw.out.trans HW.out.2.2.2.2.1)) z3)
          have Hvl := Lib.hid hvl
          have hb12 : w7.heap.size = B12 := hB12.symm
          rw [← hW8, hb12]
          clear hE7 h12 hW8 q12 q13 he8 hB12 hbt hk7 ht7 hv7 he7 hvl CR hb12
          refine CC.out.mono ?_
          rintro e w8 ⟨A8, c8, rfl, ho8, he8⟩
          have HW8 := Lib.hid he8
          have hat0 := ho8.rd
          have hl3 := R3.out.len
          rw [hl3] at hat0
          clear ho8 he8 CC
          go_wp2_with fail
          have hb15 := heap_alloc_new w8 (.cells #[.int .i64 0] 3)
          have hU3 := U3.out
          have hs0 := Hs0.out
          refine (wpIn_wide (n := 6)).1 ?_
          refine wpIn_loop (fun a wq => ∃ (n : Nat) (At : Option Addr) (mt ct : Nat) (t : List Nat) (v16 v60 v61 v62 v63 v64 v65 v66 v97 v98 v99 v100 v101 v102 v103 v104 v105 : Value) (ds : List Nat), a = { tmps := #[.slice A1 n1 c1, .slice A2 j c2, .int .i64 page, .slice A3 n3 c3, undef, undef, .pointer (some ⟨B6, 0, none⟩), undef, .pointer (some ⟨B8, 0, none⟩), .pointer (some ⟨sb, 0, none⟩), u10, u11, .pointer (some ⟨B12, 0, none⟩), .pointer (some ⟨B12 + 1, 0, none⟩), .slice At mt ct, .pointer (some ⟨w8.heap.size, 0, none⟩), v16, undef, undef, undef, undef, undef, undef, undef, undef, .slice A1 n1 c1, .pointer (some ⟨sb, 0, none⟩), .pointer (some ⟨sb, 0, none⟩), .bool false, .bool false, .bool true, .bool false, .bool false, .slice A2 j c2, .int .i64 (j : Int), .int .i64 (j : Int), .bool false, u37, u38, u39, u40, u41, u42, u43, u44, .int .i64 page, .bool false, .bool false, .slice A2 j c2, .int .i64 (j : Int), .bool (decide (3000 < (j : Int))), .bool (decide (3000 < (j : Int))), .tuple #[.slice A7 N c7, .slice Av N cv], .pointer (some ⟨sb, 0, none⟩), .slice A3 n3 c3, .tuple #[.slice A7 N c7, .slice Av N cv], .slice A7 N c7, .slice Av N cv, .slice A3 n3 c3, .slice A8 n3 c8, v60, v61, v62, v63, v64, v65, v66, undef, undef, undef, undef, undef, undef, undef, undef, undef, undef, undef, undef, undef, undef, undef, undef, undef, undef, undef, undef, undef, undef, undef, undef, undef, undef, undef, undef, undef, undef, v97, v98, v99, v100, v101, v102, v103, v104, v105, undef, undef, undef, undef, undef, undef, undef, undef, undef, undef, undef, undef, undef, undef, undef, undef, undef, undef, undef, undef, undef, undef, undef, undef, undef, undef, undef, undef, undef, undef, undef, undef, undef, undef, undef, undef, undef, undef, undef, undef, undef, undef, undef, undef, undef, undef, undef], defers := ds.map mkD } ∧ n ≤ N ∧ Hid (skN t L = s0 + n ∧ Rd .u8 wq At mt t ∧ U8 t ∧ mt ≤ 140737488355329) ∧ Hid (Ext w8 wq ∧ wq.heap[w8.heap.size]? = some (.cells #[.int .i64 (n : Int)] 3 (0, 0))) ∧ Hid (ds.Nodup ∧ ∀ D ∈ ds, w8.heap.size < D ∧ wq.heap[D]? = some (.deferred (some [])))) (fun _ wq => N - (intOf ((wq.cell? ⟨w8.heap.size, 0, none⟩).getD undef)).toNat) ?atStart ?round
          case atStart => exact ⟨0, A8, n3, c8, low, _, _, _, _, _, _, _, _, _, _, _, _, _, _, _, _, _, [], rfl, Nat.zero_le _, Lib.hid ⟨hs0.symm, hat0.ext ((Ext.refl w8).alloc _), hU3, by omega⟩, Lib.hid ⟨(Ext.refl w8).alloc _, hb15⟩, Lib.hid ⟨List.nodup_nil, by simp⟩⟩
          case round =>
            rintro a wq ⟨n, At, mt, ct, t, v16, v60, v61, v62, v63, v64, v65, v66, v97, v98, v99, v100, v101, v102, v103, v104, v105, ds, rfl, hn, Ht, HB, HD⟩
            clear hb15 hat0 hU3 hs0
            refine wpIn_wide.2 ?_
            obtain ⟨B15, hB15⟩ : ∃ B15, B15 = w8.heap.size := ⟨_, rfl⟩
            have HB15 := Lib.hid hB15
            rw [← hB15]
            have hq15 := HB.out.2
            rw [← hB15] at hq15
            have hc15 := cell_of_row wq B15 0 _ _ (0, 0) hq15
            have hq12 := (HB.out.1.block B12 (by have := HW.out.2.2.2.2.2.1; have := HW8.out.size; omega)).trans ((HW8.out.block B12 (by have := HW.out.2.2.2.2.2.1; omega)).trans HW.out.2.2.2.2.2.2.1)
            have hc12 := cell_of_row wq B12 0 _ _ (0, 0) hq12
            clear hB15
            by_cases hlt : n < N
            · have CE := Lib.hid (seach_any sb At mt ct t _ (Ht.out.2.1.ext ((Ext.refl wq).alloc (.cells #[.int .i64 0] 3))) (by have := Ht.out.2.2.2; omega))
              go_wp2_with fail
              refine CE.out.mono ?_
              rintro e w5 ⟨Bl, Bw, Ac, cc, rfl, he5, l1, l2, m1, m2, b1, b2, hrd5⟩
              go_wp2_with fail
              obtain ⟨B16, hB16⟩ : ∃ B16, B16 = wq.heap.size := ⟨_, rfl⟩
              rw [World.size_alloc] at l1 l2
              have h15l : B15 < wq.heap.size := (Array.getElem?_eq_some_iff.1 hq15).1
              have q16 := (he5.block wq.heap.size (by simp)).trans (heap_alloc_new wq (.cells #[.int .i64 0] 3))
              have q15 := (he5.block B15 (by simp; omega)).trans ((Below.heap_alloc wq (.cells #[.int .i64 0] 3) B15 h15l).trans hq15)
              have he5' : Ext wq w5 := ((Ext.refl wq).alloc _).trans he5
              have hz5 := he5.size
              rw [World.size_alloc] at hz5
              rw [← hB16] at q16 l1 l2 h15l hz5 ⊢
              have hE15 : Ext wr w5 := ((HW.out.2.2.2.2.1.trans HW8.out).trans HB.out.1).trans he5'
              have hls := HL1.out _ hE15
              obtain ⟨ns, hS5, hR5⟩ := hls
              have hXb : Hid (∀ q, X q → q < B15) := Lib.hid fun q hq => by
                have h1 := (LS.bd' (HL1.out _ (HW.out.2.2.2.2.1.trans HW8.out)) q hq).2
                rw [HB15.out]; exact h1
              have hYb : Hid (∀ q, (X q ∨ q = Bl) → q < w5.heap.size ∧ q ≠ B15 ∧ q ≠ B16) := Lib.hid fun q hq => by
                rcases hq with hq | rfl
                · have := hXb.out q hq
                  omega
                · omega
              have hz8 := HW8.out.size
              have hzW := HW.out.2.2.2.2.2.1
              have hzb := HB15.out
              have HC : Hid (∀ W, FrX (fun q => q = B15 ∨ q = B16) w5 W → W.cell? ⟨B6, 0, none⟩ = some (.int .i64 page) ∧ W.cell? ⟨B8, 0, none⟩ = some (.bool false) ∧ W.frozen? ⟨B8, 0, none⟩ = false ∧ W.cell? ⟨B12, 0, none⟩ = some (.slice A7 N c7) ∧ W.cell? ⟨B12 + 1, 0, none⟩ = some (.slice Av N cv) ∧ RdL W A7 N ts ∧ (∀ s ∈ ts, Rd .u8 W s.A s.body.length s.body) ∧ RdG shZ W Av N (V.drop s0) ∧ W.heap[B8]? = some (.cells #[.bool false] 4 (0, 0))) := Lib.hid fun W f => by
                have hE8 : Ext W8 w5 := (HW8.out.trans HB.out.1).trans he5'
                have hE0 : Ext W0 w5 := HE0T.out.trans hE15
                have hlt : ∀ q, q < W8.heap.size → W.heap[q]? = W8.heap[q]? := fun q hq => (f.block q (by have := hE8.size; omega) (by omega)).trans (hE8.block q hq)
                have hne : ∀ q, q < W8.heap.size → ¬ (q = B15 ∨ q = B16) := fun q hq => by omega
                have h68 := HQ.out _ hE0
                have hwrz := HW.out.2.2.2.2.1.size
                have h6l : B6 < W8.heap.size ∧ B8 < W8.heap.size := ⟨by have := (Array.getElem?_eq_some_iff.1 (HQ.out _ (Ext.refl W0)).1).1; have := HE0T.out.size; omega, by have := (Array.getElem?_eq_some_iff.1 (HQ.out _ (Ext.refl W0)).2).1; have := HE0T.out.size; omega⟩
                have e6 := (f.block B6 (by have := hE8.size; omega) (hne _ h6l.1)).trans h68.1
                have e8 := (f.block B8 (by have := hE8.size; omega) (hne _ h6l.2)).trans h68.2
                have e12 := (hlt B12 (by omega)).trans HW.out.2.2.2.2.2.2.1
                have e13 := (hlt (B12 + 1) (by omega)).trans HW.out.2.2.2.2.2.2.2
                have r7 := OwnG.rdL HW.out.2.1
                rw [← HN.out] at r7
                refine ⟨cell_of_row W B6 0 _ _ (0, 0) e6, cell_of_row W B8 0 _ _ (0, 0) e8, by simp [World.frozen?, e8], cell_of_row W B12 0 _ _ (0, 0) e12, cell_of_row W (B12 + 1) 0 _ _ (0, 0) e13, (r7.ext hE8).fr f (fun a ha => hne _ (HW.out.2.1.block a ha).2), fun s hs => (((HW.out.2.2.1.own s hs).rd).ext hE8).fr f (fun a ha => hne _ ((HW.out.2.2.1.own s hs).block a ha).2), ((HW.out.2.2.2.1.rd' Hvl.out).ext hE8).fr f (fun a ha => hne _ (HW.out.2.2.2.1.block a ha).2), e8⟩
              clear hzb hzW hz8
              have hpg0 : PG w5 w5 B15 B16 n 0 := ⟨FrX.refl _ _, by omega, q15, q16⟩
              have HS5 := Lib.hid hS5
              have hnl := hR5.len
              have HE5 := Lib.hid he5'
              have HRR := Lib.hid hR5
              have HB16 := Lib.hid hB16
              clear CE he5 q16 q15 hB16 he5'
              refine (wpIn_wide (n := 5)).1 ?_
              refine wpIn_rangeFunc_ownG rfl (by decide) (gf := 83) (lb := #[.pointer (some ⟨Bl, 0, none⟩), .pointer (some ⟨Bw, 0, none⟩)]) rfl trivial (enters_of Try.func83 (by kernel_rfl) rfl)
                (seqK_any Bl Bw X bX sb (Hm H L.length) ns H L V hR5 (by omega) Ac mt cc t Ht.out.2.2.1 w5 hS5 m1 m2 b1 b2 hrd5) keepY_t (keepY_b (fun q hq => (hYb.out q hq).1)) (Below.refl _ _) (fun _ => rfl)
                (fun pre W => PG w5 W B15 B16 (n + pre.length) pre.length ∧ (pre.length : Int) ≤ page)
                (fun c pre W => (c = .ret ∧ ∃ q x, pre = q ++ [x] ∧ x.p ≠ skN t L + q.length) ∨ (c = .exit 4 ∧ ∃ q x, pre = q ++ [x] ∧ (q.length : Int) = page ∧ PG w5 W B15 B16 (n + q.length) q.length))
                (fun s A B row hs hg hr => ⟨hs.1.turn hg hr, hs.2⟩)
                (fun c s A B row hs hg hr => by
                  rcases hs with h | ⟨h1, q, x, h2, h3, h4⟩
                  · exact .inl h
                  · exact .inr ⟨h1, q, x, h2, h3, h4.turn hg hr⟩)
                ⟨hpg0, by simp; omega⟩
                (fun x => { tmps := #[.slice A1 n1 c1, .slice A2 j c2, .int .i64 page, .slice A3 n3 c3, undef, undef, .pointer (some ⟨B6, 0, none⟩), undef, .pointer (some ⟨B8, 0, none⟩), .pointer (some ⟨sb, 0, none⟩), u10, u11, .pointer (some ⟨B12, 0, none⟩), .pointer (some ⟨B12 + 1, 0, none⟩), .slice At mt ct, .pointer (some ⟨B15, 0, none⟩), .pointer (some ⟨B16, 0, none⟩), (nat_ ns x.i).key.v, .int .i64 (vl ns x.i), undef, undef, undef, undef, undef, undef, .slice A1 n1 c1, .pointer (some ⟨sb, 0, none⟩), .pointer (some ⟨sb, 0, none⟩), .bool false, .bool false, .bool true, .bool false, .bool false, .slice A2 j c2, .int .i64 (j : Int), .int .i64 (j : Int), .bool false, u37, u38, u39, u40, u41, u42, u43, u44, .int .i64 page, .bool false, .bool false, .slice A2 j c2, .int .i64 (j : Int), .bool (decide (3000 < (j : Int))), .bool (decide (3000 < (j : Int))), .tuple #[.slice A7 N c7, .slice Av N cv], .pointer (some ⟨sb, 0, none⟩), .slice A3 n3 c3, .tuple #[.slice A7 N c7, .slice Av N cv], .slice A7 N c7, .slice Av N cv, .slice A3 n3 c3, .slice A8 n3 c8, .int .i64 (n : Int), .slice A7 N c7, .int .i64 (N : Int), .bool true, .pointer (some ⟨sb, 0, none⟩), .slice At mt ct, .func (.func 83) #[] #[.pointer (some ⟨Bl, 0, none⟩), .pointer (some ⟨Bw, 0, none⟩)], (nat_ ns x.i).key.v, .int .i64 (vl ns x.i), undef, undef, undef, undef, undef, undef, undef, undef, undef, undef, undef, undef, undef, undef, undef, undef, undef, undef, undef, undef, undef, undef, undef, undef, undef, undef, undef, undef, v97, v98, v99, v100, v101, v102, v103, v104, v105, undef, undef, undef, undef, undef, undef, undef, undef, undef, undef, undef, undef, undef, undef, undef, undef, undef, undef, undef, undef, undef, undef, undef, undef, undef, undef, undef, undef, undef, undef, undef, undef, undef, undef, undef, undef, undef, undef, undef, undef, undef, undef, undef, undef, undef, undef, undef], defers := [] }) ?assign ?body ?done ?stop
              case assign =>
                intro l x W K hK
                gi_wp2_with (rw [Oper.semAt_eq _ _ _ (fun c h => by cases h)]; go_simp; try go_bits)
                exact hK
              case body =>
                rintro l pre x W ⟨hPG, hpl⟩ hpN
                obtain ⟨c6, c8, f8, c12, c13, rk, rt, rv, h8⟩ := HC.out W hPG.fr
                have c15 := hPG.cn
                have c16 := hPG.ct
                obtain ⟨f15, f16⟩ := hPG.fz
                have hSW := HS5.out.kept (fun q hq => by have h1 := hYb.out q (.inl hq); exact hPG.fr.block q h1.1 (by omega)) hPG.fr.size
                have hka := hSW.keys x.i (by have := x.i0; omega) x.lt
                have hKeep : Hid (KeepY (fun q => X q ∨ q = Bl) w5 W) := Lib.hid ⟨fun q hq => by have h1 := hYb.out q hq; exact hPG.fr.block q h1.1 (by omega), hPG.fr.size⟩
                have HPG := Lib.hid hPG
                have hxl := (List.getElem?_eq_some_iff.1 x.hL).1
                have hXL := Lib.hid x.hL
                have hXV := Lib.hid x.hV
                have Hbt := Lib.hid HW.out.1
                have hNl : N + s0 = L.length ∨ N = 0 := by
                  have h1 := congrArg List.length HW.out.1
                  rw [bodies_len, List.length_drop, ← HN.out] at h1
                  omega
                obtain ⟨K, hK⟩ : ∃ K, K = n + pre.length := ⟨_, rfl⟩
                have hRk := Lib.hid hka.rd
                have hkl := hka.len
                have Hkb : Hid ((nat_ ns x.i).key.body = kb ns x.i) := Lib.hid rfl
                obtain ⟨pn, hpn⟩ : ∃ pn, pn = pre.length := ⟨_, rfl⟩
                rw [← hpn] at hK hpl c16
                rw [← hpn, ← hK] at c15
                obtain ⟨key, hkey⟩ : ∃ key, key = (nat_ ns x.i).key.body := ⟨_, rfl⟩
                obtain ⟨xv, hxv⟩ : ∃ xv, xv = vl ns x.i := ⟨_, rfl⟩
                unfold Sl.v
                rw [← hkey] at hRk hkl Hkb ⊢
                rw [← hxv] at ⊢
                obtain ⟨kA, hkA⟩ : ∃ kA, kA = (nat_ ns x.i).key.A := ⟨_, rfl⟩
                obtain ⟨kn, hkn⟩ : ∃ kn, kn = key.length := ⟨_, rfl⟩
                obtain ⟨kc, hkc⟩ : ∃ kc, kc = (nat_ ns x.i).key.c := ⟨_, rfl⟩
                rw [← hkA, ← hkn, ← hkc]
                rw [← hkA, ← hkn] at hRk
                rw [← hkn] at hkl
                have Hpn := Lib.hid hpn
                have HK := Lib.hid hK
                have Hxv := Lib.hid hxv
                have HNl := Lib.hid hNl
                have hKb : K ≤ 2199023255552 := by have := HLn.out.2; omega
                have hpnb : pn ≤ 2199023255552 := by have := HLn.out.2; omega
                clear hSW hka hPG hpn hK hkey hxv hkA hkn hkc hNl hpg0 hS5 hR5 h8 hq12 hq15 hc12 hc15 b1 b2 m1 m2 hrd5 hE15 l1 l2
                dsimp only
                by_cases hpe : (pn : Int) = page
                · gi_wp2_with (rw [Oper.semAt_eq _ _ _ (fun c h => by cases h)]; go_simp; try go_bits)
                  exact ⟨(KeepsOthers.refl _).from _, .inr ⟨rfl, pre, x, rfl, (by rw [← Hpn.out]; exact hpe), HPG.out⟩⟩
                · by_cases hge : N ≤ K
                  · gi_wp2_with (first | (rw [Oper.semAt_eq _ _ _ (fun c h => by cases h)]; go_simp; try go_bits) | (refine ⟨trivial, ?_⟩))
                    refine ⟨(KeepsOthers.setCell _ _ _).from _, .inl ⟨rfl, pre, x, rfl, fun e => ?_⟩⟩
                    have h1 := Ht.out.1
                    have h2 := HNl.out
                    have h3 := HK.out
                    have h4 := Hpn.out
                    omega
                  · have hlt2 : K < N := by omega
                    have h1516 : (⟨B15, 0, none⟩ : Addr).block ≠ (⟨B16, 0, none⟩ : Addr).block := by show B15 ≠ B16; omega
                    obtain ⟨b, o, s, rfl, hf, hc⟩ := rk.at_ hlt2
                    obtain ⟨b8, o8, rfl, _, hcv⟩ := rv.atZ (j := K) hlt2
                    have CS := Lib.hid (same_any kA s.A kn kc s.body.length s.c key s.body W hRk.out (rt s (List.mem_of_getElem? hf)) (by omega) (by
                      have h1 := bodies_at hf
                      rw [Hbt.out, List.getElem?_drop] at h1
                      have := (hLu.out _ (List.mem_of_getElem? h1)).2
                      omega))
                    have hLk : L[s0 + K]? = some s.body := by
                      have h1 := bodies_at hf
                      rwa [Hbt.out, List.getElem?_drop] at h1
                    have HLk := Lib.hid hLk
                    have HVk : Hid (V[s0 + K]? = some ((V.drop s0).getD K 0)) := Lib.hid (by
                      have h1 : s0 + K < V.length := by rw [HLn.out.1]; exact (List.getElem?_eq_some_iff.1 hLk).1
                      rw [List.getD, List.getElem?_drop, List.getElem?_eq_getElem h1]; rfl)
                    obtain ⟨vv, hvv⟩ : ∃ vv, vv = (V.drop s0).getD K 0 := ⟨_, rfl⟩
                    rw [← hvv] at hcv HVk
                    have Hvv := Lib.hid hvv
                    obtain ⟨sb2, hsb2⟩ : ∃ sb2, sb2 = s.body := ⟨_, rfl⟩
                    rw [← hsb2] at hc CS HLk
                    obtain ⟨sn, hsn⟩ : ∃ sn, sn = sb2.length := ⟨_, rfl⟩
                    rw [← hsn] at hc CS
                    clear hLk hvv hsb2 hsn hf rk rt rv hge
                    by_cases hm : key = sb2
                    · rw [decide_eq_true hm] at CS
                      have Hm := Lib.hid hm
                      clear hm
                      by_cases hv : xv = vv
                      · subst hv
                        gi_wp2_with (first | (refine ⟨trivial, ?_⟩; gi_at_call 43; refine (CallsIn.inRound l (callsIn_wide.2 CS.out)).mono ?_; rintro e W2 ⟨rfl, q2, hW2⟩; have hE2 : Ext W W2 := (by rw [hW2]; exact (Ext.refl W).drewN q2); clear hW2; have hPG2 := HPG.out.ext hE2; obtain ⟨d6, d8, df8, d12, d13, _, _, rv2, _⟩ := HC.out W2 hPG2.fr; have d15 := hPG2.cn; rw [← Hpn.out, ← HK.out] at d15; have d16 := hPG2.ct; rw [← Hpn.out] at d16; obtain ⟨df15, df16⟩ := hPG2.fz; obtain ⟨b9, o9, eb9, _, dv⟩ := rv2.atZ (j := K) hlt2; injection eb9 with eb9; injection eb9 with eb9 eo9; rw [← eb9, ← eo9, ← Hvv.out] at dv; clear rv2 eb9 eo9; have t16 : ∀ v, (W2.setCell ⟨B15, 0, none⟩ v).cell? ⟨B16, 0, none⟩ = some (.int .i64 (pn : Int)) := (fun v => (World.cell?_setCell_far W2 ⟨B15, 0, none⟩ ⟨B16, 0, none⟩ v h1516).trans d16); have tf16 : ∀ v, (W2.setCell ⟨B15, 0, none⟩ v).frozen? ⟨B16, 0, none⟩ = false := (fun v => (World.frozen?_of_block (a := ⟨B16, 0, none⟩) (Below.heap_setCell W2 ⟨B15, 0, none⟩ v B16 (fun e => h1516 e.symm))).trans df16); have HPG2 := Lib.hid hPG2; have HE2 := Lib.hid hE2; clear hPG2 hE2) | (rw [Oper.semAt_eq _ _ _ (fun c h => by cases h)]; go_simp; try go_bits) | (refine ⟨trivial, ?_⟩))
                        have hF := HPG2.out.two (Ext.refl W2) (K + 1) (pn + 1)
                        refine ⟨((keeps_ext HE2.out).trans ((KeepsOthers.setCell _ _ _).trans (KeepsOthers.setCell _ _ _))).from _, ⟨fun q hq => ?_, Nat.le_trans HE2.out.size ((KeepsOthers.setCell _ _ _).trans (KeepsOthers.setCell _ _ _)).size⟩, ?_, ?_⟩
                        · have h1 := hYb.out q hq
                          exact (hF.fr.block q h1.1 (by omega)).trans (hKeep.out.1 q hq).symm
                        · rw [List.length_append, List.length_singleton, show n + (pre.length + 1) = K + 1 by have := HK.out; have := Hpn.out; omega, ← Hpn.out]
                          exact hF
                        · rw [List.length_append, List.length_singleton, ← Hpn.out]
                          omega
                      · have hvb : (xv != vv) = true := by simp [hv]
                        gi_wp2_with (first | (refine ⟨trivial, ?_⟩; gi_at_call 43; refine (CallsIn.inRound l (callsIn_wide.2 CS.out)).mono ?_; rintro e W2 ⟨rfl, q2, hW2⟩; have hE2 : Ext W W2 := (by rw [hW2]; exact (Ext.refl W).drewN q2); clear hW2; have hPG2 := HPG.out.ext hE2; obtain ⟨d6, d8, df8, d12, d13, _, _, rv2, _⟩ := HC.out W2 hPG2.fr; have d15 := hPG2.cn; rw [← Hpn.out, ← HK.out] at d15; have d16 := hPG2.ct; rw [← Hpn.out] at d16; obtain ⟨df15, df16⟩ := hPG2.fz; obtain ⟨b9, o9, eb9, _, dv⟩ := rv2.atZ (j := K) hlt2; injection eb9 with eb9; injection eb9 with eb9 eo9; rw [← eb9, ← eo9, ← Hvv.out] at dv; clear rv2 eb9 eo9; have t16 : ∀ v, (W2.setCell ⟨B15, 0, none⟩ v).cell? ⟨B16, 0, none⟩ = some (.int .i64 (pn : Int)) := (fun v => (World.cell?_setCell_far W2 ⟨B15, 0, none⟩ ⟨B16, 0, none⟩ v h1516).trans d16); have tf16 : ∀ v, (W2.setCell ⟨B15, 0, none⟩ v).frozen? ⟨B16, 0, none⟩ = false := (fun v => (World.frozen?_of_block (a := ⟨B16, 0, none⟩) (Below.heap_setCell W2 ⟨B15, 0, none⟩ v B16 (fun e => h1516 e.symm))).trans df16); have HPG2 := Lib.hid hPG2; have HE2 := Lib.hid hE2; clear hPG2 hE2) | (rw [Oper.semAt_eq _ _ _ (fun c h => by cases h)]; go_simp; try go_bits) | (refine ⟨trivial, ?_⟩))
                        refine ⟨((keeps_ext HE2.out).trans (KeepsOthers.setCell _ _ _)).from _, .inl ⟨rfl, pre, x, rfl, fun e => ?_⟩⟩
                        have h1 := hXV.out
                        rw [e, Ht.out.1, Nat.add_assoc, ← Hpn.out, ← HK.out, HVk.out, ← Hxv.out] at h1
                        injection h1 with h1
                        exact hv h1.symm
                    · rw [decide_eq_false hm] at CS
                      have Hm := Lib.hid hm
                      clear hm
                      gi_wp2_with (first | (refine ⟨trivial, ?_⟩; gi_at_call 43; refine (CallsIn.inRound l (callsIn_wide.2 CS.out)).mono ?_; rintro e W2 ⟨rfl, q2, hW2⟩; have hE2 : Ext W W2 := (by rw [hW2]; exact (Ext.refl W).drewN q2); clear hW2; have hPG2 := HPG.out.ext hE2; obtain ⟨d6, d8, df8, d12, d13, _, _, rv2, _⟩ := HC.out W2 hPG2.fr; have d15 := hPG2.cn; rw [← Hpn.out, ← HK.out] at d15; have d16 := hPG2.ct; rw [← Hpn.out] at d16; obtain ⟨df15, df16⟩ := hPG2.fz; obtain ⟨b9, o9, eb9, _, dv⟩ := rv2.atZ (j := K) hlt2; injection eb9 with eb9; injection eb9 with eb9 eo9; rw [← eb9, ← eo9, ← Hvv.out] at dv; clear rv2 eb9 eo9; have t16 : ∀ v, (W2.setCell ⟨B15, 0, none⟩ v).cell? ⟨B16, 0, none⟩ = some (.int .i64 (pn : Int)) := (fun v => (World.cell?_setCell_far W2 ⟨B15, 0, none⟩ ⟨B16, 0, none⟩ v h1516).trans d16); have tf16 : ∀ v, (W2.setCell ⟨B15, 0, none⟩ v).frozen? ⟨B16, 0, none⟩ = false := (fun v => (World.frozen?_of_block (a := ⟨B16, 0, none⟩) (Below.heap_setCell W2 ⟨B15, 0, none⟩ v B16 (fun e => h1516 e.symm))).trans df16); have HPG2 := Lib.hid hPG2; have HE2 := Lib.hid hE2; clear hPG2 hE2) | (rw [Oper.semAt_eq _ _ _ (fun c h => by cases h)]; go_simp; try go_bits) | (refine ⟨trivial, ?_⟩))
                      refine ⟨((keeps_ext HE2.out).trans (KeepsOthers.setCell _ _ _)).from _, .inl ⟨rfl, pre, x, rfl, fun e => ?_⟩⟩
                      have h1 := hXL.out
                      rw [e, Ht.out.1, Nat.add_assoc, ← Hpn.out, ← HK.out, HLk.out] at h1
                      injection h1 with h1
                      exact Hm.out (by rw [Hkb.out, h1])
              case done =>
                rintro D ys W hD hsp ⟨hPG, hpl⟩ hKd
                have h1 := congrArg List.length HW.out.1
                rw [bodies_len, List.length_drop, ← HN.out] at h1
                have hsk := hsp.2
                rw [Ht.out.1] at hsk
                obtain ⟨k, hk⟩ : ∃ k, k = ys.length := ⟨_, rfl⟩
                rw [← hk] at hPG hpl hsk
                have hk1 : 1 ≤ k := by omega
                have hkN : n + k ≤ N := by omega
                clear h1 hsk hk hsp
                obtain ⟨c6, c8, f8, c12, c13, rk, rt, rv, h8⟩ := HC.out W hPG.fr
                have c15 := hPG.cn
                have c16 := hPG.ct
                obtain ⟨i, hi⟩ : ∃ i, n + k = i + 1 := ⟨n + k - 1, by omega⟩
                rw [hi] at c15
                have hiN : i < N := by omega
                obtain ⟨b, o, s, hA7, hf, hc⟩ := rk.at_ hiN
                have hLi : L[s0 + i]? = some s.body := by
                  have h1 := bodies_at hf
                  rwa [HW.out.1, List.getElem?_drop] at h1
                have hLU := hLu.out _ (List.mem_of_getElem? hLi)
                have CC := Lib.hid (cat_any s.A (some ⟨W.heap.size, 0, none⟩) s.body.length s.c 1 1 s.body [0] (W.alloc (.cells #[.int .u8 0] 5)) ((rt s (List.mem_of_getElem? hf)).ext ((Ext.refl W).alloc _)) (Rd.lit_at .u8 5 W [0] rfl rfl) (by omega))
                have HT := Lib.hid (skN_next HA.out hLi)
                have HLU := Lib.hid hLU
                have hk0 : ¬ (k : Int) = 0 := by omega
                have hi2 : (((i + 1 : Nat) : Int)) - 1 = (i : Int) := by omega
                have hib : i ≤ 1048576 := by have := HLn.out.2; omega
                subst hA7
                obtain ⟨tn, htn⟩ : ∃ tn, tn = s.body.length := ⟨_, rfl⟩
                rw [← htn] at hc CC
                have HPG := Lib.hid hPG
                have Htn := Lib.hid htn
                have Hi := Lib.hid hi
                clear hi hPG rk rt rv h8 hf hLi hLU htn hpg0 hS5 hR5 hq12 hq15 hc12 hc15 b1 b2 m1 m2 hrd5
                go_wp2_with fail
                refine CC.out.mono ?_
                rintro e w9 ⟨A9, c9, rfl, ho9, he9⟩
                go_wp2_with fail
                have hEW : Ext w8 W := HPG.out.fr.toExt (HB.out.1.trans HE5.out) (fun q hq => by have := HB15.out; omega)
                have hE9 : Ext W w9 := ((Ext.refl W).alloc _).trans he9
                have hq9 : w9.heap[B15]? = some (.cells #[.int .i64 ((n + k : Nat) : Int)] 3 (0, 0)) := (hE9.block _ (Array.getElem?_eq_some_iff.1 HPG.out.hn).1).trans HPG.out.hn
                refine ⟨⟨n + k, A9, tn + 1, c9, s.body ++ [0], _, _, _, _, _, _, _, _, _, _, _, _, _, _, _, _, _, D :: ds, rfl, by omega, Lib.hid ⟨by rw [HT.out, Nat.add_assoc, ← Hi.out], ho9.rd' (by rw [List.length_append, List.length_singleton, ← Htn.out]), ?_, by have := HLU.out.2; have := Htn.out; omega⟩, Lib.hid ⟨hEW.trans hE9, hq9⟩, Lib.hid ⟨List.nodup_cons.2 ⟨fun h => ?_, HD.out.1⟩, fun D' hD' => ?_⟩⟩, ?_⟩
                · intro v hv
                  rcases List.mem_append.1 hv with hv | hv
                  · exact HLU.out.1 v hv
                  · rw [List.mem_singleton.1 hv]; decide
                · have h1 := (Array.getElem?_eq_some_iff.1 (HD.out.2 D h).2).1
                  have := HE5.out.size
                  omega
                · rcases List.mem_cons.1 hD' with rfl | h
                  · refine ⟨by have := HB15.out; omega, (hE9.block _ (Array.getElem?_eq_some_iff.1 hKd).1).trans hKd⟩
                  · have h1 := HD.out.2 D' h
                    have h2 := (Array.getElem?_eq_some_iff.1 h1.2).1
                    have h3 := HE5.out.size
                    have h4 := HB15.out
                    have h5 := HB16.out
                    have h6 := h1.1
                    have e1 := HE5.out.block D' h2
                    have e2 := HPG.out.fr.block D' (by omega) (by omega)
                    have e3 := hE9.block D' (by have := HPG.out.fr.size; omega)
                    exact ⟨by rw [h4]; exact h1.1, ((e3.trans e2).trans e1).trans h1.2⟩
                · have h5 := Hi.out
                  have e1 : w9.cell? ⟨B15, 0, none⟩ = some (.int .i64 ((n + k : Nat) : Int)) := cell_of_row w9 B15 0 _ _ (0, 0) hq9
                  have e2 : wq.cell? ⟨B15, 0, none⟩ = some (.int .i64 (n : Int)) := cell_of_row wq B15 0 _ _ (0, 0) (by have := HB.out.2; rwa [← HB15.out] at this)
                  rw [e1, e2]
                  show N - (intOf (Value.int .i64 ((n + k : Nat) : Int))).toNat < N - (intOf (Value.int .i64 (n : Int))).toNat
                  simp [intOf]
                  omega
              case stop =>
                rintro D c pre W hD hsp hx hKd
                rcases hx with ⟨_, q, x, rfl, hne⟩ | ⟨rfl, q, x, rfl, hqp, hPG⟩
                · exact absurd (fromC_at hsp (k := q.length) (by simp)) hne
                · have h1 := congrArg List.length HW.out.1
                  rw [bodies_len, List.length_drop, ← HN.out] at h1
                  have hxp := fromC_at hsp (k := q.length) (x := x) (by simp)
                  have hxl := (List.getElem?_eq_some_iff.1 x.hL).1
                  rw [Ht.out.1] at hxp
                  obtain ⟨k, hk⟩ : ∃ k, k = q.length := ⟨_, rfl⟩
                  rw [← hk] at hPG hqp hxp
                  have hk1 : 1 ≤ k := by omega
                  have hkN : n + k ≤ N := by omega
                  clear h1 hxp hk hsp hxl hqp
                  refine (wpIn_wide (n := 5)).2 ?_
                  obtain ⟨c6, c8, f8, c12, c13, rk, rt, rv, h8⟩ := HC.out W hPG.fr
                  have c15 := hPG.cn
                  have c16 := hPG.ct
                  obtain ⟨i, hi⟩ : ∃ i, n + k = i + 1 := ⟨n + k - 1, by omega⟩
                  rw [hi] at c15
                  have hiN : i < N := by omega
                  obtain ⟨b, o, s, hA7, hf, hc⟩ := rk.at_ hiN
                  have hLi : L[s0 + i]? = some s.body := by
                    have h1 := bodies_at hf
                    rwa [HW.out.1, List.getElem?_drop] at h1
                  have hLU := hLu.out _ (List.mem_of_getElem? hLi)
                  have CC := Lib.hid (cat_any s.A (some ⟨W.heap.size, 0, none⟩) s.body.length s.c 1 1 s.body [0] (W.alloc (.cells #[.int .u8 0] 5)) ((rt s (List.mem_of_getElem? hf)).ext ((Ext.refl W).alloc _)) (Rd.lit_at .u8 5 W [0] rfl rfl) (by omega))
                  have HT := Lib.hid (skN_next HA.out hLi)
                  have HLU := Lib.hid hLU
                  have hk0 : ¬ (k : Int) = 0 := by omega
                  have hi2 : (((i + 1 : Nat) : Int)) - 1 = (i : Int) := by omega
                  have hib : i ≤ 1048576 := by have := HLn.out.2; omega
                  subst hA7
                  obtain ⟨tn, htn⟩ : ∃ tn, tn = s.body.length := ⟨_, rfl⟩
                  rw [← htn] at hc CC
                  have HPG := Lib.hid hPG
                  have Htn := Lib.hid htn
                  have Hi := Lib.hid hi
                  clear hi hPG rk rt rv h8 hf hLi hLU htn hpg0 hS5 hR5 hq12 hq15 hc12 hc15 b1 b2 m1 m2 hrd5
                  go_wp2_with fail
                  refine CC.out.mono ?_
                  rintro e w9 ⟨A9, c9, rfl, ho9, he9⟩
                  go_wp2_with fail
                  have hEW : Ext w8 W := HPG.out.fr.toExt (HB.out.1.trans HE5.out) (fun q hq => by have := HB15.out; omega)
                  have hE9 : Ext W w9 := ((Ext.refl W).alloc _).trans he9
                  have hq9 : w9.heap[B15]? = some (.cells #[.int .i64 ((n + k : Nat) : Int)] 3 (0, 0)) := (hE9.block _ (Array.getElem?_eq_some_iff.1 HPG.out.hn).1).trans HPG.out.hn
                  refine ⟨⟨n + k, A9, tn + 1, c9, s.body ++ [0], _, _, _, _, _, _, _, _, _, _, _, _, _, _, _, _, _, D :: ds, rfl, by omega, Lib.hid ⟨by rw [HT.out, Nat.add_assoc, ← Hi.out], ho9.rd' (by rw [List.length_append, List.length_singleton, ← Htn.out]), ?_, by have := HLU.out.2; have := Htn.out; omega⟩, Lib.hid ⟨hEW.trans hE9, hq9⟩, Lib.hid ⟨List.nodup_cons.2 ⟨fun h => ?_, HD.out.1⟩, fun D' hD' => ?_⟩⟩, ?_⟩
                  · intro v hv
                    rcases List.mem_append.1 hv with hv | hv
                    · exact HLU.out.1 v hv
                    · rw [List.mem_singleton.1 hv]; decide
                  · have h1 := (Array.getElem?_eq_some_iff.1 (HD.out.2 D h).2).1
                    have := HE5.out.size
                    omega
                  · rcases List.mem_cons.1 hD' with rfl | h
                    · refine ⟨by have := HB15.out; omega, (hE9.block _ (Array.getElem?_eq_some_iff.1 hKd).1).trans hKd⟩
                    · have h1 := HD.out.2 D' h
                      have h2 := (Array.getElem?_eq_some_iff.1 h1.2).1
                      have h3 := HE5.out.size
                      have h4 := HB15.out
                      have h5 := HB16.out
                      have h6 := h1.1
                      have e1 := HE5.out.block D' h2
                      have e2 := HPG.out.fr.block D' (by omega) (by omega)
                      have e3 := hE9.block D' (by have := HPG.out.fr.size; omega)
                      exact ⟨by rw [h4]; exact h1.1, ((e3.trans e2).trans e1).trans h1.2⟩
                  · have h5 := Hi.out
                    have e1 : w9.cell? ⟨B15, 0, none⟩ = some (.int .i64 ((n + k : Nat) : Int)) := cell_of_row w9 B15 0 _ _ (0, 0) hq9
                    have e2 : wq.cell? ⟨B15, 0, none⟩ = some (.int .i64 (n : Int)) := cell_of_row wq B15 0 _ _ (0, 0) (by have := HB.out.2; rwa [← HB15.out] at this)
                    rw [e1, e2]
                    show N - (intOf (Value.int .i64 ((n + k : Nat) : Int))).toNat < N - (intOf (Value.int .i64 (n : Int))).toNat
                    simp [intOf]
                    omega
            · obtain rfl : n = N := by omega
              have hEq : Ext wr wq := (HW.out.2.2.2.2.1.trans HW8.out).trans HB.out.1
              have CS1 := Lib.hid (lsseek_any (HL1.out _ hEq) hLb A3 n3 c3 low (R3.out.ext (HEw.out.trans hEq)) U3.out)
              rw [← Hs0.out] at CS1
              have HEq := Lib.hid hEq
              have hnL : n = L.length - s0 := by
                have h1 := congrArg List.length HW.out.1
                rwa [bodies_len, List.length_drop, ← HN.out] at h1
              have Hq12 := Lib.hid hq12
              clear hEq hq12 hq15 hlt
              go_wp2_with fail
              refine CS1.out.mono ?_
              rintro e w11 ⟨hs, he11⟩
              have d12 := cell_of_row w11 B12 0 _ _ (0, 0) ((he11.block B12 (Array.getElem?_eq_some_iff.1 Hq12.out).1).trans Hq12.out)
              have d8 := (HQ.out _ ((HE0T.out.trans HEq.out).trans he11)).2
              have c8 := cell_of_row w11 B8 0 _ _ (0, 0) d8
              have f8 : w11.frozen? ⟨B8, 0, none⟩ = false := by simp [World.frozen?, d8]
              have HE11 := Lib.hid he11
              rcases hs with ⟨h1, rfl⟩ | ⟨x, A', c', h1, rfl, h3⟩
              · have hn0 : n = 0 := by omega
                subst hn0
                clear d8 he11 CS1 hnL hc12 hc15
                go_wp2_with fail
                exact pages_end rfl (HPE.out _ ((HE0T.out.trans HEq.out).trans HE11.out)).2 (HPE.out _ ((HE0T.out.trans HEq.out).trans HE11.out)).1 HD.out.1 (fun D hD => by
                  have h1 := HD.out.2 D hD
                  have h2 := HE0T.out.size
                  have h3 := HE0.out.size
                  have h4 := HW.out.2.2.2.2.1.size
                  have h5 := HW8.out.size
                  have h6 := (HE11.out.block D (Array.getElem?_eq_some_iff.1 h1.2).1).trans h1.2
                  refine ⟨by omega, (Below.heap_setCell _ _ _ D (fun e => ?_)).trans h6⟩
                  have h7 := (HQ.out _ ((HE0T.out.trans HEq.out).trans HE11.out)).2
                  rw [show B8 = D from e.symm, h6] at h7
                  injection h7 with h7
                  cases h7)
              · have hn0 : ¬ (n : Int) = 0 := by have := (List.getElem?_eq_some_iff.1 h1).1; omega
                have H3 := Lib.hid h3
                have CS2 := Lib.hid (lsseek_any ((HL1.out _ HEq.out).ext he11) hLb At mt ct t (Ht.out.2.1.ext he11) Ht.out.2.2.1)
                have H1 := Lib.hid h1
                have hsl := (List.getElem?_eq_some_iff.1 h1).1
                obtain ⟨xn, hxn⟩ : ∃ xn, xn = x.length := ⟨_, rfl⟩
                rw [← hxn]
                obtain ⟨xv, hxv⟩ : ∃ xv, xv = V.getD s0 0 := ⟨_, rfl⟩
                rw [← hxv]
                have Hxn := Lib.hid hxn
                have Hxv := Lib.hid hxv
                clear d8 he11 CS1 h3 h1 hc12 hc15 hxn hxv
                go_wp2_with fail
                refine CS2.out.mono ?_
                rintro e w12 ⟨hs2, he12⟩
                obtain rfl : e = .returned (.tuple #[.slice none 0 0, .int .i64 0, .bool false]) := by
                  rcases hs2 with ⟨_, h⟩ | ⟨x2, _, _, h, _⟩
                  · exact h
                  · have := (List.getElem?_eq_some_iff.1 h).1
                    rw [Ht.out.1] at this
                    omega
                have h1 := H1.out
                have hE8 : Ext W8 w12 := ((HW8.out.trans HB.out.1).trans HE11.out).trans he12
                have rk := (OwnG.rdL HW.out.2.1).ext hE8
                rw [← HN.out] at rk
                obtain ⟨b, o, s, hA7, hf, hc⟩ := rk.at_ (show 0 < n by omega)
                rw [Nat.add_zero] at hc
                have hxs : x = s.body := by
                  have h2 := bodies_at hf
                  rw [HW.out.1, List.getElem?_drop, Nat.add_zero, h1] at h2
                  injection h2
                obtain ⟨b8, o8, hAv, _, hcv⟩ := ((HW.out.2.2.2.1.rd' Hvl.out).ext hE8).atZ (j := 0) (show 0 < n by omega)
                rw [Nat.add_zero, show (V.drop s0).getD 0 0 = xv from by rw [Hxv.out, List.getD, List.getD, List.getElem?_drop, Nat.add_zero]] at hcv
                have CS3 := Lib.hid (same_yes (c := c') (c' := s.c) ((H3.out.ext he12).rd' Hxn.out.symm) (show Rd .u8 w12 s.A xn x from by have := ((HW.out.2.2.1.own s (List.mem_of_getElem? hf)).rd).ext hE8; rw [← hxs] at this; rw [Hxn.out]; exact this) (by have := (hLu.out x (List.mem_of_getElem? h1)).2; rw [Hxn.out]; omega))
                rw [← hxs, ← Hxn.out] at hc
                have k8 := (HQ.out _ (((HE0T.out.trans HEq.out).trans HE11.out).trans he12)).2
                have d12 := cell_of_row w12 B12 0 _ _ (0, 0) ((hE8.block B12 (by have := HW.out.2.2.2.2.2.1; omega)).trans HW.out.2.2.2.2.2.2.1)
                have d13 := cell_of_row w12 (B12 + 1) 0 _ _ (0, 0) ((hE8.block (B12 + 1) (by have := HW.out.2.2.2.2.2.1; omega)).trans HW.out.2.2.2.2.2.2.2)
                have HE12 := Lib.hid (show Ext W0 w12 from ((HE0T.out.trans HEq.out).trans HE11.out).trans he12)
                have HE812 := Lib.hid hE8
                subst hA7 hAv
                clear hs2 CS2 c8 f8 k8 hf hxs rk hE8 h1
                go_wp2_with fail
                refine CS3.out.mono ?_
                rintro e w13 ⟨rfl, q13, hw13⟩
                have hE13 : Ext w12 w13 := by rw [hw13]; exact (Ext.refl w12).drewN q13
                clear hw13
                have HE13 := Lib.hid (HE12.out.trans hE13)
                have k8 := (HQ.out _ HE13.out).2
                have k8c := cell_of_row w13 B8 0 _ _ (0, 0) k8
                have k8f : w13.frozen? ⟨B8, 0, none⟩ = false := by simp [World.frozen?, k8]
                have d13' := (Below.cell hE13 (p := ⟨B12 + 1, 0, none⟩) (World.block_lt_of_cell? _ _ d13)).trans d13
                have hcv' := (Below.cell hE13 (p := ⟨b8, o8, none⟩) (World.block_lt_of_cell? _ _ hcv)).trans hcv
                have HE813 := Lib.hid ((he12.trans hE13))
                clear k8 hE13 d12 d13 hcv CS3
                go_wp2_with fail
                exact pages_end rfl (HPE.out _ HE13.out).2 (HPE.out _ HE13.out).1 HD.out.1 (fun D hD => by
                  have h1 := HD.out.2 D hD
                  have h2 := HE0T.out.size
                  have h3 := HE0.out.size
                  have h4 := HW.out.2.2.2.2.1.size
                  have h5 := HW8.out.size
                  have h9 := (HE11.out.block D (Array.getElem?_eq_some_iff.1 h1.2).1).trans h1.2
                  have h6 := (HE813.out.block D (Array.getElem?_eq_some_iff.1 h9).1).trans h9
                  refine ⟨by omega, (Below.heap_setCell _ _ _ D (fun e => ?_)).trans h6⟩
                  have h7 := (HQ.out _ HE13.out).2
                  rw [show B8 = D from e.symm, h6] at h7
                  injection h7 with h7
                  cases h7)

end Go.Proofs.Ytkmnhapeohlooaa

/-
  Lists of texts beside the document's: what the laws share.
-/
namespace Go.Proofs.Ytkmnhapeohlooaa
open Go.RowKit

theorem apart3V {w2 w3 w4 w5 : World} {A3 A4 A5 : Option Addr} {c3 c4 c5 n : Nat} {xs : List Nat} (h3 : Own .u8 5 w3 w2.heap.size A3 c3 xs) (e3 : Ext w2 w3) (h4 : Own .u8 5 w4 w3.heap.size A4 c4 xs) (e4 : Ext w3 w4)
    (h5 : Own .u8 5 w5 w4.heap.size A5 c5 xs) (e5 : Ext w4 w5) (hl : xs.length = n) (hu : U8 xs) (hn : n + 70 ≤ 180000000000000) :
    Calls Try.prog 71 #[.slice A3 n c3, .slice A4 n c4, .slice A5 n c5] w5 fun e w' => e = .returned (.bool true) ∧ Ext w2 w' := by
  refine apart_any A3 A4 A5 n c3 c4 c5 w2.heap.size xs w2 w5 ((h3.ext e4).ext e5) hl hu ((h4.ext e5).rd' hl) (h5.rd' hl) ?_ ?_ ((e3.trans e4).trans e5) (Nat.le_refl _) ((e3.trans e4).trans e5).size hn
  · intro a a2 ha ha2
    have := (h3.block a ha).2
    have := (h4.block a2 ha2).1
    omega
  · intro a a3 ha ha3
    have := (h3.block a ha).2
    have := (h5.block a3 ha3).1
    have := e4.size
    omega

variable {w w' w0 : World} {base c n : Nat} {A : Option Addr} {ts ss : List Sl}

/-- Texts of the call's own may be handed in. -/
theorem TxL.of_own (h : OwnT w base A c ts) (ht : Txts w base ts) (hn : ts.length = n) (hu : ∀ t ∈ ts, U8 t.body ∧ t.body.length ≤ 140737488355328) : TxL w A n ts := by
  subst hn
  exact ⟨h.rdL, fun t hm => ⟨ht.rd t hm, (hu t hm).1, (ht.own t hm).cap.1, (ht.own t hm).cap.2, (hu t hm).2⟩⟩
theorem TxL.same (h : TxL w A n ss) : ∀ s ∈ ss, Rd .u8 w s.A s.body.length s.body ∧ s.body.length ≤ 140737488355328 := fun s hs => ⟨(h.each s hs).rd, (h.each s hs).len⟩
theorem TxL.rds (h : TxL w A n ss) : ∀ s ∈ ss, Rd .u8 w s.A s.body.length s.body := fun s hs => (h.each s hs).rd
theorem bodies_all {P : List Nat → Prop} {ss ts : List Sl} (hb : bodies ts = bodies ss) (h : ∀ s ∈ ss, P s.body) : ∀ t ∈ ts, P t.body := by
  intro t ht
  have h1 : t.body ∈ bodies ss := by rw [← hb]; exact List.mem_map.2 ⟨t, ht, rfl⟩
  obtain ⟨s, hs, e⟩ := List.mem_map.1 h1
  rw [← e]
  exact h s hs
theorem TxL.all (h : TxL w A n ss) : ∀ s ∈ ss, U8 s.body ∧ s.body.length ≤ 140737488355328 := fun s hs => ⟨(h.each s hs).u8, (h.each s hs).len⟩
theorem bodies_mem {P : List Nat → Prop} {xss : List (List Nat)} (hb : bodies ts = xss) (h : ∀ x ∈ xss, P x) : ∀ t ∈ ts, P t.body := fun t ht => h _ (by rw [← hb]; exact List.mem_map.2 ⟨t, ht, rfl⟩)

theorem bodies_mem_of (h : TxL w A n ss) : ∀ x ∈ bodies ss, U8 x := by
  intro x hx
  obtain ⟨s, hs, rfl⟩ := List.mem_map.1 hx
  exact (h.each s hs).u8

/-- Where only rows above w0 have turned, w0 is there as it was. -/
theorem Kept.ext0 (h : Kept w w' ss) (he : Ext w0 w) (hs : ∀ s ∈ ss, ∀ p, s.A = some p → w0.heap.size ≤ p.block) : Ext w0 w' :=
  ⟨h.os.trans he.os, h.tape.trans he.tape, h.output.trans he.output, Nat.le_trans he.size h.size, fun i hi => (h.block i (Nat.lt_of_lt_of_le hi he.size) (fun s hm p hp e => by have := hs s hm p hp; omega)).trans (he.block i hi)⟩
theorem Txts.above (h : Txts w base ts) : ∀ t ∈ ts, ∀ p, t.A = some p → base ≤ p.block := fun t ht p hp => ((h.own t ht).block p hp).1
/-- What lies below a call's own texts lies apart from them. -/
theorem far_below {B : Option Addr} (h : ∀ t ∈ ts, ∀ p, t.A = some p → base ≤ p.block) (hB : ∀ q, B = some q → q.block < base) : Far ts B := by
  intro t ht p q hp hq e
  have := h t ht p hp
  have := hB q hq
  omega
theorem far_above {B : Option Addr} (h : ∀ t ∈ ts, ∀ p, t.A = some p → p.block < base) (hB : ∀ q, B = some q → base ≤ q.block) : Far ts B := by
  intro t ht p q hp hq e
  have := h t ht p hp
  have := hB q hq
  omega

/-- Two lists of texts, each the call's own, the second laid behind the first: as wanted, and apart from one another. -/
theorem apartAll2 {w1 w2 w3 : World} {A A' : Option Addr} {c c' n : Nat} {ss ts : List Sl} (h1 : OwnT w2 w1.heap.size A c ss) (k1 : Txts w2 w1.heap.size ss) (_e1 : Ext w1 w2) (h2 : OwnT w3 w2.heap.size A' c' ts) (k2 : Txts w3 w2.heap.size ts) (e2 : Ext w2 w3)
    {w4 : World} (e4 : Ext w3 w4)
    (hb : bodies ss = bodies ts) (hn : ss.length = n) (hn2 : n ≤ 1048576) (hu : ∀ s ∈ ss, U8 s.body ∧ s.body.length ≤ 1048576) :
    Calls Try.prog 73 #[.slice A n c, .slice A' n c'] w4 fun e w' => e = .returned (.bool true) ∧ Kept w4 w' ss := by
  have hl : ts.length = n := by rw [← hn, ← bodies_len, ← bodies_len, hb]
  have r1 := h1.rdL
  have r2 := h2.rdL
  rw [hn] at r1
  rw [hl] at r2
  refine apartAll_any A A' n c c' ss ts w4 ((r1.ext e2).ext e4) (r2.ext e4) hb hn2 (fun s hs => ((k1.ext e2).ext e4).own0 s hs) (fun s hs => (hu s hs).1) (fun s hs => (hu s hs).2) (fun t ht => (k2.ext e4).rd t ht) k1.unlike ?_ ?_ ?_
  · intro _
    exact k1.far h1
  · intro _
    exact far_above (base := w2.heap.size) (fun t ht p hp => k1.lt t ht p hp) (fun q hq => (h2.block q hq).1)
  · intro t ht _
    exact far_above (base := w2.heap.size) (fun t ht p hp => k1.lt t ht p hp) (fun q hq => ((k2.own t ht).block q hq).1)

end Go.Proofs.Ytkmnhapeohlooaa

/-
  Slicing of bytes, whatever the capacity: the pieces' addresses stay behind a name.
-/
namespace Go.Proofs.Ytkmnhapeohlooaa
open Go.RowKit

theorem Try.elemU8 : Try.prog.elem 52 = 5 := by kernel_rfl
theorem run_sizeU8 (w : World) : (sizeOf (Try.prog.elem 52)).run Try.prog w = .ok 1 w := by
  obtain ⟨i, hi0, hz, hsz, hbs⟩ := info_parts Try.infoU8
  rw [Try.elemU8]
  simp [sizeOf, typeInfo, hi0, hsz]
theorem Try.underSl : Try.prog.underlying 52 = some (.slice (Try.prog.elem 52)) := by kernel_rfl

/-- The address of what is left behind k bytes of capacity m. -/
def offA (A : Option Addr) (k m : Nat) : Option Addr := if m = k then A else A.map (·.add k)

theorem Rd.offA {w : World} {A : Option Addr} {n k m : Nat} {bs : List Nat} (h : Rd .u8 w A n bs) (hk : k ≤ n) (hm : n ≤ m) : Rd .u8 w (offA A k m) (n - k) (bs.drop k) := by
  refine ⟨by rw [List.length_drop, h.1], fun hn => ?_⟩
  obtain ⟨b, o, rfl, hb, hc⟩ := h.2 (by omega)
  refine ⟨b, o + k, by unfold Go.Proofs.Ytkmnhapeohlooaa.offA; rw [if_neg (by omega)]; simp [Addr.add], hb, fun j hj => ?_⟩
  have := hc (k + j) (by omega)
  rw [Nat.add_assoc, this]
  simp [List.getD, List.getElem?_drop]

/-- b[k:] -/
theorem run_from (A : Option Addr) (n c k : Nat) (hk : k ≤ n) : ∀ W : World, (Instr.slice 52 (.slice A n c) (some (.int .i64 (k : Int))) none none).run Try.prog W = .ok (.slice (offA A k c) (n - k : Nat) (c - k : Nat)) W := by
  intro W
  rw [run_slice_l W _ A n c Try.underSl .i64 k (by omega) (by omega), run_sizeU8]
  simp only [Result.andThen, sliced, Int.toNat_natCast, Nat.mul_one]
  rfl
/-- b[:k] -/
theorem run_upto (kh : IntKind) (A : Option Addr) (n c k : Nat) (hk : k ≤ c) : ∀ W : World, (Instr.slice 52 (.slice A n c) none (some (.int kh (k : Int))) none).run Try.prog W = .ok (.slice A k c) W := by
  intro W
  rw [run_slice_h W _ A n c Try.underSl kh k (by omega) (by omega), run_sizeU8]
  simp only [Result.andThen, sliced, Int.toNat_natCast, Nat.mul_one, Nat.sub_zero]
  congr 1
  split
  · rfl
  · cases A with
    | none => rfl
    | some a => simp [Addr.add]
/-- b[l:h] -/
theorem run_cut (A : Option Addr) (n c l h : Nat) (hl : l ≤ h) (hh : h ≤ c) : ∀ W : World, (Instr.slice 52 (.slice A n c) (some (.int .i64 (l : Int))) (some (.int .i64 (h : Int))) none).run Try.prog W = .ok (.slice (offA A l c) (h - l : Nat) (c - l : Nat)) W := by
  intro W
  rw [run_slice_lh W _ A n c Try.underSl .i64 .i64 l h (by omega) (by omega) (by omega), run_sizeU8]
  simp only [Result.andThen, sliced, Int.toNat_natCast, Nat.mul_one]
  rfl
theorem Rd.upto {w : World} {A : Option Addr} {n k : Nat} {bs : List Nat} (h : Rd .u8 w A n bs) (hk : k ≤ n) : Rd .u8 w A k (bs.take k) := by
  refine ⟨by rw [List.length_take, h.1]; omega, fun hn => ?_⟩
  obtain ⟨b, o, e, hb, hc⟩ := h.2 (by omega)
  refine ⟨b, o, e, hb, fun j hj => ?_⟩
  rw [hc j (by omega)]
  simp [List.getD, hj]
theorem Rd.cut {w : World} {A : Option Addr} {n l h c : Nat} {bs : List Nat} (hr : Rd .u8 w A n bs) (hl : l ≤ h) (hh : h ≤ n) (hc : n ≤ c) : Rd .u8 w (Go.Proofs.Ytkmnhapeohlooaa.offA A l c) (h - l) ((bs.drop l).take (h - l)) :=
  (hr.offA (k := l) (m := c) (by omega) hc).upto (by omega)

end Go.Proofs.Ytkmnhapeohlooaa
