/-
  Layer 9: the document's Decode, whole.
-/
import Derived.Test.YtoefhblojoaikaaP9h
namespace Go.Proofs.Ytoefhblojoaikaa
open Go.RowKit

theorem piece_all {bs : List Nat} {n : Nat} (h : bs.length = n) (q : Nat) : piece bs ((q : Int) + 1) n = bs.drop (q + 1) := by
  unfold piece
  rw [Int.toNat_natCast, List.take_of_length_le (by omega), show ((q : Int) + 1).toNat = q + 1 from by omega]

set_option maxHeartbeats 6400000 in
theorem refPdecode_any (A : Option Addr) (nb cb : Nat) (bs : List Nat) (w : World) (hx : Rd .u8 w A nb bs) (hu : U8 bs) (hnb : nb ≤ 140737488355328) :
    Calls Try.prog 35 #[.slice A nb cb] w (Dec9Post (decode9 bs) w) := by
  have Hl := Lib.hid hx.len
  obtain ⟨R, hR⟩ : ∃ R, R = decode9 bs := ⟨_, rfl⟩
  rw [← hR]
  unfold decode9 at hR
  have G1 : Hid (∀ W at_, Ext w W → Calls Try.prog 49 #[.slice A nb cb, .int .i64 at_] W (GetPost bs at_ W)) := Lib.hid fun W at_ hW => refGet_any A nb cb at_ bs W (hx.ext hW) hu hnb
  rcases hg : vget bs 0 with ⟨M, a, e1⟩
  rw [hg] at hR
  simp only at hR
  have Hg := Lib.hid hg
  by_cases h1 : e1 = 0
  · subst h1
    rw [if_neg (by simp)] at hR
    by_cases h2 : 4096 < M
    · have HE := Lib.hid (show R = ([], 4) by rw [hR, if_pos h2])
      have hb1 : (4096 : Int) < (M : Int) := by omega
      clear hR hg hu
      go_enter Try.func35, Try.ntmps35
      go_wp2_with fail
      refine (G1.out _ 0 (Ext.refl w)).mono ?_
      rintro e w1 ⟨rfl, rfl⟩
      rw [Hg.out]
      simp only
      go_wp2_with fail
      go_ret2
      exact ⟨none, 0, by rw [HE.out]; rfl, by rw [HE.out]; exact OwnG.nil _ _ _ _, Ext.refl w⟩
    · rw [if_neg h2] at hR
      have hb1 : decide ((4096 : Int) < (M : Int)) = false := decide_eq_false (by omega)
      by_cases h3 : M = 0
      · subst h3
        rw [if_pos rfl] at hR
        by_cases h4 : a < (nb : Int)
        · have HE := Lib.hid (show R = ([], 3) by rw [hR, if_pos (by rw [Hl.out]; exact h4)])
          clear hR hg hu
          go_enter Try.func35, Try.ntmps35
          go_wp2_with fail
          refine (G1.out _ 0 (Ext.refl w)).mono ?_
          rintro e w1 ⟨rfl, rfl⟩
          rw [Hg.out]
          simp only
          go_wp2_with fail
          go_ret2
          exact ⟨none, 0, by rw [HE.out]; rfl, by rw [HE.out]; exact OwnG.nil _ _ _ _, Ext.refl w⟩
        · have HE := Lib.hid (show R = ([], 0) by rw [hR, if_neg (by rw [Hl.out]; exact h4)])
          have hb2 : decide (a < (nb : Int)) = false := decide_eq_false h4
          clear hR hg hu h4
          go_enter Try.func35, Try.ntmps35
          go_wp2_with fail
          refine (G1.out _ 0 (Ext.refl w)).mono ?_
          rintro e w1 ⟨rfl, rfl⟩
          rw [Hg.out]
          simp only
          go_wp2_with fail
          go_ret2
          exact ⟨none, 0, by rw [HE.out]; rfl, by rw [HE.out]; exact OwnG.nil _ _ _ _, Ext.refl w⟩
      · rw [if_neg h3] at hR
        unfold decSome at hR
        have hM0 : ((M : Int) == 0) = false := by rw [beq_eq_false_iff_ne]; omega
        have hwm : IntKind.i64.wrap (M : Int) = (M : Int) := IntWalk.i64_in _ (by omega)
        have hM1 : 1 ≤ M := by omega
        have hM4 : M ≤ 4096 := by omega
        rcases hg2 : vget bs a with ⟨u, a2, e2⟩
        rw [hg2] at hR
        simp only at hR
        have Hg2 := Lib.hid hg2
        by_cases h4 : e2 = 0
        · subst h4
          rw [if_neg (by simp)] at hR
          obtain ⟨p1, p2, p3, p4, _⟩ := vget_at hu hg2
          obtain ⟨q, rfl⟩ : ∃ q : Nat, a2 = (q : Int) := ⟨a2.toNat, by omega⟩
          rw [Int.toNat_natCast] at hR
          unfold decTail at hR
          have hlr := unf_range p4
          have hU : Hid (∀ W, Calls Try.prog 50 #[.int .u64 (u : Int)] W fun e w' => e = .returned (.int .i64 (unfS u)) ∧ W = w') := Lib.hid fun W => refUnfold_any (u : Int) W (by omega) (by omega)
          obtain ⟨l, hle⟩ : ∃ l, l = unfS u := ⟨_, rfl⟩
          rw [← hle] at hR hlr hU
          by_cases h5 : q = nb
          · have HE := Lib.hid (show R = ([], 2) by rw [hR, if_pos (by rw [Hl.out]; exact h5)])
            subst h5
            clear hR hg hg2 hu p1 p2 p3 p4 hle h3 h2
            go_enter Try.func35, Try.ntmps35
            go_wp2_with fail
            refine (G1.out _ 0 (Ext.refl w)).mono ?_
            rintro e w1 ⟨rfl, rfl⟩
            rw [Hg.out]
            simp only
            go_wp2_with fail
            refine (G1.out _ a (Ext.refl w)).mono ?_
            rintro e w1 ⟨rfl, rfl⟩
            rw [Hg2.out]
            simp only
            go_wp2_with fail
            go_ret2
            exact ⟨none, 0, by rw [HE.out]; rfl, by rw [HE.out]; exact OwnG.nil _ _ _ _, Ext.refl w⟩
          · rw [if_neg (by rw [Hl.out]; exact h5)] at hR
            have hqlt : q < nb := by have := Hl.out; omega
            have hq1 : decide ((nb : Int) ≤ (q : Int)) = false := decide_eq_false (by omega)
            have hq2 : decide (nb ≤ q) = false := decide_eq_false (by omega)
            obtain ⟨b, o, rfl, hbl, hc⟩ := hx.at_ hqlt
            obtain ⟨d, hde⟩ : ∃ d, d = bs.getD q 0 := ⟨_, rfl⟩
            have hd256 : d < 256 := by rw [hde]; exact hu.at_ q
            rw [← hde] at hR hc
            have hwd : IntKind.i64.wrap (d : Int) = (d : Int) := IntWalk.i64_in _ (by omega)
            have hPi : Hid (Calls Try.prog 60 #[.slice (some ⟨b, o, none⟩) nb cb, .int .i64 ((q : Int) + 1), .int .i64 (nb : Int)] w fun e w' => ∃ A' c', e = .returned (.slice A' (nb - (q + 1) : Nat) c') ∧ Own .u8 5 w' w.heap.size A' c' (bs.drop (q + 1)) ∧ Ext w w') := Lib.hid (by
              have := piece_any (some ⟨b, o, none⟩) nb cb ((q : Int) + 1) nb bs w hx hnb (by omega)
              rw [piece_all Hl.out q, List.length_drop, Hl.out] at this
              exact this)
            have hUn : Hid (∀ (B : Option Addr) (cB : Nat) W, Rd .u8 W B (nb - (q + 1)) (bs.drop (q + 1)) → Calls Try.prog 59 #[.slice B (nb - (q + 1) : Nat) cB, .int .i64 (d : Int), .int .i64 (M : Int)] W fun e w' => ∃ A' c', e = .returned (.tuple #[.slice A' (secL bs q M).length c', .int .i64 (secE bs q M)]) ∧ Own .u64 58 w' W.heap.size A' c' (secL bs q M) ∧ Ext W w') := Lib.hid fun B cB W hB => by
              have := refUnpack_any B (nb - (q + 1)) cB (d : Int) (M : Int) (bs.drop (q + 1)) W hB (fun v hv => hu v (List.mem_of_mem_drop hv)) (by omega)
              unfold UnpPost at this
              rw [hde, ← Hl.out] at this
              rw [hde, ← Hl.out]
              exact this
            have Hdl := Lib.hid (show (bs.drop (q + 1)).length = nb - (q + 1) by rw [List.length_drop, Hl.out])
            by_cases h6 : 64 < d
            · have HE := Lib.hid (show R = ([], 5) by rw [hR, if_pos h6])
              have hd3 : (64 : Int) < (d : Int) := by omega
              clear hR hg hg2 hu p1 p2 p3 p4 hle h3 h2 hde
              go_enter Try.func35, Try.ntmps35
              go_wp2_with fail
              refine (G1.out _ 0 (Ext.refl w)).mono ?_
              rintro e w1 ⟨rfl, rfl⟩
              rw [Hg.out]
              simp only
              go_wp2_with fail
              refine (G1.out _ a (Ext.refl w)).mono ?_
              rintro e w1 ⟨rfl, rfl⟩
              rw [Hg2.out]
              simp only
              go_wp2_with fail
              go_ret2
              exact ⟨none, 0, by rw [HE.out]; rfl, by rw [HE.out]; exact OwnG.nil _ _ _ _, Ext.refl w⟩
            · rw [if_neg h6] at hR
              have hd3 : decide ((64 : Int) < (d : Int)) = false := decide_eq_false (by omega)
              have hfu := secL_u64 bs q M (by rw [← hde]; omega)
              have hfl := secL_len (bs := bs) (a := q) (n := M)
              obtain ⟨E, hE⟩ : ∃ E, E = secE bs q M := ⟨_, rfl⟩
              obtain ⟨F, hF⟩ : ∃ F, F = secL bs q M := ⟨_, rfl⟩
              rw [← hE, ← hF] at hUn hR hfl
              rw [← hF] at hfu
              by_cases h7 : E = 0
              · subst h7
                rw [if_neg (by simp)] at hR
                have hFl := hfl rfl
                have HFl := Lib.hid hFl
                rw [hFl] at hUn
                rw [only_above (by omega)] at hR
                have hWd : Hid (∀ (B : Option Addr) (cB : Nat) W, Rd .u64 W B M F → Calls Try.prog 56 #[.slice B M cB] W fun e w' => e = .returned (.int .i64 (wdt F : Nat)) ∧ W = w') := Lib.hid fun B cB W h => refWidth_any B M cB F W h hfu (by omega)
                have hAb : Hid (∀ (B : Option Addr) (cB : Nat) W, Rd .u64 W B M F → Calls Try.prog 61 #[.int .i64 l, .slice B M cB] W (Dec9Post (aboveF l F) W)) := Lib.hid fun B cB W h => above_any l B M cB F W hlr h hfu hM4
                obtain ⟨wF, hwF⟩ : ∃ x, x = wdt F := ⟨_, rfl⟩
                rw [← hwF] at hWd hR
                by_cases h8 : (wF : Int) = (d : Int)
                · have HE := Lib.hid (show R = aboveF l F by rw [hR, if_pos h8])
                  have hb8 : ((wF : Int) != (d : Int)) = false := by simpa using h8
                  clear hR hg hg2 hu p1 p2 p3 p4 hle h3 h2 hde hE hF hFl hfl hfu hwF hlr h8
                  go_enter Try.func35, Try.ntmps35
                  go_wp2_with fail
                  refine (G1.out _ 0 (Ext.refl w)).mono ?_
                  rintro e w1 ⟨rfl, rfl⟩
                  rw [Hg.out]
                  simp only
                  go_wp2_with fail
                  refine (G1.out _ a (Ext.refl w)).mono ?_
                  rintro e w1 ⟨rfl, rfl⟩
                  rw [Hg2.out]
                  simp only
                  go_wp2_with fail
                  refine hPi.out.mono ?_
                  rintro e w1 ⟨A1, c1, rfl, hown1, he1⟩
                  have hr1 := hown1.rd' Hdl.out
                  clear hown1
                  go_wp2_with fail
                  refine (hUn.out _ _ _ hr1).mono ?_
                  rintro e w2 ⟨A2, c2, rfl, hown2, he2⟩
                  have hr2 := hown2.rd' HFl.out
                  clear hown2
                  go_wp2_with fail
                  refine (hWd.out _ _ _ hr2).mono ?_
                  rintro e w3 ⟨rfl, rfl⟩
                  go_wp2_with fail
                  refine (hU.out _).mono ?_
                  rintro e w3 ⟨rfl, rfl⟩
                  go_wp2_with fail
                  refine (hAb.out _ _ _ hr2).mono ?_
                  rintro e w3 ⟨A3, c3, rfl, hown3, he3⟩
                  go_wp2_with fail
                  go_ret2
                  exact ⟨A3, c3, by rw [HE.out]; rfl, by rw [HE.out]; exact hown3.mono (he1.trans he2).size, (he1.trans he2).trans he3⟩
                · have HE := Lib.hid (show R = ([], 5) by rw [hR, if_neg h8])
                  have hb8 : ((wF : Int) != (d : Int)) = true := by simpa using h8
                  clear hR hg hg2 hu p1 p2 p3 p4 hle h3 h2 hde hE hF hFl hfl hfu hwF hlr h8
                  go_enter Try.func35, Try.ntmps35
                  go_wp2_with fail
                  refine (G1.out _ 0 (Ext.refl w)).mono ?_
                  rintro e w1 ⟨rfl, rfl⟩
                  rw [Hg.out]
                  simp only
                  go_wp2_with fail
                  refine (G1.out _ a (Ext.refl w)).mono ?_
                  rintro e w1 ⟨rfl, rfl⟩
                  rw [Hg2.out]
                  simp only
                  go_wp2_with fail
                  refine hPi.out.mono ?_
                  rintro e w1 ⟨A1, c1, rfl, hown1, he1⟩
                  have hr1 := hown1.rd' Hdl.out
                  clear hown1
                  go_wp2_with fail
                  refine (hUn.out _ _ _ hr1).mono ?_
                  rintro e w2 ⟨A2, c2, rfl, hown2, he2⟩
                  have hr2 := hown2.rd' HFl.out
                  clear hown2
                  go_wp2_with fail
                  refine (hWd.out _ _ _ hr2).mono ?_
                  rintro e w3 ⟨rfl, rfl⟩
                  go_wp2_with fail
                  go_ret2
                  exact ⟨none, 0, by rw [HE.out]; rfl, by rw [HE.out]; exact OwnG.nil _ _ _ _, he1.trans he2⟩
              · have HE := Lib.hid (show R = ([], E) by rw [hR, if_pos h7])
                have hb7 : (E != 0) = true := by simpa using h7
                clear hR hg hg2 hu p1 p2 p3 p4 hle h3 h2 hde hE hF hfl hfu hlr h7
                go_enter Try.func35, Try.ntmps35
                go_wp2_with fail
                refine (G1.out _ 0 (Ext.refl w)).mono ?_
                rintro e w1 ⟨rfl, rfl⟩
                rw [Hg.out]
                simp only
                go_wp2_with fail
                refine (G1.out _ a (Ext.refl w)).mono ?_
                rintro e w1 ⟨rfl, rfl⟩
                rw [Hg2.out]
                simp only
                go_wp2_with fail
                refine hPi.out.mono ?_
                rintro e w1 ⟨A1, c1, rfl, hown1, he1⟩
                have hr1 := hown1.rd' Hdl.out
                clear hown1
                go_wp2_with fail
                refine (hUn.out _ _ _ hr1).mono ?_
                rintro e w2 ⟨A2, c2, rfl, hown2, he2⟩
                go_wp2_with fail
                go_ret2
                exact ⟨none, 0, by rw [HE.out]; rfl, by rw [HE.out]; exact OwnG.nil _ _ _ _, he1.trans he2⟩
        · have hb0 : (e2 != 0) = true := by simpa using h4
          have HE := Lib.hid (show R = ([], e2) by rw [hR, if_pos h4])
          clear h4 hR hg hg2 hu h3 h2
          go_enter Try.func35, Try.ntmps35
          go_wp2_with fail
          refine (G1.out _ 0 (Ext.refl w)).mono ?_
          rintro e w1 ⟨rfl, rfl⟩
          rw [Hg.out]
          simp only
          go_wp2_with fail
          refine (G1.out _ a (Ext.refl w)).mono ?_
          rintro e w1 ⟨rfl, rfl⟩
          rw [Hg2.out]
          simp only
          go_wp2_with fail
          go_ret2
          exact ⟨none, 0, by rw [HE.out]; rfl, by rw [HE.out]; exact OwnG.nil _ _ _ _, Ext.refl w⟩
  · have hb0 : (e1 != 0) = true := by simpa using h1
    have HE := Lib.hid (show R = ([], e1) by rw [hR, if_pos h1])
    clear h1 hR hg hu
    go_enter Try.func35, Try.ntmps35
    go_wp2_with fail
    refine (G1.out _ 0 (Ext.refl w)).mono ?_
    rintro e w1 ⟨rfl, rfl⟩
    rw [Hg.out]
    simp only
    go_wp2_with fail
    go_ret2
    exact ⟨none, 0, by rw [HE.out]; rfl, by rw [HE.out]; exact OwnG.nil _ _ _ _, Ext.refl w⟩

end Go.Proofs.Ytoefhblojoaikaa
