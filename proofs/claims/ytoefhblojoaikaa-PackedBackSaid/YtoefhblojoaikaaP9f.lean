/-
  Layer 9: the program's decodeSome.
-/
import Derived.Test.YtoefhblojoaikaaP9e
import Derived.Test.YtoefhblojoaikaaR8e
namespace Go.Proofs.Ytoefhblojoaikaa
open Go.RowKit

set_option maxHeartbeats 6400000 in
theorem decodeSome_any (b o nb cb n : Nat) (a : Int) (bs : List Nat) (w : World) (hx : Rd .u8 w (some ⟨b, o, none⟩) nb bs) (hu : U8 bs) (hnb : nb ≤ 140737488355328) (hcb : nb ≤ cb) (hcm : cb ≤ 9223372036854775807) (hn1 : 1 ≤ n) (hn : n ≤ 4096) :
    Calls Try.prog 58 #[.slice (some ⟨b, o, none⟩) nb cb, .int .i64 a, .int .i64 n] w (Dec9Post (decSome bs a n) w) := by
  have Hl := Lib.hid hx.len
  obtain ⟨R, hR⟩ : ∃ R, R = decSome bs a n := ⟨_, rfl⟩
  rw [← hR]
  unfold decSome at hR
  have hG := get_any (some ⟨b, o, none⟩) nb cb a bs w hx hu hnb hcb hcm
  rcases hg : vget bs a with ⟨u, a1, e1⟩
  rw [hg] at hR
  simp only at hR
  have Hg := Lib.hid hg
  have HG := Lib.hid hG
  have Hcm := Lib.hid hcm
  clear hcm
  by_cases h1 : e1 = 0
  · subst h1
    obtain ⟨p1, p2, p3, p4, _⟩ := vget_at hu hg
    obtain ⟨q, rfl⟩ : ∃ q : Nat, a1 = (q : Int) := ⟨a1.toNat, by omega⟩
    rw [if_neg (by simp), Int.toNat_natCast] at hR
    unfold decTail at hR
    have hql : q ≤ nb := by have := Hl.out; omega
    have hlr := unf_range p4
    have hU : Hid (∀ W, Calls Try.prog 64 #[.int .u64 (u : Int)] W fun e w' => e = .returned (.int .i64 (unfS u)) ∧ W = w') := Lib.hid fun W => unfold_any (u : Int) W (by omega) (by omega)
    obtain ⟨l, hle⟩ : ∃ l, l = unfS u := ⟨_, rfl⟩
    rw [← hle] at hR hlr hU
    by_cases h2 : q = nb
    · have HE := Lib.hid (show R = ([], 2) by rw [hR, if_pos (by rw [Hl.out]; exact h2)])
      subst h2
      clear hR hG hg p1 p2 p3 p4 hle
      go_enter Try.func58, Try.ntmps58
      go_wp2_with fail
      refine HG.out.mono ?_
      rintro e w1 ⟨rfl, rfl⟩
      rw [Hg.out]
      simp only
      go_wp2_with fail
      go_ret2
      exact ⟨none, 0, by rw [HE.out]; rfl, by rw [HE.out]; exact OwnG.nil _ _ _ _, Ext.refl w⟩
    · rw [if_neg (by rw [Hl.out]; exact h2)] at hR
      have hq0 : ((q : Int) == (nb : Int)) = false := by rw [beq_eq_false_iff_ne]; omega
      have hqlt : q < nb := by omega
      obtain ⟨b', o', hA, hbl, hc⟩ := hx.at_ hqlt
      injection hA with hA
      injection hA with hb' ho'
      subst hb' ho'
      obtain ⟨d, hde⟩ : ∃ d, d = bs.getD q 0 := ⟨_, rfl⟩
      have hd256 : d < 256 := by rw [hde]; exact hu.at_ q
      rw [← hde] at hR hc
      have hdr := hx.dropAt (k := q + 1) hqlt
      have hwd : IntKind.i64.wrap (d : Int) = (d : Int) := IntWalk.i64_in _ (by omega)
      have hUn : Hid (∀ (B : Option Addr) (cB wd : Nat), wd = bs.getD q 0 → Rd .u8 w B (nb - (q + 1)) (bs.drop (q + 1)) → Calls Try.prog 72 #[.slice B (nb - (q + 1) : Nat) cB, .int .i64 (wd : Int), .int .i64 (n : Int)] w fun e w' => ∃ A' c', e = .returned (.tuple #[.slice A' (secL bs q n).length c', .int .i64 (secE bs q n)]) ∧ Own .u64 58 w' w.heap.size A' c' (secL bs q n) ∧ Ext w w') := Lib.hid fun B cB wd hwd hB => by
        have := unpack_any B (nb - (q + 1)) cB (wd : Int) (n : Int) (bs.drop (q + 1)) w hB (fun v hv => hu v (List.mem_of_mem_drop hv)) (by omega)
        unfold UnpPost at this
        rw [hwd, ← Hl.out] at this
        rw [hwd, ← Hl.out]
        exact this
      have hdr0 : cb = q + 1 → Rd .u8 w (some ⟨b, o, none⟩) (nb - (q + 1)) (bs.drop (q + 1)) := fun h => by
        have h1 : nb - (q + 1) = 0 := by omega
        rw [h1, List.drop_of_length_le (by have := Hl.out; omega)]
        exact Rd.nil _ _ _
      have Hdr := Lib.hid hdr
      have Hdr0 := Lib.hid hdr0
      clear hdr hdr0
      by_cases h3 : 64 < d
      · have HE := Lib.hid (show R = ([], 5) by rw [hR, if_pos h3])
        have hd3 : (64 : Int) < (d : Int) := by omega
        clear hR hG hg p1 p2 p3 p4 hle hde hd256
        go_enter Try.func58, Try.ntmps58
        go_wp2_with fail
        refine HG.out.mono ?_
        rintro e w1 ⟨rfl, rfl⟩
        rw [Hg.out]
        simp only
        go_wp2_with fail
        go_ret2
        exact ⟨none, 0, by rw [HE.out]; rfl, by rw [HE.out]; exact OwnG.nil _ _ _ _, Ext.refl w⟩
      · rw [if_neg h3] at hR
        have hd3 : decide ((64 : Int) < (d : Int)) = false := decide_eq_false (by omega)
        have hfu := secL_u64 bs q n (by rw [← hde]; omega)
        have hfl := secL_len (bs := bs) (a := q) (n := n)
        have hUn2 := Lib.hid (fun B cB h => hUn.out B cB d hde h)
        obtain ⟨E, hE⟩ : ∃ E, E = secE bs q n := ⟨_, rfl⟩
        obtain ⟨F, hF⟩ : ∃ F, F = secL bs q n := ⟨_, rfl⟩
        rw [← hE, ← hF] at hUn2 hR
        rw [← hE, ← hF] at hfl
        rw [← hF] at hfu
        by_cases h4 : E = 0
        · subst h4
          rw [if_neg (by simp)] at hR
          have hFl := hfl rfl
          have HFl := Lib.hid hFl
          rw [hFl] at hUn2
          have Hon : Hid (∀ (B : Option Addr) (cB : Nat) W, Rd .u64 W B n F → Calls Try.prog 73 #[.int .i64 l, .int .i64 (d : Int), .slice B n cB] W fun e w' => e = .returned (.bool (onlyF l d F)) ∧ W = w') := Lib.hid fun B cB W h => isOnly_any l d B n cB F W hlr h hfu (by omega) (by omega)
          by_cases h5 : onlyF l d F = true
          · rw [if_pos h5] at hR
            rw [h5] at Hon
            have hin : ∀ j, j < n → (F.getD j 0 : Int) ≤ 9223372036854775807 - l := fun j hj => by
              have h6 := le_hiN _ (mem_getD (d := 0) (show j < F.length by omega))
              unfold onlyF at h5
              simp only [Bool.and_eq_true, decide_eq_true_eq] at h5
              have := h5.2.2
              omega
            obtain ⟨D, hD⟩ : ∃ D, D = above l F := ⟨_, rfl⟩
            rw [← hD] at hR
            have HDl := Lib.hid (show D.length = n by rw [hD, above_len]; exact hFl)
            have HDj := Lib.hid (show ∀ j, j < n → D.getD j 0 = l + (F.getD j 0 : Int) from fun j hj => by rw [hD]; simp [above, List.getD, show j < F.length from by omega])
            have HR := Lib.hid hR
            have Hin := Lib.hid hin
            have Hlr := Lib.hid hlr
            clear hR hG hg p1 p2 p3 p4 hle hde hE hF hFl hfl hfu hD hin h5 hUn
            go_enter Try.func58, Try.ntmps58
            go_wp2_with fail
            refine HG.out.mono ?_
            rintro e w1 ⟨rfl, rfl⟩
            rw [Hg.out]
            simp only
            go_wp2_with fail
            all_goals
              refine (hUn2.out _ _ (by first | exact Hdr.out | exact Hdr0.out (by omega))).mono ?_
              rintro e w1 ⟨A1, c1, rfl, hown1, he1⟩
              have hr1 := hown1.rd' HFl.out
              clear hown1
              go_wp2_with fail
              refine (hU.out _).mono ?_
              rintro e w2 ⟨rfl, rfl⟩
              go_wp2_with fail
              refine (Hon.out _ _ _ hr1).mono ?_
              rintro e w2 ⟨rfl, rfl⟩
              go_wp2_with (refine wpList_mkZ 2 rfl _ _ 22 rfl 8 Try.underlying22 Try.infoI64 .i64 .i64 n rfl rfl rfl rfl (by omega) (by omega) ?_; intro w3 hown3 he3)
              have hown30 : OwnG shZ 2 w3 w1.heap.size (some ⟨w1.heap.size, 0, none⟩) n (D.take 0 ++ List.replicate (n - 0) 0) := by simpa using hown3
              clear hown3
              go_loopw [59] (fun i wr => ∃ j : Nat, j ≤ n ∧ i = .int .i64 j ∧ OwnG shZ 2 wr w1.heap.size (some ⟨w1.heap.size, 0, none⟩) n (D.take j ++ List.replicate (n - j) 0) ∧ Ext w1 wr) (fun i _ => n - (intOf i).toNat)
              case atStart => exact ⟨0, Nat.zero_le _, rfl, hown30, he3⟩
              case round =>
                obtain ⟨j, hj, rfl, hown, hEw⟩ := hrel
                clear hown30
                by_cases hlt : j < n
                · obtain ⟨b2, o2, hA2, hbl2, hc2⟩ := (hr1.ext hEw).at_ hlt
                  have hjl : j < (D.take j ++ List.replicate (n - j) 0).length := by rw [List.length_append, List.length_take, List.length_replicate, HDl.out]; omega
                  obtain ⟨b3, x3, hA3, hbb3, hbl3, hx3, hc3, hf3, hst3⟩ := hown.at_ hjl
                  injection hA3 with hA3
                  injection hA3 with hA3
                  subst hA3
                  have hc30 := hc3 0 _ rfl
                  have hf30 := hf3 j
                  rw [show j * shZ.sz + 0 = j from by show j * 1 + 0 = j; omega] at hc30
                  have hDj := HDj.out j hlt
                  have hinj := Hin.out j hlt
                  have hwa := wrap_above Hlr.out hinj
                  rw [← hDj] at hwa
                  obtain ⟨h1, h2⟩ := hst3 0 (D.getD j 0) (.int .i64 (D.getD j 0)) (by decide) rfl
                  rw [show j * shZ.sz + 0 = j from by show j * 1 + 0 = j; omega, set_nextZ HDl.out hlt] at h1
                  rw [show j * shZ.sz + 0 = j from by show j * 1 + 0 = j; omega] at h2
                  have hEn := hEw.setCell (p := ⟨w1.heap.size, j, none⟩) (Nat.le_refl _) (.int .i64 (D.getD j 0))
                  obtain ⟨y, hy⟩ : ∃ y, y = D.getD j 0 := ⟨_, rfl⟩
                  obtain ⟨x, hxe⟩ : ∃ x, x = F.getD j 0 := ⟨_, rfl⟩
                  rw [← hy] at h1 hEn hwa
                  rw [← hxe] at hc2 hwa
                  have H1 := Lib.hid h1
                  have HEn := Lib.hid hEn
                  subst hA2
                  clear h1 h2 hEn hst3 hc3 hf3 hx3 hDj hinj hy hxe hown hEw hjl
                  go_wp2_with fail
                  go_roundw
                  case rel => exact ⟨j + 1, by omega, by go_num, H1.out, HEn.out⟩
                  case measure => simp [intOf]; omega
                · obtain rfl : j = n := by omega
                  rw [Nat.sub_self, List.replicate_zero, List.append_nil, List.take_of_length_le (by have := HDl.out; omega)] at hown
                  have hEf := he1.trans hEw
                  have hzf := he1.size
                  go_wp2_with fail
                  go_ret2
                  refine ⟨some ⟨w1.heap.size, 0, none⟩, j, ?_, ?_, hEf⟩
                  · rw [HR.out]
                    show _ = Ending.returned (.tuple #[.slice (some ⟨w1.heap.size, 0, none⟩) D.length j, .int .i64 0])
                    rw [HDl.out]
                    rfl
                  · rw [HR.out]; exact hown.mono hzf
          · have HR := Lib.hid (show R = ([], 5) by rw [hR, if_neg h5])
            have h5f : onlyF l d F = false := by simpa using h5
            rw [h5f] at Hon
            clear hR hG hg p1 p2 p3 p4 hle hde hE hF hFl hfl hfu h5 hUn h5f
            go_enter Try.func58, Try.ntmps58
            go_wp2_with fail
            refine HG.out.mono ?_
            rintro e w1 ⟨rfl, rfl⟩
            rw [Hg.out]
            simp only
            go_wp2_with fail
            all_goals
              refine (hUn2.out _ _ (by first | exact Hdr.out | exact Hdr0.out (by omega))).mono ?_
              rintro e w1 ⟨A1, c1, rfl, hown1, he1⟩
              have hr1 := hown1.rd' HFl.out
              clear hown1
              go_wp2_with fail
              refine (hU.out _).mono ?_
              rintro e w2 ⟨rfl, rfl⟩
              go_wp2_with fail
              refine (Hon.out _ _ _ hr1).mono ?_
              rintro e w2 ⟨rfl, rfl⟩
              go_wp2_with fail
              go_ret2
              exact ⟨none, 0, by rw [HR.out]; rfl, by rw [HR.out]; exact OwnG.nil _ _ _ _, he1⟩
        · have HR := Lib.hid (show R = ([], E) by rw [hR, if_pos h4])
          have hb0 : (E != 0) = true := by simpa using h4
          clear hR hG hg p1 p2 p3 p4 hle hde hE hF hfl hfu hUn h4
          go_enter Try.func58, Try.ntmps58
          go_wp2_with fail
          refine HG.out.mono ?_
          rintro e w1 ⟨rfl, rfl⟩
          rw [Hg.out]
          simp only
          go_wp2_with fail
          all_goals
            refine (hUn2.out _ _ (by first | exact Hdr.out | exact Hdr0.out (by omega))).mono ?_
            rintro e w1 ⟨A1, c1, rfl, hown1, he1⟩
            go_wp2_with fail
            go_ret2
            exact ⟨none, 0, by rw [HR.out]; rfl, by rw [HR.out]; exact OwnG.nil _ _ _ _, he1⟩
  · have hb0 : (e1 != 0) = true := by simpa using h1
    have HE := Lib.hid (show R = ([], e1) by rw [hR, if_pos h1])
    clear h1 hR hG hg
    go_enter Try.func58, Try.ntmps58
    go_wp2_with fail
    refine HG.out.mono ?_
    rintro e w1 ⟨rfl, rfl⟩
    rw [Hg.out]
    simp only
    go_wp2_with fail
    go_ret2
    exact ⟨none, 0, by rw [HE.out]; rfl, by rw [HE.out]; exact OwnG.nil _ _ _ _, Ext.refl w⟩

end Go.Proofs.Ytoefhblojoaikaa
