import Derived.Test.YthibbgmicmfkfaaGreatGX11
import Derived.Maps.OwnSet
import Derived.OpenShut
import Derived.Deep.MidRow
namespace Go.Proofs.YthibbgmicmfkfaaGreat
open Go.RowKit
set_option maxRecDepth 100000
set_option maxHeartbeats 6400000 in
theorem decodeSome_any (b o nb cb n : Nat) (a : Int) (bs : List Nat) (w : World) (hx : Rd .u8 w (some ⟨b, o, none⟩) nb bs) (hu : U8 bs) (hnb : nb ≤ 140737488355328) (hcb : nb ≤ cb) (hcm : cb ≤ 9223372036854775807) (hn1 : 1 ≤ n) (hn : n ≤ 4096) :
    Calls Tryz.prog 191 #[.slice (some ⟨b, o, none⟩) nb cb, .int .i64 a, .int .i64 n] w (Dec9Post (decSome bs a n) w) := by
  have Hl := Lib.hid hx.len
  obtain ⟨R, hR⟩ : ∃ R, R = decSome bs a n := ⟨_, rfl⟩
  rw [← hR]
  unfold decSome at hR
  have hG := get_any (some ⟨b, o, none⟩) nb cb a bs w hx hu hnb hcb hcm
  rcases hg : vget bs a with ⟨u, a1, e1⟩
  rw [hg] at hR
  simp only at hR
  have Hg := Lib.hid hg
  have HG := Lib.hid hG
  have Hcm := Lib.hid hcm
  clear hcm
  by_cases h1 : e1 = 0
  · subst h1
    obtain ⟨p1, p2, p3, p4, _⟩ := vget_at hu hg
    obtain ⟨q, rfl⟩ : ∃ q : Nat, a1 = (q : Int) := ⟨a1.toNat, by omega⟩
    rw [if_neg (by simp), Int.toNat_natCast] at hR
    unfold decTail at hR
    have hql : q ≤ nb := by have := Hl.out; omega
    have hlr := unf_range p4
    have hU : Hid (∀ W, Calls Tryz.prog 189 #[.int .u64 (u : Int)] W fun e w' => e = .returned (.int .i64 (unfS u)) ∧ W = w') := Lib.hid fun W => unfold_any (u : Int) W (by omega) (by omega)
    obtain ⟨l, hle⟩ : ∃ l, l = unfS u := ⟨_, rfl⟩
    rw [← hle] at hR hlr hU
    by_cases h2 : q = nb
    · have HE := Lib.hid (show R = ([], 2) by rw [hR, if_pos (by rw [Hl.out]; exact h2)])
      subst h2
      clear hR hG hg p1 p2 p3 p4 hle
      go_enter Tryz.func191, Tryz.ntmps191
      go_wp2_with fail
      refine HG.out.mono ?_
      rintro e w1 ⟨rfl, rfl⟩
      rw [Hg.out]
      simp only
      go_wp2_with fail
      go_ret2
      exact ⟨none, 0, by rw [HE.out]; rfl, by rw [HE.out]; exact OwnG.nil _ _ _ _, Ext.refl w⟩
    · rw [if_neg (by rw [Hl.out]; exact h2)] at hR
      have hq0 : ((q : Int) == (nb : Int)) = false := by rw [beq_eq_false_iff_ne]; omega
      have hqlt : q < nb := by omega
      obtain ⟨b', o', hA, hbl, hc⟩ := hx.at_ hqlt
      injection hA with hA
      injection hA with hb' ho'
      subst hb' ho'
      obtain ⟨d, hde⟩ : ∃ d, d = bs.getD q 0 := ⟨_, rfl⟩
      have hd256 : d < 256 := by rw [hde]; exact hu.at_ q
      rw [← hde] at hR hc
      have hdr := hx.dropAt (k := q + 1) hqlt
      have hwd : IntKind.i64.wrap (d : Int) = (d : Int) := IntWalk.i64_in _ (by omega)
      have hUn : Hid (∀ (B : Option Addr) (cB wd : Nat), wd = bs.getD q 0 → Rd .u8 w B (nb - (q + 1)) (bs.drop (q + 1)) → Calls Tryz.prog 154 #[.slice B (nb - (q + 1) : Nat) cB, .int .i64 (wd : Int), .int .i64 (n : Int)] w fun e w' => ∃ A' c', e = .returned (.tuple #[.slice A' (secL bs q n).length c', .int .i64 (secE bs q n)]) ∧ Own .u64 69 w' w.heap.size A' c' (secL bs q n) ∧ Ext w w') := Lib.hid fun B cB wd hwd hB => by
        have := unpack_any B (nb - (q + 1)) cB (wd : Int) (n : Int) (bs.drop (q + 1)) w hB (fun v hv => hu v (List.mem_of_mem_drop hv)) (by omega)
        unfold UnpPost at this
        rw [hwd, ← Hl.out] at this
        rw [hwd, ← Hl.out]
        exact this
      have hdr0 : cb = q + 1 → Rd .u8 w (some ⟨b, o, none⟩) (nb - (q + 1)) (bs.drop (q + 1)) := fun h => by
        have h1 : nb - (q + 1) = 0 := by omega
        rw [h1, List.drop_of_length_le (by have := Hl.out; omega)]
        exact Rd.nil _ _ _
      have Hdr := Lib.hid hdr
      have Hdr0 := Lib.hid hdr0
      clear hdr hdr0
      by_cases h3 : 64 < d
      · have HE := Lib.hid (show R = ([], 5) by rw [hR, if_pos h3])
        have hd3 : (64 : Int) < (d : Int) := by omega
        clear hR hG hg p1 p2 p3 p4 hle hde hd256
        go_enter Tryz.func191, Tryz.ntmps191
        go_wp2_with fail
        refine HG.out.mono ?_
        rintro e w1 ⟨rfl, rfl⟩
        rw [Hg.out]
        simp only
        go_wp2_with fail
        go_ret2
        exact ⟨none, 0, by rw [HE.out]; rfl, by rw [HE.out]; exact OwnG.nil _ _ _ _, Ext.refl w⟩
      · rw [if_neg h3] at hR
        have hd3 : decide ((64 : Int) < (d : Int)) = false := decide_eq_false (by omega)
        have hfu := secL_u64 bs q n (by rw [← hde]; omega)
        have hfl := secL_len (bs := bs) (a := q) (n := n)
        have hUn2 := Lib.hid (fun B cB h => hUn.out B cB d hde h)
        obtain ⟨E, hE⟩ : ∃ E, E = secE bs q n := ⟨_, rfl⟩
        obtain ⟨F, hF⟩ : ∃ F, F = secL bs q n := ⟨_, rfl⟩
        rw [← hE, ← hF] at hUn2 hR
        rw [← hE, ← hF] at hfl
        rw [← hF] at hfu
        by_cases h4 : E = 0
        · subst h4
          rw [if_neg (by simp)] at hR
          have hFl := hfl rfl
          have HFl := Lib.hid hFl
          rw [hFl] at hUn2
          have Hon : Hid (∀ (B : Option Addr) (cB : Nat) W, Rd .u64 W B n F → Calls Tryz.prog 208 #[.int .i64 l, .int .i64 (d : Int), .slice B n cB] W fun e w' => e = .returned (.bool (onlyF l d F)) ∧ W = w') := Lib.hid fun B cB W h => isOnly_any l d B n cB F W hlr h hfu (by omega) (by omega)
          by_cases h5 : onlyF l d F = true
          · rw [if_pos h5] at hR
            rw [h5] at Hon
            have hin : ∀ j, j < n → (F.getD j 0 : Int) ≤ 9223372036854775807 - l := fun j hj => by
              have h6 := le_hiN _ (mem_getD (d := 0) (show j < F.length by omega))
              unfold onlyF at h5
              simp only [Bool.and_eq_true, decide_eq_true_eq] at h5
              have := h5.2.2
              omega
            obtain ⟨D, hD⟩ : ∃ D, D = above l F := ⟨_, rfl⟩
            rw [← hD] at hR
            have HDl := Lib.hid (show D.length = n by rw [hD, above_len]; exact hFl)
            have HDj := Lib.hid (show ∀ j, j < n → D.getD j 0 = l + (F.getD j 0 : Int) from fun j hj => by rw [hD]; simp [above, List.getD, show j < F.length from by omega])
            have HR := Lib.hid hR
            have Hin := Lib.hid hin
            have Hlr := Lib.hid hlr
            clear hR hG hg p1 p2 p3 p4 hle hde hE hF hFl hfl hfu hD hin h5 hUn
            go_enter Tryz.func191, Tryz.ntmps191
            go_wp2_with fail
            refine HG.out.mono ?_
            rintro e w1 ⟨rfl, rfl⟩
            rw [Hg.out]
            simp only
            go_wp2_with fail
            all_goals
              refine (hUn2.out _ _ (by first | exact Hdr.out | exact Hdr0.out (by omega))).mono ?_
              rintro e w1 ⟨A1, c1, rfl, hown1, he1⟩
              have hr1 := hown1.rd' HFl.out
              clear hown1
              go_wp2_with fail
              refine (hU.out _).mono ?_
              rintro e w2 ⟨rfl, rfl⟩
              go_wp2_with fail
              refine (Hon.out _ _ _ hr1).mono ?_
              rintro e w2 ⟨rfl, rfl⟩
              go_wp2_with (refine wpList_mkZ 2 rfl _ _ 115 rfl 8 Tryz.underlying115 Tryz.infoI64 .i64 .i64 n rfl rfl rfl rfl (by omega) (by omega) ?_; intro w3 hown3 he3)
              have hown30 : OwnG shZ 2 w3 w1.heap.size (some ⟨w1.heap.size, 0, none⟩) n (D.take 0 ++ List.replicate (n - 0) 0) := by simpa using hown3
              clear hown3
              go_loopw [59] (fun i wr => ∃ j : Nat, j ≤ n ∧ i = .int .i64 j ∧ OwnG shZ 2 wr w1.heap.size (some ⟨w1.heap.size, 0, none⟩) n (D.take j ++ List.replicate (n - j) 0) ∧ Ext w1 wr) (fun i _ => n - (intOf i).toNat)
              case atStart => exact ⟨0, Nat.zero_le _, rfl, hown30, he3⟩
              case round =>
                obtain ⟨j, hj, rfl, hown, hEw⟩ := hrel
                clear hown30
                by_cases hlt : j < n
                · obtain ⟨b2, o2, hA2, hbl2, hc2⟩ := (hr1.ext hEw).at_ hlt
                  have hjl : j < (D.take j ++ List.replicate (n - j) 0).length := by rw [List.length_append, List.length_take, List.length_replicate, HDl.out]; omega
                  obtain ⟨b3, x3, hA3, hbb3, hbl3, hx3, hc3, hf3, hst3⟩ := hown.at_ hjl
                  injection hA3 with hA3
                  injection hA3 with hA3
                  subst hA3
                  have hc30 := hc3 0 _ rfl
                  have hf30 := hf3 j
                  rw [show j * shZ.sz + 0 = j from by show j * 1 + 0 = j; omega] at hc30
                  have hDj := HDj.out j hlt
                  have hinj := Hin.out j hlt
                  have hwa := wrap_above Hlr.out hinj
                  rw [← hDj] at hwa
                  obtain ⟨h1, h2⟩ := hst3 0 (D.getD j 0) (.int .i64 (D.getD j 0)) (by decide) rfl
                  rw [show j * shZ.sz + 0 = j from by show j * 1 + 0 = j; omega, set_nextZ HDl.out hlt] at h1
                  rw [show j * shZ.sz + 0 = j from by show j * 1 + 0 = j; omega] at h2
                  have hEn := hEw.setCell (p := ⟨w1.heap.size, j, none⟩) (Nat.le_refl _) (.int .i64 (D.getD j 0))
                  obtain ⟨y, hy⟩ : ∃ y, y = D.getD j 0 := ⟨_, rfl⟩
                  obtain ⟨x, hxe⟩ : ∃ x, x = F.getD j 0 := ⟨_, rfl⟩
                  rw [← hy] at h1 hEn hwa
                  rw [← hxe] at hc2 hwa
                  have H1 := Lib.hid h1
                  have HEn := Lib.hid hEn
                  subst hA2
                  clear h1 h2 hEn hst3 hc3 hf3 hx3 hDj hinj hy hxe hown hEw hjl
                  go_wp2_with fail
                  go_roundw
                  case rel => exact ⟨j + 1, by omega, by go_num, H1.out, HEn.out⟩
                  case measure => simp [intOf]; omega
                · obtain rfl : j = n := by omega
                  rw [Nat.sub_self, List.replicate_zero, List.append_nil, List.take_of_length_le (by have := HDl.out; omega)] at hown
                  have hEf := he1.trans hEw
                  have hzf := he1.size
                  go_wp2_with fail
                  go_ret2
                  refine ⟨some ⟨w1.heap.size, 0, none⟩, j, ?_, ?_, hEf⟩
                  · rw [HR.out]
                    show _ = Ending.returned (.tuple #[.slice (some ⟨w1.heap.size, 0, none⟩) D.length j, .int .i64 0])
                    rw [HDl.out]
                    rfl
                  · rw [HR.out]; exact hown.mono hzf
          · have HR := Lib.hid (show R = ([], 5) by rw [hR, if_neg h5])
            have h5f : onlyF l d F = false := by simpa using h5
            rw [h5f] at Hon
            clear hR hG hg p1 p2 p3 p4 hle hde hE hF hFl hfl hfu h5 hUn h5f
            go_enter Tryz.func191, Tryz.ntmps191
            go_wp2_with fail
            refine HG.out.mono ?_
            rintro e w1 ⟨rfl, rfl⟩
            rw [Hg.out]
            simp only
            go_wp2_with fail
            all_goals
              refine (hUn2.out _ _ (by first | exact Hdr.out | exact Hdr0.out (by omega))).mono ?_
              rintro e w1 ⟨A1, c1, rfl, hown1, he1⟩
              have hr1 := hown1.rd' HFl.out
              clear hown1
              go_wp2_with fail
              refine (hU.out _).mono ?_
              rintro e w2 ⟨rfl, rfl⟩
              go_wp2_with fail
              refine (Hon.out _ _ _ hr1).mono ?_
              rintro e w2 ⟨rfl, rfl⟩
              go_wp2_with fail
              go_ret2
              exact ⟨none, 0, by rw [HR.out]; rfl, by rw [HR.out]; exact OwnG.nil _ _ _ _, he1⟩
        · have HR := Lib.hid (show R = ([], E) by rw [hR, if_pos h4])
          have hb0 : (E != 0) = true := by simpa using h4
          clear hR hG hg p1 p2 p3 p4 hle hde hE hF hfl hfu hUn h4
          go_enter Tryz.func191, Tryz.ntmps191
          go_wp2_with fail
          refine HG.out.mono ?_
          rintro e w1 ⟨rfl, rfl⟩
          rw [Hg.out]
          simp only
          go_wp2_with fail
          all_goals
            refine (hUn2.out _ _ (by first | exact Hdr.out | exact Hdr0.out (by omega))).mono ?_
            rintro e w1 ⟨A1, c1, rfl, hown1, he1⟩
            go_wp2_with fail
            go_ret2
            exact ⟨none, 0, by rw [HR.out]; rfl, by rw [HR.out]; exact OwnG.nil _ _ _ _, he1⟩
  · have hb0 : (e1 != 0) = true := by simpa using h1
    have HE := Lib.hid (show R = ([], e1) by rw [hR, if_pos h1])
    clear h1 hR hG hg
    go_enter Tryz.func191, Tryz.ntmps191
    go_wp2_with fail
    refine HG.out.mono ?_
    rintro e w1 ⟨rfl, rfl⟩
    rw [Hg.out]
    simp only
    go_wp2_with fail
    go_ret2
    exact ⟨none, 0, by rw [HE.out]; rfl, by rw [HE.out]; exact OwnG.nil _ _ _ _, Ext.refl w⟩
set_option maxHeartbeats 3200000 in
theorem pdecode_any (A : Option Addr) (nb cb : Nat) (bs : List Nat) (w : World) (hx : Rd .u8 w A nb bs) (hu : U8 bs) (hnb : nb ≤ 140737488355328) (hcb : nb ≤ cb) (hcm : cb ≤ 9223372036854775807) :
    Calls Tryz.prog 157 #[.slice A nb cb] w (Dec9Post (decode9 bs) w) := by
  have Hl := Lib.hid hx.len
  obtain ⟨R, hR⟩ : ∃ R, R = decode9 bs := ⟨_, rfl⟩
  rw [← hR]
  unfold decode9 at hR
  have hG := get_any A nb cb 0 bs w hx hu hnb hcb hcm
  rcases hg : vget bs 0 with ⟨M, a, e1⟩
  rw [hg] at hR
  simp only at hR
  have Hg := Lib.hid hg
  have HG := Lib.hid hG
  by_cases h1 : e1 = 0
  · subst h1
    rw [if_neg (by simp)] at hR
    by_cases h2 : 4096 < M
    · have HE := Lib.hid (show R = ([], 4) by rw [hR, if_pos h2])
      have hb1 : (4096 : Int) < (M : Int) := by omega
      clear hR hG hg hcm hu
      go_enter Tryz.func157, Tryz.ntmps157
      go_wp2_with fail
      refine HG.out.mono ?_
      rintro e w1 ⟨rfl, rfl⟩
      rw [Hg.out]
      simp only
      go_wp2_with fail
      go_ret2
      exact ⟨none, 0, by rw [HE.out]; rfl, by rw [HE.out]; exact OwnG.nil _ _ _ _, Ext.refl w⟩
    · rw [if_neg h2] at hR
      have hb1 : decide ((4096 : Int) < (M : Int)) = false := decide_eq_false (by omega)
      by_cases h3 : M = 0
      · subst h3
        rw [if_pos rfl] at hR
        by_cases h4 : a < (nb : Int)
        · have HE := Lib.hid (show R = ([], 3) by rw [hR, if_pos (by rw [Hl.out]; exact h4)])
          clear hR hG hg hcm hu
          go_enter Tryz.func157, Tryz.ntmps157
          go_wp2_with fail
          refine HG.out.mono ?_
          rintro e w1 ⟨rfl, rfl⟩
          rw [Hg.out]
          simp only
          go_wp2_with fail
          go_ret2
          exact ⟨none, 0, by rw [HE.out]; rfl, by rw [HE.out]; exact OwnG.nil _ _ _ _, Ext.refl w⟩
        · have HE := Lib.hid (show R = ([], 0) by rw [hR, if_neg (by rw [Hl.out]; exact h4)])
          have hb2 : decide (a < (nb : Int)) = false := decide_eq_false h4
          clear hR hG hg hcm hu h4
          go_enter Tryz.func157, Tryz.ntmps157
          go_wp2_with fail
          refine HG.out.mono ?_
          rintro e w1 ⟨rfl, rfl⟩
          rw [Hg.out]
          simp only
          go_wp2_with fail
          go_ret2
          exact ⟨none, 0, by rw [HE.out]; rfl, by rw [HE.out]; exact OwnG.nil _ _ _ _, Ext.refl w⟩
      · rw [if_neg h3] at hR
        obtain ⟨p1, p2, p3, p4, _⟩ := vget_at hu hg
        have hn0 : 0 < nb := by have := Hl.out; omega
        obtain ⟨b, o, rfl, _⟩ := hx.2 hn0
        have HD := Lib.hid (decodeSome_any b o nb cb M a bs w hx hu hnb hcb hcm (by omega) (by omega))
        have hb3 : decide ((0 : Int) < (M : Int)) = true := decide_eq_true (by omega)
        have hwm : IntKind.i64.wrap (M : Int) = (M : Int) := IntWalk.i64_in _ (by omega)
        have HE := Lib.hid hR
        clear hR hG hg hcm hu p1 p2 p3 p4
        go_enter Tryz.func157, Tryz.ntmps157
        go_wp2_with fail
        refine HG.out.mono ?_
        rintro e w1 ⟨rfl, rfl⟩
        rw [Hg.out]
        simp only
        go_wp2_with fail
        refine HD.out.mono ?_
        rintro e w1 ⟨A1, c1, rfl, hown1, he1⟩
        go_wp2_with fail
        go_ret2
        exact ⟨A1, c1, by rw [HE.out]; rfl, by rw [HE.out]; exact hown1, he1⟩
  · have hb0 : (e1 != 0) = true := by simpa using h1
    have HE := Lib.hid (show R = ([], e1) by rw [hR, if_pos h1])
    clear h1 hR hG hg hcm hu
    go_enter Tryz.func157, Tryz.ntmps157
    go_wp2_with fail
    refine HG.out.mono ?_
    rintro e w1 ⟨rfl, rfl⟩
    rw [Hg.out]
    simp only
    go_wp2_with fail
    go_ret2
    exact ⟨none, 0, by rw [HE.out]; rfl, by rw [HE.out]; exact OwnG.nil _ _ _ _, Ext.refl w⟩
theorem loN_zero {xs : List Nat} (h : 0 < xs.length) : loN xs = 0 ↔ 0 ∈ xs := by
  have key : ∀ (r : List Nat) (x : Nat), r.foldl min x = 0 ↔ x = 0 ∨ 0 ∈ r := by
    intro r
    induction r with
    | nil => intro x; simp
    | cons z r ih =>
      intro x
      rw [List.foldl_cons, ih, List.mem_cons]
      constructor
      · rintro (h | h)
        · rcases Nat.le_total x z with hxz | hxz
          · left; omega
          · right; left; omega
        · exact .inr (.inr h)
      · rintro (h | h | h)
        · left; omega
        · left; omega
        · exact .inr h
  cases xs with
  | nil => simp at h
  | cons x r => exact (key r x).trans (by rw [List.mem_cons]; constructor <;> (rintro (h | h); exact .inl h.symm; exact .inr h))
open Go.RowKit Go.Maps Go.WideMaps
theorem lawU : Keyed Tryz.prog 69 := int_keyed Tryz.underlying69
theorem run_mkU (w : World) : (Instr.makeMap 234 none).run Tryz.prog w = .ok (.map (some w.heap.size)) (w.alloc (.map #[] 0)) := by
  simp [Instr.makeMap, Result.andThen]
theorem u64_min : IntKind.u64.min = 0 := by decide
theorem u64_max : IntKind.u64.max = 18446744073709551615 := by decide
theorem keyU_of (u : Nat) (h : u < 18446744073709551616) : keyOf Tryz.prog 69 (.int .u64 (u : Int)) = some (.int .u64 (u : Int)) := by
  refine keyOf_int_mk Tryz.underlying69 ?_
  have h1 : IntKind.u64.min ≤ (u : Int) := by rw [u64_min]; omega
  have h2 : (u : Int) ≤ IntKind.u64.max := by rw [u64_max]; omega
  simp [Lit.wf, h1]
  omega
theorem elI_wrap {H : Type} (z : Int) : elI H (.int .i64 (wrap64 z)) = some (.lit (.int .i64 (wrap64 z)), []) :=
  plainElem_int Tryz.underlying3 (wrap64_wf z)
def kc (n : Nat) (us : List Nat) : Nat := (List.range n).countP fun i => decide (i ∈ us)
theorem kc_nil (n : Nat) : kc n [] = 0 := by simp [kc]
theorem kc_succ (n : Nat) (us : List Nat) : kc (n + 1) us = kc n us + if n ∈ us then 1 else 0 := by
  unfold kc
  rw [List.range_succ, List.countP_append, List.countP_singleton]
  by_cases h : n ∈ us <;> simp [h]
theorem kc_same {us : List Nat} {u : Nat} (h : u ∈ us) : ∀ n, kc n (us ++ [u]) = kc n us
  | 0 => rfl
  | n + 1 => by
    rw [kc_succ, kc_succ, kc_same h n]
    congr 1
    by_cases q : n ∈ us
    · simp [q]
    · have : ¬ n = u := fun e => q (by rw [e]; exact h)
      simp [q, this]
theorem kc_above {us : List Nat} {u : Nat} : ∀ n, n ≤ u → kc n (us ++ [u]) = kc n us
  | 0, _ => rfl
  | n + 1, h => by
    rw [kc_succ, kc_succ, kc_above n (by omega)]
    congr 1
    have : ¬ n = u := by omega
    simp [this]
theorem kc_new {us : List Nat} {u : Nat} (h : ¬ u ∈ us) : ∀ n, u < n → kc n (us ++ [u]) = kc n us + 1
  | 0, hu => by omega
  | n + 1, hu => by
    rw [kc_succ, kc_succ]
    by_cases e : u = n
    · subst e
      rw [kc_above u (Nat.le_refl _)]
      simp [h]
    · rw [kc_new h n (by omega)]
      have : ¬ n = u := fun q => e q.symm
      have e2 : (n ∈ us ++ [u]) = (n ∈ us) := by simp [this]
      simp only [e2]
      omega
theorem kc_le : ∀ (n : Nat) (us : List Nat), kc n us ≤ n
  | 0, _ => Nat.le_refl _
  | n + 1, us => by
    have := kc_le n us
    rw [kc_succ]
    split <;> omega
theorem kc_all {us : List Nat} : ∀ (n : Nat), kc n us = n ↔ ∀ i, i < n → i ∈ us
  | 0 => by simp [kc]
  | n + 1 => by
    have h1 := kc_le n us
    rw [kc_succ]
    by_cases h : n ∈ us
    · rw [if_pos h]
      constructor
      · intro e i hi
        by_cases q : i = n
        · subst q; exact h
        · exact (kc_all n).1 (by omega) i (by omega)
      · intro e
        rw [(kc_all n).2 (fun i hi => e i (by omega))]
    · rw [if_neg h]
      constructor
      · intro e; omega
      · intro e; exact absurd (e n (by omega)) h
def SeenD (D : DataW Unit) (us : List Nat) (n : Nat) : Prop := Tidy D ∧ (∀ x : Nat, has D (.int .u64 (x : Int)) = true ↔ x ∈ us) ∧ Maps.size D = kc n us
theorem SeenD.step {D : DataW Unit} {us : List Nat} {n u : Nat} (h : SeenD D us n) (hu : u < n) (d : DataW Unit) : SeenD (D.put (.int .u64 (u : Int)) d) (us ++ [u]) n := by
  obtain ⟨h1, h2, h3⟩ := h
  refine ⟨h1.put (show WideAt.IsKeyLit (.int .u64 (u : Int)) from trivial) d, fun x => ?_, ?_⟩
  · by_cases e : x = u
    · subst e
      rw [has_put_same h1.isMap (show WideAt.IsKeyLit (.int .u64 (x : Int)) from trivial)]
      simp
    · rw [has_put_other (fun q => e (by injection q with _ q; omega)), h2]
      simp [e]
  · rw [size_put h1]
    by_cases q : u ∈ us
    · rw [(h2 u).2 q, if_pos rfl, kc_same q, h3]
    · have : has D (.int .u64 (u : Int)) = false := by
        cases hh : has D (.int .u64 (u : Int)) with
        | false => rfl
        | true => exact absurd ((h2 u).1 hh) q
      rw [this, kc_new q n hu, h3]
      rfl
set_option maxHeartbeats 1600000 in
set_option maxRecDepth 100000 in
theorem allMeant_any (A : Option Addr) (m c n : Nat) (us : List Nat) (w : World) (hx : Rd .u64 w A m us) (hm : m ≤ 1000000) (hn : n ≤ 1000000) (hu : U64 us) :
    Calls Tryz.prog 194 #[.slice A m c, .int .i64 (n : Int)] w fun e w' => e = .returned (.bool (meant us n)) ∧ Ext w w' := by
  have Hl := Lib.hid hx.len
  have Hu := Lib.hid hu
  have hmk := run_mkU
  clear hu
  go_enter Tryz.func194, Tryz.ntmps194
  go_wp2_with fail
  clear hmk
  obtain ⟨g, hg⟩ : ∃ g, g = w.heap.size := ⟨_, rfl⟩
  have hown0 := World.ownsMap_made (H := Unit) w Tryz.prog 69 (elI Unit)
  rw [← hg] at hown0 ⊢
  have Hg := Lib.hid hg
  have Hown0 := Lib.hid hown0
  clear hown0 hg
  go_loopw [7, 11] (fun _ i wr => ∃ (j : Nat) (D : DataW Unit), j ≤ m ∧ i = .int .i64 j ∧ Hid (wr.ownsMap Tryz.prog 69 (elI Unit) g j D) ∧ Hid (SeenD D (us.take j) n) ∧ Hid (Ext w wr) ∧ Hid (∀ u ∈ us.take j, u < n)) (fun _ i _ => m - (intOf i).toNat)
  case atStart => exact ⟨0, _, Nat.zero_le _, rfl, Hown0.out, ⟨tidy_empty, fun x => by simp [has], by rw [List.take_zero, kc_nil]; rfl⟩, (Ext.refl w).alloc _, fun u hu => by rw [List.take_zero] at hu; cases hu⟩
  case round =>
    clear Hown0
    obtain ⟨j, D, hj, rfl, HM, HS, HE, HA⟩ := hrel
    by_cases hlt : j < m
    · obtain ⟨b, o, rfl, hbb, hc⟩ := (hx.ext HE.out).at_ hlt
      have hvs : us[j]? = some (us.getD j 0) := by simp [List.getD, show j < us.length by rw [Hl.out]; exact hlt]
      have hv := Hu.out _ (List.mem_of_getElem? hvs)
      have htk : us.take (j + 1) = us.take j ++ [us.getD j 0] := take_nextG us j hvs
      have hmem := List.mem_of_getElem? hvs
      obtain ⟨u, hue⟩ : ∃ u, u = us.getD j 0 := ⟨_, rfl⟩
      rw [← hue] at hc hv htk hmem
      have Hk := Lib.hid (keyU_of u hv)
      have Htk := Lib.hid htk
      have Hmem := Lib.hid hmem
      clear hvs htk hue hmem
      by_cases hge : n ≤ u
      · have HR := Lib.hid (show meant us n = false by
          cases q : meant us n with
          | false => rfl
          | true => have := (meant_iff.1 q).1 u Hmem.out; omega)
        go_wp2_with fail
        go_ret
        exact ⟨by rw [HR.out]; rfl, HE.out⟩
      · have HS2 := fun d => HS.out.step (u := u) (by omega) d
        have HS3 := Lib.hid HS2
        have HA2 := Lib.hid (show ∀ x ∈ us.take (j + 1), x < n by
          intro x hx2
          rw [Htk.out] at hx2
          rcases List.mem_append.1 hx2 with h | h
          · exact HA.out x h
          · simp at h; omega)
        clear HS2
        go_wp2_with (first
          | (at_lookup; refine wpList_lookup_own_int _ rfl _ _ 234 rfl 69 3 .i64 lawU Tryz.underlying234 Tryz.underlying3 (zero_int _) g _ _ rfl HM.out _ _ rfl Hk.out ?_; intro cc hat hwc; clear hat hwc)
          | (at_mapUpdate; refine wpList_mapUpdate_own _ rfl _ _ _ 234 rfl 69 3 lawU Tryz.underlying234 (elI Unit) g j _ rfl HM.out (by unfold maxLen; omega) _ _ _ rfl rfl Hk.out _ [] (elI_wrap _) ?_; intro w2 hown2 hg2)
          | fail)
        have HM2 := Lib.hid hown2
        have HE2 := Lib.hid (show Ext w w2 from grownBy_ext HE.out hg2 (fun g' hg' => by injection hg' with hg'; have := Hg.out; omega))
        clear hown2 hg2
        go_wp2_with fail
        go_roundw
        case rel => exact ⟨j + 1, _, by omega, by go_num, HM2.out, by rw [Htk.out]; exact HS3.out _, HE2.out, HA2.out⟩
        case measure => simp [intOf]; omega
    · obtain rfl : j = m := by omega
      have htk : us.take j = us := List.take_of_length_le (by rw [Hl.out]; exact Nat.le_refl _)
      have hsz := HS.out.2.2
      have hal := HA.out
      rw [htk] at hsz hal
      have hle := kc_le n us
      have hR : meant us n = decide (kc n us = n) := by
        by_cases h : kc n us = n
        · rw [decide_eq_true h]; exact meant_iff.2 ⟨hal, (kc_all n).1 h⟩
        · rw [decide_eq_false h]
          cases q : meant us n with
          | false => rfl
          | true => exact absurd ((kc_all n).2 (meant_iff.1 q).2) h
      obtain ⟨z, hz⟩ : ∃ z, z = kc n us := ⟨_, rfl⟩
      rw [← hz] at hsz hle hR
      have Hsz := Lib.hid hsz
      have HR := Lib.hid hR
      clear htk hsz hal hz hR
      go_wp2_with (first | (at_len; refine wpList_len_own _ rfl _ 234 rfl 69 3 Tryz.underlying234 _ g _ _ rfl HM.out ?_; rw [Hsz.out]) | fail)
      go_ret
      exact ⟨by rw [HR.out]; by_cases h : z = n <;> simp [h] <;> omega, HE.out⟩
theorem ddec_by {bs : List Nat} {L : List (List Nat)} {a e : Int} (h : entR bs = (L, a, e)) : (e ≠ 0 → ddec bs = ([], e)) ∧ (e = 0 → ddec bs = ddec.ddecB bs L a) := by
  unfold entR at h
  rcases h1 : vget bs 0 with ⟨k, n, e1⟩
  by_cases he1 : e1 = 0
  · subst he1
    by_cases hk : 4096 < k
    · rw [cntR_long h1 hk] at h
      injection h with _ h
      injection h with _ h
      subst h
      exact ⟨fun _ => ddec_long h1 hk, fun q => absurd q (by decide)⟩
    · rw [cntR_yes h1 (by omega), if_neg (fun q => q rfl)] at h
      simp only at h
      exact ⟨fun q => ddec_e2 h1 (by omega) h q, fun q => by subst q; exact ddec_go h1 (by omega) h⟩
  · rw [cntR_err h1 he1] at h
    rw [if_pos he1] at h
    injection h with _ h
    injection h with _ h
    subst h
    exact ⟨fun _ => ddec_e1 h1 he1, fun q => absurd q he1⟩
theorem entR_ok {bs : List Nat} (hb : U8 bs) {L : List (List Nat)} {a : Int} (h : entR bs = (L, a, 0)) : 0 ≤ a ∧ a ≤ bs.length ∧ L.length ≤ 4096 ∧ Asc L ∧ ∀ s ∈ L, s.length ≤ 200 ∧ U8 s := by
  unfold entR at h
  rcases h1 : vget bs 0 with ⟨k, n, e1⟩
  by_cases he1 : e1 = 0
  · subst he1
    by_cases hk : 4096 < k
    · rw [cntR_long h1 hk] at h; injection h with _ h; injection h with _ h; exact absurd h (by decide)
    · rw [cntR_yes h1 (by omega), if_neg (fun q => q rfl)] at h
      simp only at h
      obtain ⟨a1, a2, a3, a4, a5⟩ := vget_at hb h1
      obtain ⟨T, r1, r2, r3, r4, r5, r6, r7, r8⟩ := dnA_ok hb k (acc := []) List.Pairwise.nil (by omega) a3 h
      rw [List.nil_append] at r1
      subst r1
      exact ⟨r3, r5, by omega, r7, r8⟩
  · rw [cntR_err h1 he1, if_pos he1] at h
    injection h with _ h; injection h with _ h; exact absurd h he1
theorem ddecB_by {bs : List Nat} {L : List (List Nat)} {a b e : Int} {k : Nat} (h : cntR bs a = (k, b, e)) : (e ≠ 0 → ddec.ddecB bs L a = ([], e)) ∧ (e = 0 → ddec.ddecB bs L a = ddec.ddecC L (bs.drop b.toNat) k ∧ vget bs a = (k, b, 0) ∧ k ≤ 4096) := by
  rcases h1 : vget bs a with ⟨k1, n1, e1⟩
  by_cases he1 : e1 = 0
  · subst he1
    by_cases hk : 4096 < k1
    · rw [cntR_long h1 hk] at h
      injection h with _ h
      injection h with _ h
      subst h
      exact ⟨fun _ => ddecB_long h1 hk, fun q => absurd q (by decide)⟩
    · rw [cntR_yes h1 (by omega)] at h
      injection h with q1 h
      injection h with q2 h
      subst q1 q2 h
      exact ⟨fun q => absurd rfl q, fun _ => ⟨ddecB_go h1 (by omega), rfl, by omega⟩⟩
  · rw [cntR_err h1 he1] at h
    injection h with _ h
    injection h with _ h
    subst h
    exact ⟨fun _ => ddecB_err h1 he1, fun q => absurd q he1⟩
theorem unpL_len10 {N len : Nat} {wd cnt : Int} (h : unpE N len wd cnt = 0) : (unpL N len wd cnt).length = cnt.toNat := by
  rw [unp_ok h, upk_len]
theorem unpL_u6410 {N len : Nat} {wd cnt : Int} (h : unpE N len wd cnt = 0) (hw : wd ≤ 64) : U64 (unpL N len wd cnt) := by
  intro v hv
  rw [unp_ok h] at hv
  have h1 : v < 2 ^ wd.toNat := upk_wd wd.toNat cnt.toNat N v hv
  exact Nat.lt_of_lt_of_le h1 (show 2 ^ wd.toNat ≤ 2 ^ 64 from Nat.pow_le_pow_right (by decide) (by omega))
theorem Txts.mono10 {w : World} {base base' : Nat} {ts : List Sl} (h : Txts w base ts) (hb : base' ≤ base) : Txts w base' ts := ⟨fun s hs => (h.own s hs).mono hb, h.apart⟩
structure DTd (w wr : World) (A : Option Addr) (c : Nat) (ts : List Sl) : Prop where
  row : OwnT wr w.heap.size A c ts
  txt : Txts wr w.heap.size ts
  ext : Ext w wr
theorem DTd.snoc {w wr w1 w2 : World} {A A1 : Option Addr} {c c1 : Nat} {ts : List Sl} {s : Sl} (h : DTd w wr A c ts) (hs : Own .u8 5 w1 wr.heap.size s.A s.c s.body) (he1 : Ext wr w1) (hrow : OwnT w2 w.heap.size A1 c1 (ts ++ [s]))
    (hg : (w1.alloc (.cells #[.slice s.A s.body.length s.c] 22)).grownBy w2 (Value.slice A ts.length c).ownBlock) (hb : Below w.heap.size w w2) : DTd w w2 A1 c1 (ts ++ [s]) := by
  have hX : Ext w1 (w1.alloc (.cells #[.slice s.A s.body.length s.c] 22)) := (Ext.refl _).alloc _
  have h2 : Txts w1 w.heap.size (ts ++ [s]) := (h.txt.ext he1).snoc hs h.ext.size (fun t ht p hp => h.txt.lt t ht p hp)
  exact ⟨hrow, (h2.ext hX).grown ((h.row.ext he1).ext hX) hg, hb⟩
theorem txtsOf_snoc (L : List (List Nat)) (us : List Nat) (u : Nat) : txtsOf L (us ++ [u]) = txtsOf L us ++ [L.getD u []] := by unfold txtsOf; rw [List.map_append]; rfl
set_option maxHeartbeats 3200000 in
set_option maxRecDepth 100000 in
theorem ddecode_any (A : Option Addr) (n c : Nat) (bs : List Nat) (w : World) (hx : Rd .u8 w A n bs) (hu : U8 bs) (hn : n ≤ 140737488351232) (hcap : n ≤ c) (hcm : c ≤ 9223372036854775807) :
    Calls Tryz.prog 158 #[.slice A n c] w (TxtsPost (ddec bs) w) := by
  have hbl := hx.len
  have G1 := getEntries_any A n c bs w hx hu (by omega) hcap hcm
  rcases g1 : entR bs with ⟨L, a, e1⟩
  rw [g1] at G1
  have HG1 := Lib.hid G1
  obtain ⟨k1, k2⟩ := ddec_by g1
  by_cases z1 : e1 = 0
  · subst z1
    have hdd := k2 rfl
    obtain ⟨a1, a2, hL4, _, hLs⟩ := entR_ok hu g1
    rw [hbl] at a2
    obtain ⟨m1, rfl⟩ := Int.eq_ofNat_of_zero_le a1
    have HG2 := Lib.hid (fun (W : World) (hW : Ext w W) => getCount_any A n c (m1 : Int) bs W (hx.ext hW) hu (by omega) hcap hcm)
    rcases g2 : cntR bs ((m1 : Nat) : Int) with ⟨k, b, e2⟩
    rw [g2] at HG2
    obtain ⟨k3, k4⟩ := ddecB_by (L := L) g2
    by_cases z2 : e2 = 0
    · subst z2
      obtain ⟨k5, k6, k7⟩ := k4 rfl
      obtain ⟨_, b1, b2, _, _⟩ := vget_at hu k6
      rw [hbl] at b2
      obtain ⟨m2, rfl⟩ := Int.eq_ofNat_of_zero_le (show 0 ≤ b by omega)
      rw [Int.toNat_natCast] at k5
      obtain ⟨m, hm⟩ : ∃ m, m = L.length := ⟨_, rfl⟩
      have hr := hx.offA (k := m2) (m := c) (by omega) hcap
      have sl := run_from A n c m2 (by omega)
      obtain ⟨A9, hA9⟩ : ∃ A9, A9 = offA A m2 c := ⟨_, rfl⟩
      rw [← hA9] at hr sl
      obtain ⟨r, hre⟩ : ∃ r, r = bs.drop m2 := ⟨_, rfl⟩
      rw [← hre] at hr k5
      have hrl : r.length = n - m2 := hr.len
      have hru : U8 r := by rw [hre]; exact u8_drop hu _
      have HU := Lib.hid (fun (W : World) (cc : Nat) (hW : Ext w W) => unpack_any A9 (n - m2) cc (wfor m : Int) (k : Int) r W (hr.ext hW) hru (by omega))
      have hCe : ∀ e3, unpE (pk 8 r) (n - m2) (wfor m : Int) (k : Int) = e3 → e3 ≠ 0 → ddec bs = ([], e3) := fun e3 h h0 => by
        rw [← hrl, hm] at h
        rw [hdd, k5, ddecC_err (by rw [h]; exact h0), h]
      have hCf : unpE (pk 8 r) (n - m2) (wfor m : Int) (k : Int) = 0 → ∀ us, unpL (pk 8 r) (n - m2) (wfor m : Int) (k : Int) = us → meant us m = false → ddec bs = ([], 5) := fun h us h2 h3 => by
        rw [← hrl, hm] at h h2
        rw [hm] at h3
        rw [hdd, k5, ddecC_form h h2 h3]
      have hCy : unpE (pk 8 r) (n - m2) (wfor m : Int) (k : Int) = 0 → ∀ us, unpL (pk 8 r) (n - m2) (wfor m : Int) (k : Int) = us → meant us m = true → ddec bs = (txtsOf L us, 0) := fun h us h2 h3 => by
        rw [← hrl, hm] at h h2
        rw [hm] at h3
        rw [hdd, k5, ddecC_yes h h2 h3]
      obtain ⟨R, hR⟩ : ∃ R, R = ddec bs := ⟨_, rfl⟩
      rw [← hR] at hCe hCf hCy ⊢
      obtain ⟨e3, hE3⟩ : ∃ e3, e3 = unpE (pk 8 r) (n - m2) (wfor m : Int) (k : Int) := ⟨_, rfl⟩
      obtain ⟨us, huse⟩ : ∃ us, us = unpL (pk 8 r) (n - m2) (wfor m : Int) (k : Int) := ⟨_, rfl⟩
      have hwf := wfor_le hL4
      rw [← hm] at hwf hL4
      have hul : e3 = 0 → us.length = k := fun h => by rw [huse, unpL_len10 (by rw [← hE3]; exact h), Int.toNat_natCast]
      have huu : e3 = 0 → U64 us := fun h => by rw [huse]; exact unpL_u6410 (by rw [← hE3]; exact h) (by omega)
      have hnil : e3 ≠ 0 → us = [] := fun h => by rw [huse]; exact unp_err hE3.symm h
      unfold UnpPost at HU
      rw [← hE3] at hCe hCf hCy HU
      rw [← huse] at hCf hCy HU
      have Hm := Lib.hid hm
      have HLs := Lib.hid hLs
      clear hx hu g1 hbl k1 k2 G1 hdd a1 a2 k3 k4 k5 k6 b1 b2 hr hA9 hre hrl hru hE3 huse hm hLs g2
      by_cases z3 : e3 = 0
      · subst z3
        have hul2 := hul rfl
        have huu2 := huu rfl
        clear hul huu hnil hCe
        rw [hul2] at HU
        by_cases hmn : meant us m = true
        · have HC := Lib.hid (hCy rfl us rfl hmn)
          have Hmn := Lib.hid hmn
          have HM := Lib.hid (fun (B : Option Addr) (cB : Nat) (W : World) (hB : Rd .u64 W B k us) => allMeant_any B k cB m us W hB (by omega) (by omega) huu2)
          rw [hmn] at HM
          have Hul := Lib.hid hul2
          have Huu := Lib.hid huu2
          clear hCf hCy hmn hul2 huu2
          go_enter Tryz.func158, Tryz.ntmps158
          go_wp2_with fail
          refine HG1.out.mono ?_
          rintro e w1 ⟨A1, c1, us1, rfl, hb1, hd⟩
          simp only at hb1 hd ⊢
          rw [show us1.length = m by rw [Hm.out, ← hb1, bodies_len]]
          have Hd := Lib.hid hd
          have Hb1 := Lib.hid hb1
          clear hd hb1
          go_wp2_with fail
          refine (HG2.out _ Hd.out.ext).mono ?_
          rintro e w2 ⟨rfl, rfl⟩
          simp only
          go_wp2_with fail
          go_region_held3 (fun _ => True) (exact trivial) (first
            | (go_at_call 178; refine (widthFor_any m _ (by omega)).mono ?_; rintro e w3 ⟨rfl, he3⟩)
            | (go_at_call 154; refine (HU.out _ _ (by focus ((repeat (first | exact Hd.out.ext | (with_reducible refine Ext.trans ?_ he3) | (with_reducible apply Ext.drew) | (with_reducible apply Ext.alloc) | fail)); done))).mono ?_; rintro e w4 ⟨A4, c4, rfl, hown4, he4⟩)
            | fail)
          have hE4 : Ext w2 w4 := by focus ((repeat (first | (with_reducible exact Ext.refl _) | (with_reducible refine Ext.trans ?_ he4) | (with_reducible refine Ext.trans ?_ he3) | (with_reducible apply Ext.drew) | (with_reducible apply Ext.alloc) | fail)); done)
          have hu4 := hown4.rd' Hul.out
          clear hown4 he4 he3
          have HE4 := Lib.hid hE4
          clear hE4
          go_wp2_with fail
          refine (HM.out A4 c4 _ hu4).mono ?_
          rintro e w5 ⟨rfl, he5⟩
          have HE5 := Lib.hid (HE4.out.trans he5)
          have Hu5 := Lib.hid (hu4.ext he5)
          clear he5 hu4 HE4 HM
          go_wp2_with fail
          have hrow5 := (Hd.out.row.ext HE5.out).rdL
          have Hrow5 := Lib.hid hrow5
          clear hrow5
          go_loopw [9, 11, 52] (fun v _ i wr => ∃ (j : Nat) (ts : List Sl) (A' : Option Addr) (c' : Nat), j ≤ k ∧ i = .int .i64 j ∧ v = .slice A' j c' ∧ Hid (ts.length = j) ∧ Hid (bodies ts = txtsOf L (us.take j)) ∧ Hid (DTd w5 wr A' c' ts)) (fun _ _ i _ => k - (intOf i).toNat)
          case atStart => exact ⟨0, [], none, 0, Nat.zero_le _, rfl, rfl, rfl, rfl, ⟨OwnG.nil .., Txts.nil .., Ext.refl _⟩⟩
          case round =>
            obtain ⟨j, ts, A', c', hj, rfl, rfl, Hl, Hbs, HD⟩ := hrel
            by_cases hlt : j < k
            · obtain ⟨b, o, rfl, hbb, hc⟩ := (Hu5.out.ext HD.out.ext).at_ hlt
              have hvs : us[j]? = some (us.getD j 0) := by simp [List.getD, show j < us.length by rw [Hul.out]; exact hlt]
              have hv := Huu.out _ (List.mem_of_getElem? hvs)
              have htk : us.take (j + 1) = us.take j ++ [us.getD j 0] := take_nextG us j hvs
              have hum := (meant_iff.1 Hmn.out).1 _ (List.mem_of_getElem? hvs)
              obtain ⟨u, hue⟩ : ∃ u, u = us.getD j 0 := ⟨_, rfl⟩
              rw [← hue] at hc hv htk hum
              have hu1l : us1.length = m := by rw [Hm.out, ← Hb1.out, bodies_len]
              obtain ⟨b', o', t, hA1, hf, hc'⟩ := (Hrow5.out.ext HD.out.ext).at_ (j := u) (by rw [hu1l]; exact hum)
              have hmt := List.mem_of_getElem? hf
              have hrt := ((Hd.out.rd t hmt).ext (Hd.out.ext.trans HE5.out)).ext HD.out.ext
              have hlt2 := Hd.out.len t hmt
              have htb : L.getD u [] = t.body := by rw [← Hb1.out, bodies_get hf]
              obtain ⟨tA, tc, tb⟩ := t
              simp only at hc' hrt htb hlt2
              subst hA1
              have HN := Lib.hid (show ∀ (A6 : Option Addr) (c6 : Nat), bodies (ts ++ [⟨A6, c6, tb⟩]) = txtsOf L (us.take (j + 1)) by
                intro A6 c6
                rw [htk, txtsOf_snoc, htb, ← Hbs.out]; unfold bodies; rw [List.map_append]; rfl)
              obtain ⟨tl, htl⟩ : ∃ tl, tl = tb.length := ⟨_, rfl⟩
              rw [← htl] at hc' hrt hlt2
              have Htl := Lib.hid htl
              have HC5 := Lib.hid (clone10_any tA tl tc tb wr hrt (by omega))
              clear htl hmt hf hvs hue htk htb hrt
              go_wp2_with fail
              refine HC5.out.mono ?_
              rintro e w6 ⟨A6, c6, rfl, hown6, he6⟩
              rw [Htl.out]
              go_wp2_with (at_builtin; refine wpList_pushT (w0 := w5) ⟨A6, c6, tb⟩ rfl _ _ rfl ((HD.out.row.ext he6).ext ((Ext.refl _).alloc _)) j Hl.out rfl rfl (heap_alloc_new _ _) (by omega) (Ext.trans (HD.out.ext.trans he6) ((Ext.refl _).alloc _)) (by have := (HD.out.ext.trans he6).size; simp; omega) ?_; intro A7 c7 w7 hown7 hg7 hb7 hz7)
              have HD7 := Lib.hid (HD.out.snoc (s := ⟨A6, c6, tb⟩) hown6 he6 hown7 (by rw [Hl.out]; exact hg7) hb7)
              clear hown6 hown7 hg7 hb7
              go_wp2_with fail
              go_roundw
              case rel => exact ⟨j + 1, _, A7, c7, by omega, by go_num, by go_num, by rw [List.length_append, Hl.out]; rfl, HN.out _ _, HD7.out⟩
              case measure => simp [intOf]; omega
            · obtain rfl : j = k := by omega
              have hR : R = (bodies ts, 0) := by rw [HC.out, Hbs.out, List.take_of_length_le (by rw [Hul.out]; exact Nat.le_refl _)]
              have HR := Lib.hid hR
              clear hR
              go_wp2_with fail
              go_ret2
              have h5 : w.heap.size ≤ w5.heap.size := (Hd.out.ext.trans HE5.out).size
              exact TxtsPost.good _ HR.out Hl.out (HD.out.row.mono h5) (HD.out.txt.mono10 h5) ((Hd.out.ext.trans HE5.out).trans HD.out.ext)
        · have hmn2 : meant us m = false := by
            cases q : meant us m with
            | true => exact absurd q hmn
            | false => rfl
          have HC := Lib.hid (hCf rfl us rfl hmn2)
          have HM := Lib.hid (fun (B : Option Addr) (cB : Nat) (W : World) (hB : Rd .u64 W B k us) => allMeant_any B k cB m us W hB (by omega) (by omega) huu2)
          rw [hmn2] at HM
          have Hul := Lib.hid hul2
          clear hCf hCy hmn hul2 huu2 hmn2
          go_enter Tryz.func158, Tryz.ntmps158
          go_wp2_with fail
          refine HG1.out.mono ?_
          rintro e w1 ⟨A1, c1, us1, rfl, hb1, hd⟩
          simp only at hb1 hd ⊢
          rw [show us1.length = m by rw [Hm.out, ← hb1, bodies_len]]
          have Hd := Lib.hid hd
          clear hd hb1
          go_wp2_with fail
          refine (HG2.out _ Hd.out.ext).mono ?_
          rintro e w2 ⟨rfl, rfl⟩
          simp only
          go_wp2_with fail
          go_region_held3 (fun _ => True) (exact trivial) (first
            | (go_at_call 178; refine (widthFor_any m _ (by omega)).mono ?_; rintro e w3 ⟨rfl, he3⟩)
            | (go_at_call 154; refine (HU.out _ _ (by focus ((repeat (first | exact Hd.out.ext | (with_reducible refine Ext.trans ?_ he3) | (with_reducible apply Ext.drew) | (with_reducible apply Ext.alloc) | fail)); done))).mono ?_; rintro e w4 ⟨A4, c4, rfl, hown4, he4⟩)
            | fail)
          have hE4 : Ext w2 w4 := by focus ((repeat (first | (with_reducible exact Ext.refl _) | (with_reducible refine Ext.trans ?_ he4) | (with_reducible refine Ext.trans ?_ he3) | (with_reducible apply Ext.drew) | (with_reducible apply Ext.alloc) | fail)); done)
          have hu4 := hown4.rd' Hul.out
          clear hown4 he4 he3
          have HE4 := Lib.hid hE4
          clear hE4
          go_wp2_with fail
          refine (HM.out A4 c4 _ hu4).mono ?_
          rintro e w5 ⟨rfl, he5⟩
          have HE5 := Lib.hid (Hd.out.ext.trans (HE4.out.trans he5))
          clear he5 hu4 HE4 HM
          go_wp2_with fail
          go_ret2
          exact TxtsPost.bad _ HC.out HE5.out
      · have HC := Lib.hid (hCe _ rfl z3)
        have hb3 : (e3 != 0) = true := by rw [bne_iff_ne]; exact z3
        rw [hnil z3] at HU
        clear hCf hCy hul huu hnil hCe
        go_enter Tryz.func158, Tryz.ntmps158
        go_wp2_with fail
        refine HG1.out.mono ?_
        rintro e w1 ⟨A1, c1, us1, rfl, hb1, hd⟩
        simp only at hb1 hd ⊢
        rw [show us1.length = m by rw [Hm.out, ← hb1, bodies_len]]
        have Hd := Lib.hid hd
        clear hd hb1
        go_wp2_with fail
        refine (HG2.out _ Hd.out.ext).mono ?_
        rintro e w2 ⟨rfl, rfl⟩
        simp only
        go_wp2_with fail
        go_region_held3 (fun _ => True) (exact trivial) (first
          | (go_at_call 178; refine (widthFor_any m _ (by omega)).mono ?_; rintro e w3 ⟨rfl, he3⟩)
          | (go_at_call 154; refine (HU.out _ _ (by focus ((repeat (first | exact Hd.out.ext | (with_reducible refine Ext.trans ?_ he3) | (with_reducible apply Ext.drew) | (with_reducible apply Ext.alloc) | fail)); done))).mono ?_; rintro e w4 ⟨A4, c4, rfl, hown4, he4⟩)
          | fail)
        have hE4 : Ext w2 w4 := by focus ((repeat (first | (with_reducible exact Ext.refl _) | (with_reducible refine Ext.trans ?_ he4) | (with_reducible refine Ext.trans ?_ he3) | (with_reducible apply Ext.drew) | (with_reducible apply Ext.alloc) | fail)); done)
        clear hown4 he4 he3
        have HE5 := Lib.hid (Hd.out.ext.trans hE4)
        clear hE4
        go_wp2_with fail
        go_ret2
        exact TxtsPost.bad _ HC.out HE5.out
    · have HE := Lib.hid (hdd.trans (k3 z2))
      have hb1 : (e2 != 0) = true := by rw [bne_iff_ne]; exact z2
      have Hm := Lib.hid hLs
      clear hx hu g1 hbl k1 k2 G1 hdd a1 a2 k3 k4 g2 hLs
      go_enter Tryz.func158, Tryz.ntmps158
      go_wp2_with fail
      refine HG1.out.mono ?_
      rintro e w1 ⟨A1, c1, us, rfl, _, hd⟩
      have He := Lib.hid hd.ext
      simp only
      clear hd
      go_wp2_with fail
      refine (HG2.out _ He.out).mono ?_
      rintro e w2 ⟨rfl, rfl⟩
      simp only
      go_wp2_with fail
      go_ret2
      exact TxtsPost.bad _ HE.out He.out
  · have HE := Lib.hid (k1 z1)
    have hb1 : (e1 != 0) = true := by rw [bne_iff_ne]; exact z1
    clear hx hu g1 hbl k1 k2 G1
    go_enter Tryz.func158, Tryz.ntmps158
    go_wp2_with fail
    refine HG1.out.mono ?_
    rintro e w1 ⟨A1, c1, us, rfl, _, hd⟩
    have He := Lib.hid hd.ext
    simp only
    clear hd
    go_wp2_with fail
    go_ret2
    exact TxtsPost.bad _ HE.out He.out
structure DTx (w wr : World) (A : Option Addr) (c : Nat) (ts : List Sl) : Prop where
  row : OwnT wr w.heap.size A c ts
  txt : Txts wr w.heap.size ts
  ext : Ext w wr
  len : ∀ t ∈ ts, t.body.length ≤ 200
  u8 : ∀ t ∈ ts, U8 t.body
theorem DTx.snoc {w wr w1 w2 : World} {A A1 : Option Addr} {c c1 : Nat} {ts : List Sl} {s : Sl} (h : DTx w wr A c ts) (hs : Own .u8 5 w1 wr.heap.size s.A s.c s.body) (he1 : Ext wr w1) (hrow : OwnT w2 w.heap.size A1 c1 (ts ++ [s]))
    (hg : (w1.alloc (.cells #[.slice s.A s.body.length s.c] 22)).grownBy w2 (Value.slice A ts.length c).ownBlock) (hb : Below w.heap.size w w2) (hl : s.body.length ≤ 200) (hu : U8 s.body) : DTx w w2 A1 c1 (ts ++ [s]) := by
  have hX : Ext w1 (w1.alloc (.cells #[.slice s.A s.body.length s.c] 22)) := (Ext.refl _).alloc _
  have h2 : Txts w1 w.heap.size (ts ++ [s]) := (h.txt.ext he1).snoc hs h.ext.size (fun t ht p hp => h.txt.lt t ht p hp)
  refine ⟨hrow, (h2.ext hX).grown ((h.row.ext he1).ext hX) hg, hb, ?_, ?_⟩
  · intro t ht
    rcases List.mem_append.1 ht with h1 | h1
    · exact h.len t h1
    · simp at h1; subst h1; exact hl
  · intro t ht
    rcases List.mem_append.1 ht with h1 | h1
    · exact h.u8 t h1
    · simp at h1; subst h1; exact hu
set_option maxHeartbeats 1600000 in
set_option maxRecDepth 100000 in
theorem pdecode11_any (A : Option Addr) (n c : Nat) (bs : List Nat) (w : World) (hx : Rd .u8 w A n bs) (hu : U8 bs) (hn : n ≤ 140737488355328) (hcap : n ≤ c) (hcm : c ≤ 9223372036854775807) :
    Calls Tryz.prog 159 #[.slice A n c] w (TxtsPost (pdec bs) w) := by
  have hbl := hx.len
  rcases g1 : vget bs 0 with ⟨k, n1, e1⟩
  have G1 := Lib.hid (get_is hx hu hn hcap hcm g1)
  by_cases z1 : e1 = 0
  · subst z1
    obtain ⟨a1, a2, a3, a4, _⟩ := vget_at hu g1
    rw [hbl] at a3
    obtain ⟨m1, rfl⟩ := Int.eq_ofNat_of_zero_le (show 0 ≤ n1 by omega)
    by_cases hk : 4096 < k
    · have HR := Lib.hid (pdec_long g1 hk)
      clear hx hu hbl g1 a1 a2 a3
      go_enter Tryz.func159, Tryz.ntmps159
      go_wp2_with fail
      refine G1.out.mono ?_
      rintro e w1 ⟨rfl, rfl⟩
      go_wp2_with fail
      go_ret2
      exact TxtsPost.bad _ HR.out (Ext.refl _)
    · have hk2 : k ≤ 4096 := by omega
      obtain ⟨R, hR⟩ : ∃ R, R = pdec bs := ⟨_, rfl⟩
      have HR := Lib.hid (show pdA bs (k - 0) (m1 : Int) (bodies []) = R by rw [hR, pdec_go g1 hk2]; rfl)
      rw [← hR]
      have Hbl := Lib.hid hbl
      have Hx := Lib.hid hx
      have Hu := Lib.hid hu
      clear hR g1 hbl hx hu a1 a2
      have hm1 : m1 ≤ n := by omega
      go_enter Tryz.func159, Tryz.ntmps159
      go_wp2_with fail
      refine G1.out.mono ?_
      rintro e w1 ⟨rfl, rfl⟩
      go_wp2_with fail
      go_loopw [5, 7, 8, 9, 10, 11, 12, 26] (fun at_ v _ _ _ _ _ i wr => ∃ (j a : Nat) (ts : List Sl) (A' : Option Addr) (c' : Nat), j ≤ k ∧ i = .int .i64 j ∧ a ≤ n ∧ at_ = .int .i64 a ∧ v = .slice A' j c' ∧ Hid (ts.length = j) ∧ Hid (pdA bs (k - j) a (bodies ts) = R) ∧ Hid (DTx w1 wr A' c' ts)) (fun _ _ _ _ _ _ _ i _ => k - (intOf i).toNat)
      case atStart => exact ⟨0, m1, [], none, 0, Nat.zero_le _, rfl, hm1, rfl, rfl, rfl, HR.out, ⟨OwnG.nil .., Txts.nil .., Ext.refl _, fun t ht => (by cases ht), fun t ht => (by cases ht)⟩⟩
      case round =>
        clear HR
        obtain ⟨j, a, ts, A', c', hj, rfl, ha, rfl, rfl, Hl, HR, HD⟩ := hrel
        by_cases hlt : j < k
        · obtain ⟨q, hq⟩ : ∃ q, k - j = q + 1 := ⟨k - j - 1, by omega⟩
          have Hq2 := Lib.hid (show k - (j + 1) = q by omega)
          have Hq := Lib.hid hq
          clear hq
          have hua : U8 (ahead (bodies ts)) := ahead_u8 (fun s hs => by
            obtain ⟨t, ht, rfl⟩ := List.mem_map.1 hs
            exact HD.out.u8 t ht)
          have Hua := Lib.hid hua
          have hbt : (bodies ts).length = j := by rw [bodies_len, Hl.out]
          rcases hg : ptx bs a (ahead (bodies ts)) with ⟨s, m, e⟩
          have Hg := Lib.hid hg
          clear hua
          by_cases hw16 : j % 16 = 0
          · have hd : decide (j % 16 = 0) = true := decide_eq_true hw16
            have hah : ahead (bodies ts) = [] := ahead_whole (by rw [hbt]; exact hw16)
            have HG := Lib.hid (fun W (hW : Ext wr W) => pgetText_any A n c a none 0 0 bs [] W ((Hx.out.ext HD.out.ext).ext hW) Hu.out hn hcap hcm (Rd.nil ..) (by omega) (by omega))
            rw [← hah, hg] at HG
            clear hg hah hbt
            go_wp2_with fail
            refine (isWhole_any j _ (by omega)).mono ?_
            rintro e' w2 ⟨rfl, rfl⟩
            rw [hd]
            go_wp2_with fail
            refine (HG.out _ (Ext.refl _)).mono ?_
            rintro e' w3 ⟨A3, c3, rfl, hown3, he3⟩
            by_cases he0 : e = 0
            · subst he0
              obtain ⟨b1, b2, b3, b4, b5, _⟩ := ptx_ok Hu.out Hua.out Hg.out
              rw [Hbl.out] at b3
              obtain ⟨m', rfl⟩ := Int.eq_ofNat_of_zero_le (show 0 ≤ m by omega)
              have HN := Lib.hid (show pdA bs (k - (j + 1)) (m' : Int) (bodies (ts ++ [⟨A3, c3, s⟩])) = R by
                rw [Hq2.out, ← HR.out, Hq.out, pdA_next Hg.out]; unfold bodies; rw [List.map_append]; rfl)
              have Hb4 := Lib.hid b4
              have Hb5 := Lib.hid b5
              have hm' : m' ≤ n := by omega
              clear b1 b2 b3 b4 b5
              go_wp2_with (at_builtin; refine wpList_pushT (w0 := w1) ⟨A3, c3, s⟩ rfl _ _ rfl ((HD.out.row.ext he3).ext ((Ext.refl _).alloc _)) (j) Hl.out rfl rfl (heap_alloc_new _ _) (by omega) (Ext.trans (HD.out.ext.trans he3) ((Ext.refl _).alloc _)) (by have := (HD.out.ext.trans he3).size; simp; omega) ?_; intro A4 c4 w4 hown4 hg4 hb4 hz4)
              rw [← Hl.out] at hg4
              have HD4 := Lib.hid (HD.out.snoc (s := ⟨A3, c3, s⟩) hown3 he3 hown4 hg4 hb4 Hb4.out Hb5.out)
              clear hg4 hown4
              go_wp2_with fail
              go_roundw
              case rel => exact ⟨j + 1, m', _, A4, c4, by omega, by go_num, hm', rfl, by go_num, by rw [List.length_append, Hl.out]; rfl, HN.out, HD4.out⟩
              case measure => simp [intOf]; omega
            · have hb1 : (e != 0) = true := by rw [bne_iff_ne]; exact he0
              have HE := Lib.hid (show R = ([], e) by rw [← HR.out, Hq.out, pdA_err Hg.out he0])
              have He := Lib.hid (HD.out.ext.trans he3)
              go_wp2_with fail
              go_ret2
              exact TxtsPost.bad _ HE.out He.out
          · have hd : decide (j % 16 = 0) = false := decide_eq_false hw16
            obtain ⟨p, rfl⟩ : ∃ p, j = p + 1 := ⟨j - 1, by omega⟩
            obtain ⟨b, o, t, rfl, hf, hc⟩ := HD.out.row.rdL.at_ (j := p) (by rw [Hl.out]; omega)
            have hmt := List.mem_of_getElem? hf
            have hah : ahead (bodies ts) = t.body := by rw [ahead_not (by rw [hbt]; exact hw16), hbt, Nat.add_sub_cancel, bodies_get hf]
            have HG := Lib.hid (fun W (hW : Ext wr W) => pgetText_any A n c a t.A t.body.length t.c bs t.body W ((Hx.out.ext HD.out.ext).ext hW) Hu.out hn hcap hcm ((HD.out.txt.rd t hmt).ext hW) (HD.out.len t hmt) (HD.out.txt.own t hmt).cap.1)
            rw [← hah, hg] at HG
            obtain ⟨tA, tc, tb⟩ := t
            simp only at hc HG hah
            rw [hah] at HG
            clear hg hah hbt hf hmt
            obtain ⟨tl, htl⟩ : ∃ tl, tl = tb.length := ⟨_, rfl⟩
            rw [← htl] at hc HG
            clear htl
            go_wp2_with fail
            refine (isWhole_any (p + 1) _ (by omega)).mono ?_
            rintro e' w2 ⟨rfl, rfl⟩
            rw [hd]
            go_wp2_with fail
            refine (HG.out _ (Ext.refl _)).mono ?_
            rintro e' w3 ⟨A3, c3, rfl, hown3, he3⟩
            by_cases he0 : e = 0
            · subst he0
              obtain ⟨b1, b2, b3, b4, b5, _⟩ := ptx_ok Hu.out Hua.out Hg.out
              rw [Hbl.out] at b3
              obtain ⟨m', rfl⟩ := Int.eq_ofNat_of_zero_le (show 0 ≤ m by omega)
              have HN := Lib.hid (show pdA bs (k - (p + 1 + 1)) (m' : Int) (bodies (ts ++ [⟨A3, c3, s⟩])) = R by
                rw [Hq2.out, ← HR.out, Hq.out, pdA_next Hg.out]; unfold bodies; rw [List.map_append]; rfl)
              have Hb4 := Lib.hid b4
              have Hb5 := Lib.hid b5
              have hm' : m' ≤ n := by omega
              clear b1 b2 b3 b4 b5
              go_wp2_with (at_builtin; refine wpList_pushT (w0 := w1) ⟨A3, c3, s⟩ rfl _ _ rfl ((HD.out.row.ext he3).ext ((Ext.refl _).alloc _)) (p + 1) Hl.out rfl rfl (heap_alloc_new _ _) (by omega) (Ext.trans (HD.out.ext.trans he3) ((Ext.refl _).alloc _)) (by have := (HD.out.ext.trans he3).size; simp; omega) ?_; intro A4 c4 w4 hown4 hg4 hb4 hz4)
              rw [← Hl.out] at hg4
              have HD4 := Lib.hid (HD.out.snoc (s := ⟨A3, c3, s⟩) hown3 he3 hown4 hg4 hb4 Hb4.out Hb5.out)
              clear hg4 hown4
              go_wp2_with fail
              go_roundw
              case rel => exact ⟨p + 1 + 1, m', _, A4, c4, by omega, by go_num, hm', rfl, by go_num, by rw [List.length_append, Hl.out]; rfl, HN.out, HD4.out⟩
              case measure => simp [intOf]; omega
            · have hb1 : (e != 0) = true := by rw [bne_iff_ne]; exact he0
              have HE := Lib.hid (show R = ([], e) by rw [← HR.out, Hq.out, pdA_err Hg.out he0])
              have He := Lib.hid (HD.out.ext.trans he3)
              go_wp2_with fail
              go_ret2
              exact TxtsPost.bad _ HE.out He.out
        · obtain rfl : j = k := by omega
          have hR := HR.out
          rw [Nat.sub_self] at hR
          by_cases hat : a < n
          · have HR := Lib.hid (show R = ([], 3) by rw [← hR, pdA_trail (by rw [Hbl.out]; omega)])
            have He := Lib.hid HD.out.ext
            clear hR
            go_wp2_with fail
            go_ret2
            exact TxtsPost.bad _ HR.out He.out
          · have HR := Lib.hid (show R = (bodies ts, 0) by rw [← hR, pdA_end (by rw [Hbl.out]; omega)])
            clear hR
            go_wp2_with fail
            go_ret2
            exact TxtsPost.good _ HR.out Hl.out HD.out.row HD.out.txt HD.out.ext
  · have HR := Lib.hid (pdec_err g1 z1)
    have hb1 : (e1 != 0) = true := by rw [bne_iff_ne]; exact z1
    clear hx hu hbl g1
    go_enter Tryz.func159, Tryz.ntmps159
    go_wp2_with fail
    refine G1.out.mono ?_
    rintro e w1 ⟨rfl, rfl⟩
    go_wp2_with fail
    go_ret2
    exact TxtsPost.bad _ HR.out (Ext.refl _)
theorem OwnX.mono {w : World} {base base' c : Nat} {A : Option Addr} {xs : List Ci} (h : OwnX w base A c xs) (hb : base' ≤ base) : OwnX w base' A c xs := by
  refine ⟨h.1, ?_⟩
  rcases h.2 with hn | ⟨g, cap, cur, hv, hg, r⟩
  · exact Or.inl hn
  · exact Or.inr ⟨g, cap, cur, hv, Nat.le_trans hb hg, r⟩
theorem TxtX.mono {w : World} {base base' : Nat} {xs : List Ci} (h : TxtX w base xs) (hb : base' ≤ base) : TxtX w base' xs := ⟨fun f hf => (h.1 f hf).mono hb, h.2⟩
theorem OwnX.far {w w' : World} {base c b : Nat} {A : Option Addr} {xs : List Ci} (h : OwnX w base A c xs) (hg : w.grownBy w' (some b)) (hb : b < base) : OwnX w' base A c xs := by
  refine World.ownsRow.kept h hg ?_
  cases A with
  | none => exact Or.inl rfl
  | some a =>
    refine Or.inr (fun e => ?_)
    have h1 := (World.ownsRow.lt h a.block rfl).1
    simp [Value.ownBlock] at e
    omega
theorem TxtX.far {w w' : World} {base b : Nat} {xs : List Ci} (h : TxtX w base xs) (hg : w.grownBy w' (some b)) (hb : b < base) : TxtX w' base xs := ⟨fun f hf => (h.1 f hf).far hg hb, h.2⟩
structure AsideK (w0 wr : World) (A A2 A3 A' : Option Addr) (n c' c0 j base : Nat) (sx xs ys : List Nat) : Prop where
  own : Own .u8 5 wr base A' c' ys
  len : ys.length = n + j
  pre : ys.take n = sx
  rd1 : Rd .u8 wr A n sx
  rd2 : Rd .u8 wr A2 n xs
  rd3 : Rd .u8 wr A3 n xs
  ne1 : 0 < n → ∀ a a1, A' = some a → A = some a1 → a1 = a ∨ a1.block ≠ a.block
  ne2 : 0 < n → ∀ a a2, A' = some a → A2 = some a2 → a2.block ≠ a.block
  ne3 : 0 < n → ∀ a a3, A' = some a → A3 = some a3 → a3.block ≠ a.block
  kept : Kept w0 wr [⟨A, c0, xs⟩]
  home : ∀ a, A' = some a → (∃ p, A = some p ∧ p.block = a.block) ∨ w0.heap.size ≤ a.block
  size : base ≤ wr.heap.size
theorem AsideK.push {w0 wr w1 : World} {A A2 A3 A' A1 : Option Addr} {n c' c0 c1 j base : Nat} {sx xs ys : List Nat} (h : AsideK w0 wr A A2 A3 A' n c' c0 j base sx xs ys) {x : Nat}
    (ho : Own .u8 5 w1 base A1 c1 (ys ++ [x])) (hw : A1 = A' ∧ wr.grownBy w1 (A'.map (·.block)) ∨ Ext wr w1 ∧ ∀ q, A1 = some q → wr.heap.size ≤ q.block) (hz : base ≤ w1.heap.size) :
    AsideK w0 w1 A A2 A3 A1 n c1 c0 (j + 1) base sx xs (ys ++ [x]) := by
  have hp : (ys ++ [x]).take n = sx := by rw [List.take_append_of_le_length (by have := h.len; omega)]; exact h.pre
  rcases hw with ⟨rfl, hg⟩ | ⟨he, hq⟩
  · have hne : ∀ {X : Option Addr}, (0 < n → ∀ a a2, A1 = some a → X = some a2 → a2.block ≠ a.block) → 0 < n → ∀ a, X = some a → some a.block ≠ A1.map (·.block) := by
      intro X hX hn a ha e
      cases hA : A1 with
      | none => rw [hA] at e; simp at e
      | some a1 => rw [hA] at e; simp at e; exact hX hn a1 a hA ha e
    refine ⟨ho, by have := h.len; simp; omega, hp, ?_, h.rd2.grown0 hg (hne h.ne2), h.rd3.grown0 hg (hne h.ne3), h.ne1, h.ne2, h.ne3, h.kept.grown hg ?_, h.home, hz⟩
    · by_cases hn : 0 < n
      · obtain ⟨b, o, hA, hb, _⟩ := h.rd1.2 hn
        obtain ⟨b', hA'⟩ := h.own.head (by have := h.len; omega)
        rcases h.ne1 hn _ _ hA' hA with e | e
        · have := ho.rd_take (n := n) (by have := h.len; simp; omega)
          rw [hp, hA', ← e, ← hA] at this
          exact this
        · exact h.rd1.grown hg (by rw [hA, hA']; rintro a ha; injection ha with ha; subst ha; simpa using e)
      · exact ⟨h.rd1.1, fun h0 => absurd h0 hn⟩
    · intro g hg'
      cases hA : A1 with
      | none => rw [hA] at hg'; simp at hg'
      | some a1 =>
        rw [hA] at hg'
        simp at hg'
        subst hg'
        rcases h.home a1 hA with ⟨p, hp, hpb⟩ | hl
        · exact .inr ⟨_, List.mem_singleton.2 rfl, p, hp, hpb⟩
        · exact .inl hl
  · have hne : ∀ {X : Option Addr} {zs : List Nat}, Rd .u8 wr X n zs → 0 < n → ∀ a a2, A1 = some a → X = some a2 → a2.block ≠ a.block := by
      intro X zs hX hn a a2 ha ha2
      have h1 := hq a ha
      have h2 := hX.lt hn a2 ha2
      omega
    exact ⟨ho, by have := h.len; simp; omega, hp, h.rd1.ext he, h.rd2.ext he, h.rd3.ext he, fun hn a a1 ha ha1 => .inr (hne h.rd1 hn a a1 ha ha1), hne h.rd2, hne h.rd3, h.kept.ext he, fun a ha => .inr (Nat.le_trans h.kept.size (hq a ha)), hz⟩
def Ci.sl (x : Ci) : Sl := ⟨x.A, x.c, x.txt⟩
def TxtU (w : World) (base : Nat) (xs : List Ci) : Prop := (∀ x ∈ xs, Own .u8 5 w base x.A x.c x.txt) ∧ Unlike (xs.map Ci.sl)
theorem TxtU.nil (w : World) (base : Nat) : TxtU w base [] := ⟨fun f h => (by cases h), fun i j s t h => by simp at h⟩
theorem TxtU.ext {w w' : World} {base : Nat} {xs : List Ci} (h : TxtU w base xs) (hb : Ext w w') : TxtU w' base xs := ⟨fun f hf => (h.1 f hf).ext hb, h.2⟩
theorem TxtU.mono {w : World} {base base' : Nat} {xs : List Ci} (h : TxtU w base xs) (hb : base' ≤ base) : TxtU w base' xs := ⟨fun f hf => (h.1 f hf).mono hb, h.2⟩
theorem TxtU.far {w w' : World} {base b : Nat} {xs : List Ci} (h : TxtU w base xs) (hg : w.grownBy w' (some b)) (hb : b < base) : TxtU w' base xs := ⟨fun f hf => (h.1 f hf).far hg hb, h.2⟩
theorem TxtU.grown {w w' : World} {base base' c : Nat} {A : Option Addr} {fs gs : List Ci} (h : TxtU w base fs) (k : OwnX w base' A c gs) (hg : w.grownBy w' (Value.slice A gs.length c).ownBlock) : TxtU w' base fs :=
  ⟨fun f hf => (h.1 f hf).grown hg (own_neX k (h.1 f hf)), h.2⟩
theorem Unlike.put {xs : List Ci} {f : Ci} {base' : Nat} (h : Unlike (xs.map Ci.sl)) (hf : ∀ q, f.A = some q → base' ≤ q.block) (hl : ∀ g ∈ xs, ∀ p, g.A = some p → p.block < base') (i : Nat) : Unlike ((xs.set i f).map Ci.sl) := by
  intro a b s t ha hb hne p q hp hq
  rw [List.getElem?_map, Option.map_eq_some_iff] at ha hb
  obtain ⟨x, hx, rfl⟩ := ha
  obtain ⟨y, hy, rfl⟩ := hb
  rw [List.getElem?_set] at hx hy
  by_cases e1 : i = a
  · rw [if_pos e1] at hx
    split at hx
    · injection hx with hx
      subst hx
      rw [if_neg (by omega)] at hy
      have h1 := hf p hp
      have h2 := hl y (List.mem_of_getElem? hy) q hq
      omega
    · cases hx
  · rw [if_neg e1] at hx
    by_cases e2 : i = b
    · rw [if_pos e2] at hy
      split at hy
      · injection hy with hy
        subst hy
        have h1 := hf q hq
        have h2 := hl x (List.mem_of_getElem? hx) p hp
        omega
      · cases hy
    · rw [if_neg e2] at hy
      exact h a b x.sl y.sl (by rw [List.getElem?_map, hx]; rfl) (by rw [List.getElem?_map, hy]; rfl) hne p q hp hq
theorem TxtU.put {w : World} {base base' : Nat} {fs : List Ci} {f : Ci} (h : TxtU w base fs) (hf : Own .u8 5 w base' f.A f.c f.txt) (hb : base ≤ base') (hl : ∀ g ∈ fs, ∀ p, g.A = some p → p.block < base') (i : Nat) : TxtU w base (fs.set i f) := by
  refine ⟨fun g hg => ?_, h.2.put (fun q hq => (hf.block q hq).1) hl i⟩
  rcases List.mem_or_eq_of_mem_set hg with h1 | rfl
  · exact h.1 g h1
  · exact hf.mono hb
def Ci.none : Ci := ⟨false, 0, Option.none, 0, []⟩
theorem xcells_cons (x : Ci) (r : List Ci) : xcells (x :: r) = x.cells ++ xcells r := by simp [xcells]
theorem xcells_set (x : Ci) : ∀ (xs : List Ci) (j : Nat), j < xs.length → xcells (xs.set j x) = (((xcells xs).set (j * 3) (.bool x.nul)).set (j * 3 + 1) (.int .i64 x.num)).set (j * 3 + 2) (.slice x.A x.txt.length x.c)
  | [], j, h => absurd h (by simp)
  | y :: r, 0, _ => by
    rw [List.set_cons_zero, xcells_cons, xcells_cons]
    simp [Ci.cells]
  | y :: r, j + 1, h => by
    rw [List.set_cons_succ, xcells_cons, xcells_cons, xcells_set x r j (by simpa using h)]
    have hl : y.cells.length = 3 := rfl
    rw [List.set_append_right _ _ (by omega), List.set_append_right _ _ (by omega), List.set_append_right _ _ (by omega), hl, show (j + 1) * 3 - 3 = j * 3 by omega, show (j + 1) * 3 + 1 - 3 = j * 3 + 1 by omega, show (j + 1) * 3 + 2 - 3 = j * 3 + 2 by omega]
theorem OwnX.store {w : World} {base c : Nat} {A : Option Addr} {xs : List Ci} (h : OwnX w base A c xs) {j : Nat} (hj : j < xs.length) :
    ∃ g, A = some ⟨g, 0, Option.none⟩ ∧ base ≤ g ∧ g < w.heap.size ∧ xs.length ≤ c ∧ c ≤ 9223372036854775807 ∧ w.there g (j * 3) 3 ∧ ∀ x : Ci, OwnX (w.setCells g (j * 3) x.cells) base A c (xs.set j x) ∧ w.grownBy (w.setCells g (j * 3) x.cells) (some g) := by
  have h0 := h
  unfold OwnX at h0
  rcases h.2 with ⟨_, hn⟩ | ⟨g, cap, cur, hv, hg, hh, hnc, hcm, _⟩
  · omega
  · injection hv with hA hl hc
    subst hA
    subst hc
    have hlt : g < w.heap.size := (Array.getElem?_eq_some_iff.1 hh).1
    refine ⟨g, rfl, hg, hlt, hnc, by simpa [maxLen] using hcm, fun i hi => ⟨?_, World.ownsRow.frozenAt h0 _⟩, fun x => ?_⟩
    · rw [World.ownsRow.cellAt h0 _ (by omega)]
      rw [List.getElem?_eq_getElem (by rw [xcells_len]; omega)]
      rfl
    · obtain ⟨a1, b1⟩ := World.ownsRow.stored h0 (j * 3) (.bool x.nul)
      obtain ⟨a2, b2⟩ := World.ownsRow.stored a1 (j * 3 + 1) (.int .i64 x.num)
      obtain ⟨a3, b3⟩ := World.ownsRow.stored a2 (j * 3 + 2) (.slice x.A x.txt.length x.c)
      refine ⟨?_, World.grownBy.trans (World.grownBy.trans b1 b2) b3⟩
      unfold OwnX
      rw [List.length_set, xcells_set x xs j hj]
      exact a3
theorem xcells_nones (n : Nat) : (madeCells (Value.agg #[.bool false, .int .i64 0, .slice Option.none 0 0]).cells (n * 3)).toList = xcells (List.replicate n Ci.none) := by
  apply List.ext_getElem?
  intro j
  by_cases hj : j < n * 3
  · have h2 := xcells_at (xs := List.replicate n Ci.none) (j := j / 3) (x := Ci.none) (by rw [List.getElem?_replicate, if_pos (by omega)]) (j % 3) (Nat.mod_lt _ (by decide))
    rw [show j / 3 * 3 + j % 3 = j by omega] at h2
    rw [h2]
    have h3 : j % 3 = 0 ∨ j % 3 = 1 ∨ j % 3 = 2 := by omega
    have h4 : (List.range (n * 3))[j]? = some j := by rw [List.getElem?_range hj]
    rcases h3 with e | e | e <;> simp [madeCells, Value.cells, e, Ci.none, Ci.cells, h4]
  · rw [List.getElem?_eq_none (by simp [madeCells]; omega), List.getElem?_eq_none (by rw [xcells_len]; simp; omega)]
theorem wpList_mkX {w : World} {ops : Array Oper} {rest : List Oper} {o : Oper} {a : Act} {Q : Exit → Act → World → Prop} (hgd : o.guard = Option.none) (l c : Operand)
    (hop : o.op = Op.makeSlice 25 l c) (kl kc : IntKind) {L C : Int} (n : Nat) (hl : a.eval l = .int kl L) (hc : a.eval c = .int kc C) (hL : L = (n : Int)) (hC : C = (n : Int)) (hb : n ≤ 4398046511104)
    (h : ∀ w', OwnX w' w.heap.size (some ⟨w.heap.size, 0, Option.none⟩) n (List.replicate n Ci.none) → Ext w w' → wpList Tryz.prog ops Q rest (a.put o.dst (.slice (some ⟨w.heap.size, 0, Option.none⟩) n n)) w') :
    wpList Tryz.prog ops Q (o :: rest) a w := by
  obtain ⟨i, hi0, hz, hsz, hbs⟩ := info_parts Tryz.infoCell
  refine wpList_make_full w hgd l c 25 hop w.heap.size 61 i _ 3 Tryz.underlying25 hi0 hz hsz kl kc L C n hl hc hL hC (by rw [hbs]; omega) (by unfold maxLen; omega) (Nat.le_refl _) ?_
  intro w' h1 h2
  refine h w' ?_ ⟨h2.os, h2.tape, h2.output, h2.size, fun j hj => h2.block j hj (by simp)⟩
  rw [xcells_nones] at h1
  unfold OwnX
  rw [List.length_replicate]
  exact h1
theorem RdX.kept {w wr : World} {A : Option Addr} {n : Nat} {xs : List Ci} {ss : List Sl} (h : RdX w A n xs) (hk : Kept w wr ss) (hf : 0 < n → Far ss A) (hb : ∀ x ∈ xs, 0 < x.txt.length → Far ss x.A) : RdX wr A n xs :=
  ⟨h.1, fun hn => by
    obtain ⟨b, o, e, hlt, hc⟩ := h.2 hn
    have hbl : wr.heap[b]? = w.heap[b]? := hk.block b hlt (fun s hs p hp => hf hn s hs p _ hp e)
    refine ⟨b, o, e, Nat.lt_of_lt_of_le hlt hk.size, fun j x hj => ?_⟩
    obtain ⟨h1, h2, h3, h4⟩ := hc j x hj
    exact ⟨(World.cell?_of_block (a := ⟨b, o + j * 3, Option.none⟩) hbl).trans h1, (World.cell?_of_block (a := ⟨b, o + j * 3 + 1, Option.none⟩) hbl).trans h2, (World.cell?_of_block (a := ⟨b, o + j * 3 + 2, Option.none⟩) hbl).trans h3, h4.rd.kept hk (hb x (List.mem_of_getElem? hj)), h4.u8, h4.lo, h4.hi, h4.len⟩⟩
theorem OwnX.block {w : World} {base c : Nat} {A : Option Addr} {xs : List Ci} (h : OwnX w base A c xs) : ∀ a, A = some a → base ≤ a.block ∧ a.block < w.heap.size := by
  rintro a rfl
  exact World.ownsRow.lt h a.block rfl
end Go.Proofs.YthibbgmicmfkfaaGreat
