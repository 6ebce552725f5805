import Derived.Test.YtlgcghjbekgnmaaGreatG19
import Derived.Test.YtlgcghjbekgnmaaGreatG14

/-
  Layer 12: the document's Decode.
-/
namespace Go.Proofs.YtlgcghjbekgnmaaGreat
open Go.RowKit
set_option maxRecDepth 100000

set_option maxHeartbeats 6400000 in
theorem refBdecode_any (k : Int) (A : Option Addr) (n c : Nat) (bs : List Nat) (w : World) (hx : Rd .u8 w A n bs) (hu : U8 bs) (hn : n ≤ 140737488351232) :
    Calls Tryz.prog 11 #[.int .i64 k, .slice A n c] w (GcPost (bdecR k bs) w) := by
  have hl := hx.len
  have hR := bdecR.eq_1 k bs
  obtain ⟨R, hRR⟩ : ∃ R, R = bdecR k bs := ⟨_, rfl⟩
  rw [← hRR] at hR ⊢
  rw [hl] at hR
  clear hRR
  by_cases hk : 1 ≤ k ∧ k ≤ 8
  rotate_left
  · rw [if_pos (show kindK k = false by unfold kindK; exact decide_eq_false hk)] at hR
    have HR := Lib.hid hR
    clear hR hx hl
    by_cases h1 : k < 1
    · clear hk
      go_enter Tryz.func11, Tryz.ntmps11
      go_wp2_with fail
      go_ret2
      exact GcPost.bad _ HR.out (Ext.refl _)
    · have h8 : 8 < k := by omega
      clear hk
      go_enter Tryz.func11, Tryz.ntmps11
      go_wp2_with fail
      go_ret2
      exact GcPost.bad _ HR.out (Ext.refl _)
  rw [if_neg (show ¬ kindK k = false by unfold kindK; rw [decide_eq_true hk]; decide)] at hR
  have hk1 : ¬ k < 1 := by omega
  have hk8 : ¬ 8 < k := by omega
  by_cases hbig : 65000 < n
  · rw [if_pos hbig] at hR
    have HR := Lib.hid hR
    have hb2 : (65000 : Int) < (n : Int) := by omega
    clear hR hx hu hl hbig
    go_enter Tryz.func11, Tryz.ntmps11
    go_wp2_with fail
    go_ret2
    exact GcPost.bad _ HR.out (Ext.refl _)
  rw [if_neg hbig] at hR
  have hb1 : ¬ (65000 : Int) < (n : Int) := by omega
  have HS := Lib.hid (fun W (hW : Ext w W) => refSealed_any A n c bs W (hx.ext hW) hu (by omega))
  by_cases hs : sld bs
  rotate_left
  · rw [if_pos hs] at hR
    have HR := Lib.hid hR
    rw [decide_eq_false hs] at HS
    clear hR hx hu hl hbig hs
    go_enter Tryz.func11, Tryz.ntmps11
    go_wp2_with fail
    refine (HS.out _ (Ext.refl _)).mono ?_
    rintro e w1 ⟨rfl, he1⟩
    go_wp2_with fail
    go_ret2
    exact GcPost.bad _ HR.out he1
  rw [if_neg (fun q => q hs)] at hR
  rw [decide_eq_true hs] at HS
  have h4 : 4 ≤ n := by have := hs.1; omega
  have hpc : piece bs 0 ((n : Int) - 4) = bs.take (n - 4) := by
    unfold piece
    rw [show ((n : Int) - 4).toNat = n - 4 by omega]
    rfl
  have HPc := Lib.hid (fun W (hW : Ext w W) => piece_any A n c 0 ((n : Int) - 4) bs W (hx.ext hW) (by omega) (by omega))
  rw [hpc] at HPc
  have hBu : U8 (bs.take (n - 4)) := fun v hv => hu v (List.mem_of_mem_take hv)
  have hBl : (bs.take (n - 4)).length = n - 4 := by rw [List.length_take, hl]; omega
  obtain ⟨B, hB⟩ : ∃ B, B = bs.take (n - 4) := ⟨_, rfl⟩
  rw [← hB] at hR HPc hBu hBl
  obtain ⟨m, hm⟩ : ∃ m, m = n - 4 := ⟨_, rfl⟩
  rw [← hm] at hBl
  rw [hBl] at HPc
  have hm6 : m ≤ 65000 := by omega
  clear hm
  have hG := getB.eq_1 k B
  rw [hBl] at hG
  have hGl := getB_len (k := k) hBu
  have hGi := getB_in (k := k) hBu
  obtain ⟨G, hGG⟩ : ∃ G, G = getB k B := ⟨_, rfl⟩
  rw [← hGG] at hR hG hGl hGi
  have Hbad : Hid (∀ E, G = ([], E) → E ≠ 0 → R = ([], E)) := Lib.hid (fun E q1 q2 => by rw [hR, q1, if_pos q2])
  have Hgood : Hid (∀ V, G = (V, 0) → R = if chkBv k V ≠ 0 then ([], chkBv k V) else (V, 0)) := Lib.hid (fun V q1 => by rw [hR, q1, if_neg (fun q => q rfl)])
  have HGl := Lib.hid hGl
  have HGi := Lib.hid hGi
  have Hbl := Lib.hid hBl
  have HBu := Lib.hid hBu
  clear hGG hR hB hpc hs hbig hx hu hl hGl hGi
  by_cases hm0 : m = 0
  · have HR := Lib.hid (Hbad.out 2 (by rw [hG, if_pos hm0]) (by decide))
    have hb0 : ((m : Int) == 0) = true := by simp [hm0]
    clear hG hBl hBu
    go_enter Tryz.func11, Tryz.ntmps11
    go_wp2_with fail
    refine (HS.out _ (Ext.refl _)).mono ?_
    rintro e w1 ⟨rfl, he1⟩
    go_wp2_with fail
    refine (HPc.out _ he1).mono ?_
    rintro e w2 ⟨A2, c2, rfl, ho2, he2⟩
    go_wp2_with fail
    go_ret2
    exact GcPost.bad _ HR.out (he1.trans he2)
  rw [if_neg hm0] at hG
  have hb0 : ((m : Int) == 0) = false := by simp [hm0]
  have hml : 0 < m := by omega
  have hcd8 : B.getD 0 0 < 256 := hBu.at_ 0
  have hva := fun v n => vget_at (bs := B) (a := 1) (n := n) (v := v) hBu
  obtain ⟨cd, hcd⟩ : ∃ cd, cd = B.getD 0 0 := ⟨_, rfl⟩
  rw [← hcd] at hG hcd8
  have HF := Lib.hid (fun W => refFits_any k (cd : Int) W hk)
  by_cases hf : ((cd : Nat) : Int) ∈ codecs k
  rotate_left
  · rw [if_pos hf] at hG
    have HR := Lib.hid (Hbad.out 120 hG (by decide))
    rw [decide_eq_false hf] at HF
    have Hcd := Lib.hid hcd.symm
    clear hG hva hcd hBl hBu hf
    go_enter Tryz.func11, Tryz.ntmps11
    go_wp2_with fail
    refine (HS.out _ (Ext.refl _)).mono ?_
    rintro e w1 ⟨rfl, he1⟩
    go_wp2_with fail
    refine (HPc.out _ he1).mono ?_
    rintro e w2 ⟨A2, c2, rfl, ho2, he2⟩
    obtain ⟨b, o, hA, hbl, hc0⟩ := (ho2.rd' Hbl.out).at_ hml
    rw [Nat.add_zero, Hcd.out] at hc0
    subst hA
    clear ho2
    go_wp2_with fail
    refine (HF.out _).mono ?_
    rintro e w3 ⟨rfl, rfl⟩
    go_wp2_with fail
    go_ret2
    exact GcPost.bad _ HR.out (he1.trans he2)
  rw [if_neg (fun q => q hf)] at hG
  rw [decide_eq_true hf] at HF
  have hcr := codecs_range hf
  have HGt := Lib.hid (fun A' c' W (h : Rd .u8 W A' m B) => refGet_any A' m c' 1 B W h hBu (by omega))
  unfold GetPost at HGt
  have Hcd := Lib.hid hcd.symm
  obtain ⟨⟨u, a, er⟩, hv⟩ : ∃ V, V = vget B 1 := ⟨_, rfl⟩
  rw [← hv] at HGt hG hva
  simp only at HGt hG
  have HG := Lib.hid hG
  have Hva := Lib.hid hva
  clear hG hva hv hcd hBl hBu hf
  go_enter Tryz.func11, Tryz.ntmps11
  go_wp2_with fail
  refine (HS.out _ (Ext.refl _)).mono ?_
  rintro e w1 ⟨rfl, he1⟩
  go_wp2_with fail
  refine (HPc.out _ he1).mono ?_
  rintro e w2 ⟨A2, c2, rfl, ho2, he2⟩
  have HE2 := Lib.hid (he1.trans he2)
  have Hr2 := Lib.hid (ho2.rd' Hbl.out)
  obtain ⟨b, o, hA, hbl, hc0⟩ := Hr2.out.at_ hml
  rw [Nat.add_zero, Hcd.out] at hc0
  subst hA
  clear he1 he2 ho2
  go_wp2_with fail
  refine (HF.out _).mono ?_
  rintro e w3 ⟨rfl, rfl⟩
  go_wp2_with fail
  refine (HGt.out _ _ _ Hr2.out).mono ?_
  rintro e w4 ⟨rfl, rfl⟩
  by_cases he : er = 0
  rotate_left
  · have HR := Lib.hid (Hbad.out er (by rw [HG.out, if_pos he]) he)
    have heb : (er == 0) = false := beq_eq_false_iff_ne.2 he
    clear he
    go_wp2_with fail
    go_ret2
    exact GcPost.bad _ HR.out HE2.out
  subst he
  obtain ⟨_, v1, v2, v3, _⟩ := Hva.out u a rfl
  rw [Hbl.out] at v2
  obtain ⟨a, rfl⟩ := Int.eq_ofNat_of_zero_le (show 0 ≤ a by omega)
  have hG := HG.out
  rw [if_neg (fun q => q rfl)] at hG
  by_cases hbg : 4096 < u
  · have HR := Lib.hid (Hbad.out 4 (by rw [hG, if_pos hbg]) (by decide))
    have hI : (4096 : Int) < (u : Int) := by omega
    clear hG hbg
    go_wp2_with fail
    go_ret2
    exact GcPost.bad _ HR.out HE2.out
  have hI : ¬ (4096 : Int) < (u : Int) := by omega
  have hu4 : u ≤ 4096 := by omega
  rw [if_neg hbg, Int.toNat_natCast] at hG
  have HN := Lib.hid (refNulls_any (some ⟨b, o, none⟩) m c2 a u B w2 Hr2.out HBu.out (by omega) (by omega) hu4)
  unfold NulPost at HN
  have hno := nullR_ok (bs := B) (a := a) (n := u) (by rw [Hbl.out]; omega)
  obtain ⟨⟨⟨us, p⟩, en⟩, hN⟩ : ∃ V, V = nullR B a u := ⟨_, rfl⟩
  rw [← hN] at HN hG hno
  simp only at HN hG hno
  have hwi : IntKind.i64.wrap (u : Int) = (u : Int) := IntWalk.i64_in _ (by omega)
  clear hN hbg
  by_cases hen : en = 0
  rotate_left
  · have HR := Lib.hid (Hbad.out en (by rw [hG, if_pos hen]) hen)
    have heb : (en == 0) = false := beq_eq_false_iff_ne.2 hen
    clear hG hen hno
    go_wp2_with fail
    refine HN.out.mono ?_
    rintro e w5 ⟨A3, c3, rfl, _, he3⟩
    go_wp2_with fail
    go_ret2
    exact GcPost.bad _ HR.out (HE2.out.trans he3)
  subst hen
  rw [if_neg (fun q => q rfl)] at hG
  obtain ⟨n1, n2, p, rfl, n3⟩ := hno rfl
  rw [Hbl.out] at n3
  rw [Int.toNat_natCast] at hG
  rw [n1] at HN
  have Hn1 := Lib.hid n1
  have Hn2 := Lib.hid n2
  have hz : us.count 0 ≤ u := by rw [← n1]; exact List.count_le_length
  obtain ⟨z, hze⟩ : ∃ z, z = us.count 0 := ⟨_, rfl⟩
  rw [← hze] at hG hz
  have HG2 := Lib.hid hG
  have Hze : Hid (0 + (us.drop 0).count 0 = z) := Lib.hid (by rw [hze]; simp)
  have Hzm : Hid ((us.drop 0).count 0 = z - 0) := Lib.hid (by rw [hze]; simp)
  clear hG n1 n2 hze hno v1 v3
  go_wp2_with fail
  refine HN.out.mono ?_
  rintro e w5 ⟨A3, c3, rfl, ho3, he3⟩
  have HE5 := Lib.hid (HE2.out.trans he3)
  have HU3 := Lib.hid (ho3.rd' Hn1.out)
  have Hr5 := Lib.hid (Hr2.out.ext he3)
  have hc5 := (he3.cells b o hbl).trans hc0
  have hbl5 := Nat.lt_of_lt_of_le hbl he3.size
  clear ho3 he3 HN hc0 hbl
  go_wp2_with fail
  go_loopw [13, 14] (fun t i wr => ∃ (j q : Nat), j ≤ u ∧ i = .int .i64 (j : Int) ∧ t = .int .i64 (q : Int) ∧ Hid (q + (us.drop j).count 0 = z) ∧ w5 = wr) (fun _ i _ => u - (intOf i).toNat)
  case atStart => exact ⟨0, 0, Nat.zero_le _, rfl, rfl, Hze.out, rfl⟩
  case round =>
    clear Hze
    obtain ⟨j, q, hj, rfl, rfl, HQ, rfl⟩ := hrel
    by_cases hlt : j < u
    · have hjl : j < us.length := by rw [Hn1.out]; exact hlt
      have hd0 : us.drop j = us[j] :: us.drop (j + 1) := List.drop_eq_getElem_cons hjl
      have hgd : us.getD j 0 = us[j] := by simp [List.getD_eq_getElem?_getD, List.getElem?_eq_getElem hjl]
      have hq := HQ.out
      rw [hd0, List.count_cons] at hq
      obtain ⟨b3, o3, hA3, hbl3, hc3⟩ := HU3.out.at_ hlt
      rw [hgd] at hc3
      obtain ⟨v, hv⟩ : ∃ v, v = us[j] := ⟨_, rfl⟩
      rw [← hv] at hc3 hq
      have hv2 : v < 2 := by rw [hv]; exact Hn2.out _ (List.getElem_mem hjl)
      subst hA3
      clear hd0 hgd hv
      by_cases hv0 : v = 0
      · subst hv0
        have HQ2 : Hid ((q + 1) + (us.drop (j + 1)).count 0 = z) := Lib.hid (by simp at hq; omega)
        have hqz : q + 1 ≤ 4096 := by have := HQ2.out; omega
        clear hq
        go_wp2_with fail
        go_roundw
        case rel => exact ⟨j + 1, q + 1, hlt, by go_num, by go_num, HQ2.out, trivial⟩
        case measure => simp [intOf]; omega
      · obtain rfl : v = 1 := by omega
        have HQ2 : Hid (q + (us.drop (j + 1)).count 0 = z) := Lib.hid (by simp at hq; omega)
        clear hq
        go_wp2_with fail
        go_roundw
        case rel => exact ⟨j + 1, q, hlt, by go_num, rfl, HQ2.out, trivial⟩
        case measure => simp [intOf]; omega
    · obtain rfl : u = j := by omega
      have hqz : q = z := by
        have := HQ.out
        rw [List.drop_of_length_le (Nat.le_of_eq Hn1.out)] at this
        simpa using this
      subst hqz
      have hpm : piece B (p : Int) (m : Int) = B.drop p := by
        unfold piece
        rw [Int.toNat_natCast, Int.toNat_natCast, List.take_of_length_le (by rw [Hbl.out]; exact Nat.le_refl _)]
      have hdl : (B.drop p).length = m - p := by rw [List.length_drop, Hbl.out]
      have HPd := Lib.hid (fun W (hW : Ext w5 W) => piece_any (some ⟨b, o, none⟩) m c2 (p : Int) (m : Int) B W (Hr5.out.ext hW) (by omega) (by omega))
      rw [hpm, hdl] at HPd
      have HV := Lib.hid (fun W A' c' (h : Rd .u8 W A' (m - p) (B.drop p)) => refCells_any k (cd : Int) hk hcr A' (m - p) c' q (B.drop p) W h (fun v hv => HBu.out v (List.mem_of_mem_drop hv)) (by omega) (by omega))
      have hvl := valuesR_len (k := k) (cd := (cd : Int)) (bs := B.drop p) (n := q)
      have hvi := valuesR_in (k := k) (cd := (cd : Int)) (n := q) (bs := B.drop p) (fun v hv => HBu.out v (List.mem_of_mem_drop hv))
      have hG := HG2.out
      obtain ⟨⟨vs, ev⟩, hV⟩ : ∃ V, V = valuesR k (cd : Int) (B.drop p) q := ⟨_, rfl⟩
      unfold GcPost at HV
      rw [← hV] at HV hG hvl hvi
      simp only at HV hG hvl hvi
      have HG3 := Lib.hid hG
      have Hvl := Lib.hid hvl
      have Hvi := Lib.hid hvi
      have Hdl := Lib.hid hdl
      clear hpm hdl hG hvl hvi hV
      have hwc : IntKind.i64.wrap ((cd : Nat) : Int) = (cd : Int) := IntWalk.i64_in _ (by omega)
      have Hub := Lib.hid (fun W (hW : Ext w5 W) => (hW.cells b o hbl5).trans hc5)
      go_wp2_with fail
      go_region_held3 (fun w' => w'.cell? ⟨b, o, none⟩ = some (.int .u8 (cd : Int)))
        (first | (refine Hub.out _ ?_; (repeat (first | exact Ext.refl _ | (with_reducible refine Ext.trans ?_ he7) | (with_reducible refine Ext.trans ?_ he6) | apply Ext.drew | apply Ext.alloc | fail))) | fail)
        (first
          | (go_at_call 44; (with_reducible refine (HPd.out _ ?_).mono ?_); (focus ((repeat (first | exact Ext.refl _ | apply Ext.drew | apply Ext.alloc | fail)); done)); rintro e w6 ⟨A6, c6, rfl, ho6, he6⟩)
          | (go_at_call 48; (with_reducible refine (HV.out _ _ _ (ho6.rd' Hdl.out)).mono ?_); rintro e w7 ⟨fs, A7, c7, rfl, hv7, ho7, ht7, he7⟩)
          | fail)
      have hE6 : Ext w5 w6 := Ext.trans (by repeat (first | exact Ext.refl _ | apply Ext.drew | apply Ext.alloc)) he6
      have hE7 : Ext w5 w7 := hE6.trans he7
      have HE7 := Lib.hid (HE5.out.trans hE7)
      have ht7' := Lib.hid (ht7.mono ((HE5.out.trans hE6).size))
      by_cases hev : ev = 0
      rotate_left
      · have HR := Lib.hid (Hbad.out ev (by rw [HG3.out, if_pos hev]) hev)
        have heb : (ev == 0) = false := beq_eq_false_iff_ne.2 hev
        clear hev he6 he7 ho6 ho7 ht7 hE6 hE7
        go_wp2_with fail
        go_ret2
        exact GcPost.bad _ HR.out HE7.out
      subst hev
      have hG := HG3.out
      rw [if_neg (fun q => q rfl)] at hG
      have hvz := Hvl.out rfl
      have hfl : fs.length = q := by rw [← hvz, ← hv7, List.length_map]
      have Hrx := Lib.hid (ans_rdX hv7 hfl Hvi.out ho7 (fun f hf => (ht7.1 f hf).rd))
      rw [← hv7] at hG
      obtain ⟨M, hM⟩ : ∃ M, M = wN us (fs.map Ci.val) := ⟨_, rfl⟩
      rw [← hM] at hG
      have HG4 := Lib.hid (Hgood.out M hG)
      have HG5 := Lib.hid hG
      have HR0 : Hid (([] : List Ci).map Ci.val ++ wN (us.drop 0) ((fs.drop 0).map Ci.val) = M) := Lib.hid (by rw [hM]; rfl)
      have HU7 := Lib.hid (HU3.out.ext hE7)
      have HT0 : Hid (TxtX w7 w.heap.size ([] ++ fs.drop 0)) := Lib.hid ht7'.out
      have HO0 := Lib.hid (OwnX.made (base := w7.heap.size) w7 (Nat.le_refl _))
      have Hfq := Lib.hid hfl
      have Hvz := Lib.hid hvz
      rw [hvz]
      clear hG hM hvz hfl he6 he7 ho6 ho7 ht7 ht7' hE6 hE7 hv7
      go_wp2_with fail
      go_loopw [17, 18, 19] (fun v kk i wr => ∃ (j r : Nat) (A' : Option Addr) (c' : Nat) (don : List Ci), j ≤ u ∧ r ≤ q ∧ i = .int .i64 (j : Int) ∧ kk = .int .i64 (r : Int) ∧ v = .slice A' j c' ∧ Hid (don.length = j) ∧ Hid ((us.drop j).count 0 = q - r) ∧ Hid (don.map Ci.val ++ wN (us.drop j) ((fs.drop r).map Ci.val) = M) ∧ Hid (OwnX wr w7.heap.size A' c' don) ∧ Hid (TxtX w7 w.heap.size (don ++ fs.drop r)) ∧ Hid (Ext w7 wr)) (fun _ _ i _ => u - (intOf i).toNat)
      case atStart => exact ⟨0, 0, _, _, [], Nat.zero_le _, Nat.zero_le _, rfl, rfl, rfl, rfl, Hzm.out, HR0.out, HO0.out, HT0.out, Lib.hid ((Ext.refl _).alloc _)⟩
      case round =>
        clear HO0 HT0 HR0 Hzm
        obtain ⟨j, r, A', c', don, hj, hr, rfl, rfl, rfl, HD, HC, HM, HO, HT, HE⟩ := hrel
        have hz7 := HE.out.size
        by_cases hlt : j < u
        · have hjl : j < us.length := by rw [Hn1.out]; exact hlt
          have hd0 : us.drop j = us[j] :: us.drop (j + 1) := List.drop_eq_getElem_cons hjl
          have hgd : us.getD j 0 = us[j] := by simp [List.getD_eq_getElem?_getD, List.getElem?_eq_getElem hjl]
          obtain ⟨b3, o3, hA3, hbl3, hc3⟩ := (HU7.out.ext HE.out).at_ hlt
          rw [hgd] at hc3
          obtain ⟨v, hv⟩ : ∃ v, v = us[j] := ⟨_, rfl⟩
          have hv2 : v < 2 := by rw [hv]; exact Hn2.out _ (List.getElem_mem hjl)
          rw [← hv] at hc3 hd0
          have Hd0 := Lib.hid hd0
          subst hA3
          clear hd0 hgd hv
          by_cases hv1 : v = 1
          · subst hv1
            have HM2 : Hid ((don ++ [Ci.null]).map Ci.val ++ wN (us.drop (j + 1)) ((fs.drop r).map Ci.val) = M) := Lib.hid (by
              rw [← HM.out, Hd0.out, wN_null rfl, List.map_append, List.append_assoc]; rfl)
            have HC2 : Hid ((us.drop (j + 1)).count 0 = q - r) := Lib.hid (by rw [← HC.out, Hd0.out]; simp)
            have HT2 := Lib.hid HT.out.null
            have HD2 : Hid ((don ++ [Ci.null]).length = j + 1) := Lib.hid (by rw [List.length_append, HD.out]; rfl)
            have hX : Ext wr (wr.alloc (.cells #[.bool true, .int .i64 0, .slice none 0 0] 61)) := (Ext.refl wr).alloc _
            go_wp2_with (at_builtin; refine wpList_pushX (w0 := w7) Ci.null rfl _ _ rfl (HO.out.ext hX) j HD.out rfl rfl (heap_alloc_new wr _) (by omega) (HE.out.trans hX) (by simp; omega) ?_; intro A8 c8 w8 hown8 hgr8 hb8 hz8)
            have HO3 := Lib.hid hown8
            have HE3 := Lib.hid hb8
            clear hown8 hgr8 hb8 hX
            go_roundw
            case rel => exact ⟨j + 1, r, A8, c8, don ++ [Ci.null], hlt, hr, by go_num, rfl, rfl, HD2.out, HC2.out, HM2.out, HO3.out, HT2.out, HE3.out⟩
            case measure => simp [intOf]; omega
          · obtain rfl : v = 0 := by omega
            have hrq : r < q := by
              have := HC.out
              rw [Hd0.out, List.count_cons] at this
              simp at this
              omega
            obtain ⟨b2, o2, y, hB, hbl2, hyj, y0, y1, y2, yin⟩ := (Hrx.out.ext HE.out).at_ hrq
            have hdk : fs.drop r = y :: fs.drop (r + 1) := by
              obtain ⟨h2, h3⟩ := List.getElem?_eq_some_iff.1 hyj
              rw [List.drop_eq_getElem_cons h2, h3]
            have HM2 : Hid ((don ++ [y]).map Ci.val ++ wN (us.drop (j + 1)) ((fs.drop (r + 1)).map Ci.val) = M) := Lib.hid (by
              rw [← HM.out, Hd0.out, hdk, List.map_cons, wN_val (by decide), List.map_append, List.append_assoc]; rfl)
            have HC2 : Hid ((us.drop (j + 1)).count 0 = q - (r + 1)) := Lib.hid (by
              have := HC.out
              rw [Hd0.out, List.count_cons] at this
              simp at this
              omega)
            have HT2 : Hid (TxtX w7 w.heap.size ((don ++ [y]) ++ fs.drop (r + 1))) := Lib.hid (by
              have := HT.out
              rw [hdk] at this
              rw [List.append_assoc]
              exact this)
            have HD2 : Hid ((don ++ [y]).length = j + 1) := Lib.hid (by rw [List.length_append, HD.out]; rfl)
            subst hB
            clear hdk hyj yin
            obtain ⟨yn, yi, yA, yc, yt⟩ := y
            simp only at y0 y1 y2
            have hX : Ext wr (wr.alloc (.cells #[.bool yn, .int .i64 yi, .slice yA yt.length yc] 61)) := (Ext.refl wr).alloc _
            go_wp2_with (at_builtin; refine wpList_pushX (w0 := w7) ⟨yn, yi, yA, yc, yt⟩ rfl _ _ rfl (HO.out.ext hX) j HD.out rfl rfl (heap_alloc_new wr _) (by omega) (HE.out.trans hX) (by simp; omega) ?_; intro A8 c8 w8 hown8 hgr8 hb8 hz8)
            have HO3 := Lib.hid hown8
            have HE3 := Lib.hid hb8
            clear hown8 hgr8 hb8 hX
            go_roundw
            case rel => exact ⟨j + 1, r + 1, A8, c8, don ++ [(⟨yn, yi, yA, yc, yt⟩ : Ci)], hlt, hrq, by go_num, by go_num, rfl, HD2.out, HC2.out, HM2.out, HO3.out, HT2.out, HE3.out⟩
            case measure => simp [intOf]; omega
        · obtain rfl : u = j := by omega
          have hm := HM.out
          rw [List.drop_of_length_le (Nat.le_of_eq Hn1.out)] at hm
          have hM : don.map Ci.val = M := by rw [← hm]; simp [wN]
          have HT5 : Hid (TxtX w7 w.heap.size don) := Lib.hid (by
            refine ⟨fun x hx => HT.out.1 x (List.mem_append_left _ hx), ?_⟩
            have := HT.out.2
            rw [List.pairwise_append] at this
            exact this.1)
          have hok : ∀ v ∈ M, VIn v := fun v hv => HGi.out v (by rw [HG5.out]; exact hv)
          have hrx := ans_rdX hM HD.out hok HO.out (fun f hf => ((HT5.out.ext HE.out).1 f hf).rd)
          have hCh := refCheckB_any k A' u c' don wr hrx (by omega)
          rw [chkB_val, hM] at hCh
          have hR := HG4.out
          obtain ⟨E, hE⟩ : ∃ E, E = chkBv k M := ⟨_, rfl⟩
          rw [← hE] at hCh hR
          have HCh := Lib.hid hCh
          have HML : Hid (M.length = u) := Lib.hid (by rw [← hM, List.length_map]; exact HD.out)
          have HMv := Lib.hid hM
          have hev : (if E ≠ 0 then (([] : List Cv), E) else (M, 0)) = R := hR.symm
          clear hm hM hok hrx hCh hE hR
          by_cases hE0 : E = 0
          · subst hE0
            have HR := Lib.hid (hev.symm.trans (if_neg (fun q => q rfl)))
            clear hev
            go_wp2_with fail
            refine HCh.out.mono ?_
            rintro e w9 ⟨rfl, he9⟩
            go_wp2_with fail
            go_ret2
            rw [HR.out]
            exact ⟨don, A', c', by simp only; rw [HML.out]; rfl, HMv.out, (HO.out.mono ((HE7.out).size)).ext he9, ((HT5.out.ext HE.out).ext he9), (HE7.out.trans HE.out).trans he9⟩
          · have HR := Lib.hid (hev.symm.trans (if_pos hE0))
            have heb : (E == 0) = false := beq_eq_false_iff_ne.2 hE0
            clear hev hE0
            go_wp2_with fail
            refine HCh.out.mono ?_
            rintro e w9 ⟨rfl, he9⟩
            go_wp2_with fail
            go_ret2
            exact GcPost.bad _ HR.out ((HE7.out.trans HE.out).trans he9)

end Go.Proofs.YtlgcghjbekgnmaaGreat

/-
  Layer 12: the statement BlockDecodes, walked.
-/
namespace Go.Proofs.YtlgcghjbekgnmaaGreat
open Go.RowKit
set_option maxRecDepth 100000

theorem val_bodies12 : ∀ {fs gs : List Ci}, fs.map Ci.val = gs.map Ci.val → (fs.map Ci.sl).map Sl.body = (gs.map Ci.sl).map Sl.body := by
  intro fs gs h
  have := congrArg (List.map fun v : Cv => v.2.2) h
  simpa [Function.comp_def, Ci.val, Ci.sl] using this

theorem apartRows12 (A1 A2 : Option Addr) (r c1 c2 lo hi b1 b2 base1 base2 : Nat) (fs gs : List Ci) (w : World) (h1 : OwnS w b1 A1 c1 (fs.map Ci.sl)) (h2 : OwnS w b2 A2 c2 (gs.map Ci.sl)) (hr : fs.length = r) (hr2 : r ≤ 1048576)
    (hv : fs.map Ci.val = gs.map Ci.val) (hok : ∀ v ∈ fs.map Ci.val, U8 v.2.2 ∧ v.2.2.length ≤ 1048576) (ht1 : TxtU w base1 fs) (ht2 : ∀ g ∈ gs, Own .u8 5 w base2 g.A g.c g.txt)
    (hin : Within (fs.map Ci.sl) lo hi) (hb1 : hi ≤ b1) (hb2 : hi ≤ b2) (hbase2 : hi ≤ base2) :
    Calls Tryz.prog 13 #[.slice A1 r c1, .slice A2 r c2] w fun e w' => e = .returned (.bool true) ∧ Kept w w' (fs.map Ci.sl) := by
  have hgl : gs.length = r := by have := congrArg List.length hv; simp at this; omega
  have hl1 : (fs.map Ci.sl).length = r := by rw [List.length_map, hr]
  have hl2 : (gs.map Ci.sl).length = r := by rw [List.length_map, hgl]
  have hd : ∀ s ∈ fs.map Ci.sl, U8 s.body ∧ s.body.length ≤ 1048576 := fun s hs => by
    obtain ⟨f, hf, rfl⟩ := List.mem_map.1 hs
    exact hok f.val (List.mem_map.2 ⟨f, hf, rfl⟩)
  refine apartAll_any A1 A2 r c1 c2 _ _ w (hl1 ▸ h1.rdL) (hl2 ▸ h2.rdL) (val_bodies12 hv) hr2 (fun s hs => ?_) (fun s hs => (hd s hs).1) (fun s hs => (hd s hs).2) (fun t ht => ?_) ht1.2
    (fun _ => hin.far_hi fun a ha => Nat.le_trans hb1 (h1.block a ha).1) (fun _ => hin.far_hi fun a ha => Nat.le_trans hb2 (h2.block a ha).1) (fun t ht _ => hin.far_hi fun a ha => ?_)
  · obtain ⟨f, hf, rfl⟩ := List.mem_map.1 hs
    exact (ht1.1 f hf).zero
  · obtain ⟨g, hg, rfl⟩ := List.mem_map.1 ht
    exact (ht2 g hg).rd
  · obtain ⟨g, hg, rfl⟩ := List.mem_map.1 ht
    exact Nat.le_trans hbase2 ((ht2 g hg).block a ha).1

theorem bdecR_facts {k : Int} {bs : List Nat} (hu : U8 bs) : (bdecR k bs).1.length ≤ 4096 ∧ ∀ v ∈ (bdecR k bs).1, VIn v := by
  have hu' : U8 (bs.take (bs.length - 4)) := fun v hv => hu v (List.mem_of_mem_take hv)
  have h1 := getB_len (k := k) hu'
  have h2 := getB_in (k := k) hu'
  have h0 : ([] : List Cv).length ≤ 4096 ∧ ∀ v ∈ ([] : List Cv), VIn v := ⟨by decide, fun v hv => (by cases hv)⟩
  unfold bdecR
  split
  · exact h0
  · split
    · exact h0
    · split
      · exact h0
      · split
        · exact h0
        · split
          · exact h0
          · exact ⟨h1, h2⟩

set_option maxHeartbeats 6400000 in
theorem walk_BlockDecodes (k : Int) (A : Option Addr) (n c : Nat) (bs : List Nat) (w : World) (hb : Rd .u8 w A n bs) (hu : U8 bs) (hn : n * 1 ≤ 140737488351232) :
    Calls Tryz.prog 3 #[.int .i64 k, .slice A n c] w fun e w' => e = .returned (.bool true) ∧ Ext w w' := by
  have Hbl := Lib.hid hb.len
  obtain ⟨hRl, hRa⟩ := bdecR_facts (k := k) hu
  have HD := Lib.hid (fun W A' c' (hr : Rd .u8 W A' n bs) (hc : n ≤ c') (hm : c' ≤ 9223372036854775807) => bdecode_any k A' n c' bs W hr hu (by omega) hc hm)
  have HF := Lib.hid (fun W (hW : Ext w W) => refBdecode_any k A n c bs W (hb.ext hW) hu (by omega))
  unfold GcPost at HD HF
  obtain ⟨R, hR⟩ : ∃ R, R = bdecR k bs := ⟨_, rfl⟩
  rw [← hR] at HD HF hRl hRa
  clear hR
  obtain ⟨V, E⟩ := R
  simp only at HD HF hRl hRa
  obtain ⟨r, hr⟩ : ∃ r, r = V.length := ⟨_, rfl⟩
  rw [← hr] at hRl HD HF
  have Hr := Lib.hid hr.symm
  have HRa := Lib.hid hRa
  have b1 : (E != E) = false := by simp
  have Hb := Lib.hid hb
  have HWd := Lib.hid (fun W (hW : Ext w W) => wide_any A n c bs W (hb.ext hW) (by omega))
  clear hr hRa hb hu
  go_enter Tryz.func3, Tryz.ntmps3
  go_wp2_with fail
  refine (alive12 _).mono ?_
  rintro e w1 ⟨rfl, he1⟩
  go_wp2_with fail
  refine (HWd.out _ he1).mono ?_
  rintro e w2 ⟨A3, c3, rfl, hown2, he2⟩
  have hr2 := hown2.rd_take (n := n) (by rw [List.length_append, Hbl.out]; omega)
  rw [List.take_left' Hbl.out] at hr2
  have hri := hown2.rd' (n := n + 64) (by rw [List.length_append, Hbl.out]; rfl)
  obtain ⟨b, rfl, _, hb, hcap, hcm⟩ := hown2.form (by rw [List.length_append, marks_len]; omega)
  rw [List.length_append, Hbl.out, marks_len] at hcap
  have hcn : n ≤ c3 := by omega
  have hi1 : (n : Int) ≤ (c3 : Int) := by omega
  have hi0 : (0 : Int) ≤ (n : Int) := by omega
  have HE2 := Lib.hid (he1.trans he2)
  have HR2 := Lib.hid hr2
  have HRi := Lib.hid hri
  clear hown2 he1 he2 hr2 hri hb
  go_wp2_with fail
  refine (HD.out _ _ _ HR2.out hcn hcm).mono ?_
  rintro e w3 ⟨fs, A4, c4, rfl, hv3, ho3, ht3, he3⟩
  have hfl : fs.length = r := by rw [← Hr.out, ← hv3, List.length_map]
  have HE3 := Lib.hid (HE2.out.trans he3)
  go_wp2_with fail
  refine (HF.out _ HE3.out).mono ?_
  rintro e w4 ⟨gs, A5, c5, rfl, hv4, ho4, ht4, he4⟩
  have hgl : gs.length = r := by rw [← Hr.out, ← hv4, List.length_map]
  have hx3 := (ans_rdX hv3 hfl HRa.out ho3 (fun f hf => (ht3.1 f hf).rd)).ext he4
  have hx4 := ans_rdX hv4 hgl HRa.out ho4 (fun f hf => (ht4.1 f hf).rd)
  have htu := ht3.toU
  have hin := htu.within
  have hv34 : fs.map Ci.val = gs.map Ci.val := hv3.trans hv4.symm
  have Hv34 := Lib.hid hv34
  have Hfl := Lib.hid hfl
  have Hv3 := Lib.hid hv3
  have htu3 := htu.ext he4
  have hE24 := he3.trans he4
  have z3 := he3.size
  have z4 := he4.size
  clear ho3 ho4 ht3 htu hv34 hfl hgl hv3 hv4
  go_wp2_with fail
  refine (alikeRow_any A4 r c4 fs A5 r c5 gs _ hx3 hx4 (by omega) (by omega)).mono ?_
  rintro e w5 ⟨rfl, he5⟩
  rw [alkR_iff.2 Hv34.out]
  go_wp2_with fail
  refine (texts_any A4 r c4 fs _ (hx3.ext he5) (by omega)).mono ?_
  rintro e w6 ⟨A6, c6, rfl, hs6, he6⟩
  go_wp2_with fail
  refine (texts_any A5 r c5 gs _ ((hx4.ext he5).ext he6) (by omega)).mono ?_
  rintro e w7 ⟨A7, c7, rfl, hs7, he7⟩
  have e47 := (he5.trans he6).trans he7
  have z5 := he5.size
  have z6 := he6.size
  go_wp2_with fail
  refine (apartRows12 A6 A7 r c6 c7 w2.heap.size w3.heap.size w5.heap.size w6.heap.size w2.heap.size w3.heap.size fs gs w7 (hs6.ext he7) hs7 Hfl.out (by omega) Hv34.out (fun v hv => by rw [Hv3.out] at hv; obtain ⟨q1, _, _, q2⟩ := HRa.out v hv; exact ⟨q1, by omega⟩) (htu3.ext e47) (fun g hg => (ht4.1 g hg).ext e47) hin (by omega) (by omega) (Nat.le_refl _)).mono ?_
  rintro e w8 ⟨rfl, hK8⟩
  have hE28 : Ext w2 w8 := hK8.toExt (hE24.trans e47) (fun s hs p hp => (hin s hs p hp).1)
  have HE28 := Lib.hid hE28
  clear hK8 hs6 hs7 he4 he5 he6 he7 e47 hx3 hx4 htu3 ht4 hin z4 z5 z6 hE24 hE28 he3 z3
  have hIn := intact_yes (c := c3) (c' := c) (HRi.out.ext HE28.out) (Hb.out.ext (HE2.out.trans HE28.out)) (by omega) (by omega)
  go_wp2_with fail
  refine hIn.mono ?_
  rintro e w9 ⟨rfl, q9, rfl⟩
  go_wp2_with fail
  go_ret
  exact ⟨rfl, (HE2.out.trans HE28.out).drewN _⟩

end Go.Proofs.YtlgcghjbekgnmaaGreat
