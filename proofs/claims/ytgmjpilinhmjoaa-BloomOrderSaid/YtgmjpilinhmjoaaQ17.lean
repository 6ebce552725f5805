/-
  Layer 13: BloomPlays.
-/
import Derived.Test.YtgmjpilinhmjoaaQ16
import Derived.Test.YtgmjpilinhmjoaaQ13
namespace Go.Proofs.Ytgmjpilinhmjoaa
open Go.RowKit
set_option maxRecDepth 100000

theorem marks_u8 : U8 (marks 64) := by
  intro x hx
  simp only [marks, List.mem_map] at hx
  obtain ⟨i, _, rfl⟩ := hx
  omega
theorem take_cat (k : List Nat) (m : List Nat) : (k ++ m).take k.length = k := List.take_left

set_option maxHeartbeats 8000000 in
theorem walk_BloomPlays (n : Int) (A1 : Option Addr) (n1 c1 : Nat) (ss1 : List Sl) (A4 : Option Addr) (n4 c4 : Nat) (ask : List Nat) (w : World)
    (h1 : -9223372036854775808 ≤ n) (h2 : n ≤ 9223372036854775807) (hx1 : TxL w A1 n1 ss1) (hn1 : n1 ≤ 5900000000000) (hy : Rd .u8 w A4 n4 ask) (hu : U8 ask) (hn4 : n4 * 1 ≤ 140737488351232) :
    Calls Try.prog 3 #[.int .i64 n, .slice A1 n1 c1, .slice A4 n4 c4] w fun e w' => e = .returned (.bool true) ∧ Ext w w' := by
  have Hx1 := Lib.hid hx1
  have Hy := Lib.hid hy
  have Hlen1 := Lib.hid hx1.len
  have hzl := zeros_len n
  have hlo := newLen_lo n
  have hhi := newLen_hi n
  have hnewf := fun W => new_any n W h1 h2
  have hnewr : ∀ W, Calls Try.prog 9 #[.int .i64 n] W fun e w' => ∃ A' c', e = .returned (.slice A' (8 * newLen n : Nat) c') ∧ OwnG shB 4 w' W.heap.size A' c' (bb (zeros n)) ∧ Ext W w' := fun W => by
    rw [bb_zeros]; exact refNew_any n W h1 h2
  have hz0 : zeros n = List.replicate (newLen n) 0 := rfl
  rw [← hz0] at hnewf
  obtain ⟨Z, hZ⟩ : ∃ Z, Z = zeros n := ⟨_, rfl⟩
  obtain ⟨L, hL⟩ : ∃ L, L = newLen n := ⟨_, rfl⟩
  rw [← hZ, ← hL] at hnewr
  rw [← hZ] at hnewf
  rw [← hL] at hlo hhi
  have hal : ∀ ks, (addAll Z ks).length = L := fun ks => by rw [addAll_len, hZ, hzl, hL]
  obtain ⟨M, hM⟩ : ∃ M, M = 8 * L := ⟨_, rfl⟩
  rw [← hM] at hnewr
  have Hnf := Lib.hid hnewf
  have Hnr := Lib.hid hnewr
  have Hal := Lib.hid hal
  have HM := Lib.hid hM
  clear hx1 hy hzl hnewf hnewr hz0 hZ hL hal hM
  go_enter Try.func3, Try.ntmps3
  go_wp2_with fail
  refine (alive13 w).mono ?_
  rintro e w0 ⟨rfl, he0⟩
  go_wp2_with fail
  refine (Hnf.out w0).mono ?_
  rintro e w1 ⟨g, r, rfl, hf, he1⟩
  have hgr := hf.rlt
  have hgl := hf.glt
  have hgb := hf.big
  have hs0 := he0.size
  go_wp2_with fail
  refine (Hnr.out w1).mono ?_
  rintro e w2 ⟨A2, c2, rfl, hown2, he2⟩
  have hE2 := (he0.trans he1).trans he2
  have hf2 := hf.ext he2
  go_wp2_with fail
  go_loopw [8, 22] (fun y i wr => ∃ (j : Nat) (A' : Option Addr) (c' : Nat), j ≤ n1 ∧ i = .int .i64 (j : Int) ∧ y = .slice A' M c' ∧ Fil wr w0.heap.size g r (addAll Z ((bodies ss1).take j)) ∧ OwnG shB 4 wr w1.heap.size A' c' (bb (addAll Z ((bodies ss1).take j))) ∧ Ext w wr ∧ w1.heap.size ≤ wr.heap.size) (fun _ i _ => n1 - (intOf i).toNat)
  case atStart => exact ⟨0, A2, c2, Nat.zero_le _, rfl, rfl, hf2, hown2, hE2, he2.size⟩
  case round =>
    obtain ⟨j, A', c', hj, rfl, rfl, hF, hO, hE, hz⟩ := hrel
    clear hf hf2 hown2
    by_cases hlt : j < n1
    · obtain ⟨b, o, s, rfl, hs, hcell, hti⟩ := (Hx1.out.ext hE).at_ hlt
      have hbl : (bodies ss1).length = n1 := by rw [bodies_len, Hlen1.out]
      have hnext : addAll Z ((bodies ss1).take (j + 1)) = addF (addAll Z ((bodies ss1).take j)) s.body := by
        rw [take_nextL _ _ (by omega), addAll_snoc, bodies_get hs]
      have hl := hti.len
      have hus := hti.u8
      have hfl := Hal.out ((bodies ss1).take j)
      obtain ⟨F, hFe⟩ : ∃ F, F = addAll Z ((bodies ss1).take j) := ⟨_, rfl⟩
      rw [← hFe] at hF hO hnext hfl
      have HF := Lib.hid hF
      have HO := Lib.hid hO
      have HE := Lib.hid hE
      have Hnext := Lib.hid hnext
      have Hti := Lib.hid hti
      have Hti0 := Lib.hid (Hx1.out.each s (List.mem_of_getElem? hs))
      have Hfl := Lib.hid hfl
      clear hF hO hE hnext hti hbl hs hFe hfl
      obtain ⟨k, hk⟩ : ∃ k, k = s.body := ⟨_, rfl⟩
      obtain ⟨q, hq⟩ : ∃ q, q = s.body.length := ⟨_, rfl⟩
      have hkq : k.length = q := by rw [hk, hq]
      have hrk : Hid (Rd .u8 wr s.A q k) := Lib.hid (by rw [hk, hq]; exact Hti.out.rd)
      have hrk0 : Hid (Rd .u8 w s.A q k) := Lib.hid (by rw [hk, hq]; exact Hti0.out.rd)
      rw [← hk] at Hnext hus
      rw [← hq] at hl hcell
      have Hkq := Lib.hid hkq
      clear hk hq hkq
      have hw64 : q + 64 ≤ 140737488355328 := by omega
      go_wp2_with fail
      refine (wide_any s.A q s.c k wr hrk.out hw64).mono ?_
      rintro e w3 ⟨A3, c3, rfl, hown3, he3⟩
      obtain ⟨b3, rfl, hb3, hb4, hb5, hb6⟩ := hown3.form (by simp [marks_len])
      rw [List.length_append, marks_len, Hkq.out] at hb5
      have hsl := run_upto .i64 (some ⟨b3, 0, none⟩) (q + 64) c3 q (by omega)
      have hr3 := he3.size
      have HO3 := Lib.hid hown3
      have hkr : Hid (Rd .u8 w3 (some ⟨b3, 0, none⟩) q k) := Lib.hid (by
        have := (hown3.rd' (n := q + 64) (by rw [List.length_append, marks_len, Hkq.out])).upto (k := q) (by omega)
        have e : (k ++ marks 64).take q = k := by rw [← Hkq.out]; exact take_cat _ _
        rw [e] at this
        exact this)
      clear hown3
      go_wp2_with fail
      have hrw3 : r < w3.heap.size := by omega
      refine (fadd_any _ g r F _ 1 1 [k] _ (HF.out.ext (he3.alloc _)) (fun W hW => rdss_one 23 hkr.out (fun _ a ha => by have e2 := Option.some.inj ha; subst e2; show b3 ≠ r; omega) hrw3 rfl W hW) (one_u8s hus) (by intro xs hxs; simp at hxs; subst hxs; have := Hkq.out; omega) (by decide)).mono ?_
      rintro e w4 ⟨rfl, hf4, hg4⟩
      rw [addAll_one, ← Hnext.out] at hf4
      have hnb : b3 ≠ r := by omega
      have HO4 := Lib.hid ((HO3.out.ext ((Ext.refl _).alloc _)).grown hg4 (fun a e e2 => by cases e; exact hnb (Option.some.inj e2)))
      have hE4 : Ext w w4 := grownBy_ext ((HE.out.trans he3).alloc _) hg4 (fun x e => by have e2 : r = x := Option.some.inj e; omega)
      have hblk := HO.out.block
      have HB4 := Lib.hid ((HO.out.ext (he3.alloc _)).grown hg4 (fun a e e2 => by have h1 := (hblk a e).1; have h2 : a.block = r := Option.some.inj e2; omega))
      have hmu : U8 (k ++ marks 64) := u8_append hus marks_u8
      have hml : (k ++ marks 64).length = q + 64 := by rw [List.length_append, marks_len, Hkq.out]
      have Hml := Lib.hid hml
      have Hmu := Lib.hid hmu
      have Hf4 := Lib.hid hf4
      have HE4 := Lib.hid hE4
      have Hblk := Lib.hid hblk
      clear hg4 hf4 hE4 hml hmu hblk
      go_wp2_with fail
      refine (intact_yes (HO4.out.rd' Hml.out) (hrk0.out.ext HE4.out) (by omega) (by omega)).mono ?_
      rintro e w5 ⟨rfl, q5, rfl⟩
      go_wp2_with fail
      refine (spoil_any (some ⟨b3, 0, none⟩) (q + 64) c3 _ (k ++ marks 64) _ (HO4.out.ext ((Ext.refl _).drewN q5)) Hml.out Hmu.out (by omega)).mono ?_
      rintro e w6 ⟨rfl, hO6, hg6⟩
      have hg6' : (w4.drewN q5).grownBy w6 (some b3) := hg6
      have Hf6 := Lib.hid ((Hf4.out.ext ((Ext.refl _).drewN q5)).grown hg6' (fun e => by have e2 : g = b3 := Option.some.inj e; omega) (fun e => by have e2 : r = b3 := Option.some.inj e; omega))
      have HB6 := Lib.hid ((HB4.out.ext ((Ext.refl _).drewN q5)).grown hg6' (fun a e e2 => by have h1 := (Hblk.out a e).2; have h2 : a.block = b3 := Option.some.inj e2; omega))
      have HE6 : Hid (Ext w w6) := Lib.hid (grownBy_ext (HE4.out.trans ((Ext.refl _).drewN q5)) hg6' (fun x e => by have e2 : b3 = x := Option.some.inj e; have := HE.out.size; omega))
      have hs6 : w1.heap.size ≤ w6.heap.size := by have := hg6'.size; have e3 : (w4.drewN q5).heap.size = w4.heap.size := rfl; have := Hf4.out.rlt; have h7 : w1.heap.size ≤ wr.heap.size := hz; have h8 := (HO4.out.block _ rfl).2; have h9 : b3 < w4.heap.size := h8; omega
      have hadd : Hid (Calls Try.prog 14 #[.slice A' M c', .slice s.A q s.c] w6 fun e w' => ∃ A'' c'', e = .returned (.slice A'' M c'') ∧ OwnG shB 4 w' w6.heap.size A'' c'' (bb (addF F k)) ∧ Ext w6 w') := Lib.hid (by
        have hMF : M = 8 * F.length := by rw [HM.out, Hfl.out]
        have hr := HB6.out.rd
        rw [bb_len, ← hMF] at hr
        have := refAdd_any A' c' F s.A q s.c k w6 (by rw [← hMF]; exact hr) (by rw [Hfl.out]; exact hlo) (by rw [Hfl.out]; exact hhi) (hrk0.out.ext HE6.out) hus (by omega)
        unfold BitsRow at this
        rw [addF_len, ← hMF] at this
        exact this)
      clear hg6 hg6' hO6
      go_wp2_with fail
      refine hadd.out.mono ?_
      rintro e w7 ⟨A7, c7, rfl, hO7, he7⟩
      rw [← Hnext.out] at hO7
      go_wp2_with fail
      go_roundw
      case rel => exact ⟨j + 1, A7, c7, hlt, by go_num, rfl, Hf6.out.ext he7, hO7.mono hs6, HE6.out.trans he7, Nat.le_trans hs6 he7.size⟩
      case measure => simp [intOf]; omega
    · obtain rfl : j = n1 := by omega
      rw [List.take_of_length_le (by rw [bodies_len, Hlen1.out]; exact Nat.le_refl _)] at hF hO
      have hfl := Hal.out (bodies ss1)
      obtain ⟨F, hFe⟩ : ∃ F, F = addAll Z (bodies ss1) := ⟨_, rfl⟩
      rw [← hFe] at hF hO hfl
      have hMF : M = 8 * F.length := by rw [HM.out, hfl]
      have hr := hO.rd
      rw [bb_len] at hr
      have hgo := hF.u8
      have HB := Lib.hid (bits_any _ g r F wr hF)
      rw [← hMF] at HB
      have HC := Lib.hid (count_any _ g r F wr hF)
      have HC2 := Lib.hid (refCount_any A' c' F wr hr (by rw [hfl]; exact hhi))
      rw [← hMF] at HC2
      have HHs := Lib.hid (has_any _ g r F A4 n4 c4 ask wr hF (Hy.out.ext hE) hu (by omega))
      have HHr : Hid (∀ W, Ext wr W → Calls Try.prog 19 #[.slice A' M c', .slice A4 n4 c4] W fun e w' => e = .returned (.bool (hasF F ask)) ∧ W = w') := Lib.hid (fun W hW => by
        have := refHas_any A' c' F A4 n4 c4 ask W (hr.ext hW) (by rw [hfl]; exact hlo) (by rw [hfl]; exact hhi) (Hy.out.ext (hE.trans hW)) hu (by omega)
        rwa [← hMF] at this)
      have HE1 : Hid (∀ W, Ext wr W → Calls Try.prog 23 #[.pointer (some ⟨g, 0, none⟩)] W fun e w' => ∃ A' c', e = .returned (.slice A' (encF F).length c') ∧ Own .u8 5 w' W.heap.size A' c' (encF F) ∧ Ext W w') := Lib.hid (fun W hW => encode_any _ g r F W (hF.ext hW))
      have HE2 : Hid (∀ W, Ext wr W → Calls Try.prog 24 #[.slice A' M c'] W fun e w' => ∃ A' c', e = .returned (.slice A' (encF F).length c') ∧ Own .u8 5 w' W.heap.size A' c' (encF F) ∧ Ext W w') := Lib.hid (fun W hW => by
        have := refEncode_any A' c' F W (hr.ext hW) hgo (by rw [hfl]; exact hlo) (by rw [hfl]; exact hhi)
        rw [← hMF] at this
        exact this)
      have hel : (encF F).length ≤ 5134 := by rw [encF_len, hfl]; have := vsize_le (u := L) (by omega); omega
      have heu := encF_u8 hgo
      obtain ⟨X, hX⟩ : ∃ X, X = encF F := ⟨_, rfl⟩
      rw [← hX] at HE1 HE2 hel heu
      obtain ⟨N, hN⟩ : ∃ N, N = X.length := ⟨_, rfl⟩
      rw [← hN] at HE1 HE2 hel
      have HN := Lib.hid hN
      have Heu := Lib.hid heu
      have HEw := Lib.hid hE
      clear hF hO hfl hFe hMF hr hgo hX hN heu hE
      go_wp2_with fail
      refine HB.out.mono ?_
      rintro e wa ⟨rfl, rfl⟩
      go_wp2_with fail
      refine HC.out.mono ?_
      rintro e wa ⟨rfl, rfl⟩
      go_wp2_with fail
      refine HC2.out.mono ?_
      rintro e wa ⟨rfl, rfl⟩
      go_wp2_with fail
      refine HHs.out.mono ?_
      rintro e wa ⟨rfl, hea⟩
      go_wp2_with fail
      refine (HHr.out _ hea).mono ?_
      rintro e wb ⟨rfl, rfl⟩
      have HEa := Lib.hid (HEw.out.trans hea)
      go_wp2_with fail
      refine (hash_any A4 n4 c4 ask wa (Hy.out.ext HEa.out) hu (by omega)).mono ?_
      rintro e wb ⟨rfl, rfl⟩
      go_wp2_with fail
      refine (refHash_any A4 n4 c4 ask wa (Hy.out.ext HEa.out) hu (by omega)).mono ?_
      rintro e wb ⟨rfl, rfl⟩
      go_wp2_with fail
      refine (HE1.out _ hea).mono ?_
      rintro e wb ⟨B1, d1, rfl, o1, f1⟩
      go_wp2_with fail
      refine (HE1.out _ (hea.trans f1)).mono ?_
      rintro e wc ⟨B2, d2, rfl, o2, f2⟩
      go_wp2_with fail
      refine (HE2.out _ ((hea.trans f1).trans f2)).mono ?_
      rintro e wd ⟨B3, d3, rfl, o3, f3⟩
      have p1 := (o1.ext (f2.trans f3))
      have p2 := (o2.ext f3)
      have e1 := o1.block
      have e2 := o2.block
      have e3 := o3.block
      go_wp2_with fail
      refine (apart_any B1 B2 B3 N d1 d2 d3 wa.heap.size X wa wd p1 HN.out.symm Heu.out (p2.rd' HN.out.symm) (o3.rd' HN.out.symm) (fun a a2 ha ha2 => by have := (e1 a ha).2; have := (e2 a2 ha2).1; omega) (fun a a3 ha ha3 => by have := (e1 a ha).2; have := (e3 a3 ha3).1; have := f2.size; omega) ((f1.trans f2).trans f3) (Nat.le_refl _) ((f1.trans f2).trans f3).size (by omega)).mono ?_
      rintro e we ⟨rfl, fe⟩
      go_wp2_with fail
      refine (HE1.out _ (hea.trans fe)).mono ?_
      rintro e wf ⟨B4, d4, rfl, o4, f4⟩
      go_wp2_with fail
      refine (HE2.out _ ((hea.trans fe).trans f4)).mono ?_
      rintro e wg ⟨B5, d5, rfl, o5, f5⟩
      go_wp2_with fail
      refine (same_yes ((o4.ext f5).rd' HN.out.symm) (o5.rd' HN.out.symm) (by omega)).mono ?_
      rintro e wh ⟨rfl, qh, rfl⟩
      go_wp2_with fail
      go_ret
      exact ⟨rfl, (HEa.out.trans (fe.trans (f4.trans f5))).trans ((Ext.refl _).drewN qh)⟩

end Go.Proofs.Ytgmjpilinhmjoaa
