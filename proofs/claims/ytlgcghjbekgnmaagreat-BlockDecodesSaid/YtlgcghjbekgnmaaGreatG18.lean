import Derived.Test.YtlgcghjbekgnmaaGreatG17
import Derived.Test.YtlgcghjbekgnmaaGreatG12
import Derived.Test.YtlgcghjbekgnmaaGreatG13
import Derived.Test.YtlgcghjbekgnmaaGreatG4
import Derived.Test.YtlgcghjbekgnmaaGreatG16

/-
  Layer 12: cells read one by one, by the document.
-/
namespace Go.Proofs.YtlgcghjbekgnmaaGreat
open Go.RowKit
set_option maxRecDepth 100000

theorem piece_cut12 (bs : List Nat) (m u : Nat) : piece bs (m : Int) ((m : Int) + (u : Int)) = cut bs m u := by
  unfold piece cut
  rw [show ((m : Int)).toNat = m by omega, show ((m : Int) + (u : Int)).toNat = m + u by omega, List.drop_take, show m + u - m = u by omega]

set_option maxHeartbeats 6400000 in
theorem refPlain_any (k : Int) (hk : 1 ≤ k ∧ k ≤ 8) (A : Option Addr) (l c n : Nat) (bs : List Nat) (w : World) (hx : Rd .u8 w A l bs) (hu : U8 bs) (hl : l ≤ 100000) (hn : n ≤ 4096) :
    Calls Tryz.prog 85 #[.int .i64 k, .slice A l c, .int .i64 (n : Int)] w (GcPost (gplR k bs n) w) := by
  have hbl := hx.len
  have HG := Lib.hid (fun (a : Int) W (hW : Ext w W) => refGet_any A l c a bs W (hx.ext hW) hu (by omega))
  unfold GetPost at HG
  have HPc := Lib.hid (fun (m u : Nat) (hmu : m + u ≤ l) W (hW : Ext w W) => piece_cut12 bs m u ▸ piece_any A l c (m : Int) ((m : Int) + (u : Int)) bs W (hx.ext hW) (by omega) (by omega))
  have Hcl := Lib.hid (fun (m u : Nat) (hmu : m + u ≤ l) => cut_len (bs := bs) (a := m) (m := u) (by rw [hbl]; exact hmu))
  have Hat := Lib.hid (fun (a : Int) (v : Nat) (nx : Int) (h : vget bs a = (v, nx, 0)) => vget_at hu h)
  have hR := gplR.eq_1 k bs n
  rw [hbl] at hR
  obtain ⟨R, hRR⟩ : ∃ R, R = plA k bs n 0 [] := ⟨_, rfl⟩
  rw [← hRR] at hR
  have HR := Lib.hid hR
  have HS : Hid (plA k bs (n - 0) ((0 : Nat) : Int) (([] : List Ci).map Ci.val) = R) := Lib.hid (by rw [hRR]; rfl)
  have Hst := Lib.hid (fun (q : Nat) (a : Int) (acc : List Cv) => plA.eq_2 k bs a acc q)
  have Hbl := Lib.hid hbl
  have Hpc := Lib.hid (fun (a : Int) => pcR.eq_1 k bs a)
  have HO0 := Lib.hid (OwnX.made (base := w.heap.size) w (Nat.le_refl _))
  have hk6 : (numK k = true) ↔ k ≤ 6 := by unfold numK; rw [decide_eq_true_eq]; exact ⟨fun h => h.2, fun h => ⟨hk.1, h⟩⟩
  have Hk6 := Lib.hid hk6
  clear hx hu hbl hR hRR hk6 hk
  go_enter Tryz.func85, Tryz.ntmps85
  go_wp2_with fail
  go_loopw [8, 9, 10] (fun v y i wr => ∃ (j a : Nat) (A' : Option Addr) (c' : Nat) (fs : List Ci), j ≤ n ∧ a ≤ l ∧ i = .int .i64 (j : Int) ∧ y = .int .i64 (a : Int) ∧ v = .slice A' j c' ∧ Hid (fs.length = j) ∧ Hid (OwnX wr w.heap.size A' c' fs) ∧ Hid (TxtX wr w.heap.size fs) ∧ Hid (Ext w wr) ∧ Hid (plA k bs (n - j) (a : Int) (fs.map Ci.val) = R)) (fun _ _ i _ => n - (intOf i).toNat)
  case atStart => exact ⟨0, 0, _, _, [], Nat.zero_le _, Nat.zero_le _, rfl, rfl, rfl, rfl, HO0.out, Lib.hid (TxtX.nil _ _), Lib.hid ((Ext.refl _).alloc _), HS.out⟩
  case round =>
    clear HO0 HS
    obtain ⟨j, a, A', c', fs, hj, haa, rfl, rfl, rfl, Hfl, HO, HX, HE, HB⟩ := hrel
    have hz := HE.out.size
    by_cases hlt : j < n
    · have hG := HG.out (a : Int) wr HE.out
      have hat := Hat.out (a : Int)
      have hB := HB.out
      rw [show n - j = (n - (j + 1)) + 1 by omega, Hst.out] at hB
      have hpc := Hpc.out (a : Int)
      obtain ⟨G, hGG⟩ : ∃ G, G = vget bs (a : Int) := ⟨_, rfl⟩
      have hdx : dtx bs (a : Int) = if G.2.2 ≠ 0 then ([], 0, G.2.2) else if 200 < G.1 then ([], 0, 4) else if (bs.length : Int) - G.2.1 < G.1 then ([], 0, 2) else (cut bs G.2.1.toNat G.1, G.2.1 + (G.1 : Int), 0) := by rw [hGG]; rfl
      rw [← hGG] at hG hpc
      rw [← hGG] at hat
      obtain ⟨u, nx, er⟩ := G
      simp only at hG hdx hpc
      clear hGG HB
      by_cases he : er = 0
      · subst he
        obtain ⟨v0, v1, v2, v3, _⟩ := hat u nx rfl
        obtain ⟨m, rfl⟩ := Int.eq_ofNat_of_zero_le (show 0 ≤ nx by omega)
        rw [Hbl.out] at v2
        have hml : m ≤ l := by omega
        have HGj := Lib.hid hG
        rw [if_neg (fun h => h rfl)] at hdx
        by_cases h6 : k ≤ 6
        · rw [if_pos (Hk6.out.2 h6), if_neg (fun h => h rfl)] at hpc
          rw [hpc, if_neg (fun h => h rfl)] at hB
          have HB2 := Lib.hid hB
          have HUf := Lib.hid (fun W => refUnfold_any (u : Int) W (by omega) (by omega))
          obtain ⟨f, hf⟩ : ∃ f, f = unfS (u : Int) := ⟨_, rfl⟩
          rw [← hf] at HUf HB2
          clear hB hat hpc hdx hG hf v0 v1 v2
          go_wp2_with fail
          refine HGj.out.mono ?_
          rintro e w1 ⟨rfl, rfl⟩
          go_wp2_with fail
          refine (HUf.out _).mono ?_
          rintro e w2 ⟨rfl, rfl⟩
          have hX : Ext wr (wr.alloc (.cells #[.bool false, .int .i64 f, .slice none 0 0] 61)) := (Ext.refl wr).alloc _
          have hlow : ∀ g ∈ fs, ∀ p, g.A = some p → p.block < wr.heap.size := fun g hg p hp => ((HX.out.1 g hg).block p hp).2
          go_wp2_with (at_builtin; refine wpList_pushX (w0 := w) ⟨false, f, none, 0, []⟩ rfl _ _ rfl (HO.out.ext hX) j Hfl.out rfl rfl (heap_alloc_new wr _) (by omega) (HE.out.trans hX) (by simp; omega) ?_; intro A3 c3 w3 hown4 hgr hb3 hz3)
          have HX3 := Lib.hid (TxtX.grown (base' := w.heap.size) (TxtX.snoc (HX.out.ext hX) (f := ⟨false, f, none, 0, []⟩) (base' := wr.heap.size) (Own.nil ..) hz hlow) (HO.out.ext hX) hgr)
          have HO3 := Lib.hid hown4
          have HE3 := Lib.hid hb3
          clear hown4 hgr hb3 hlow
          go_roundw
          case rel => exact ⟨j + 1, m, A3, c3, _, hlt, hml, by go_num, rfl, rfl, Lib.hid (by rw [List.length_append, Hfl.out]; rfl), HO3.out, HX3.out, HE3.out, Lib.hid (by rw [List.map_append]; exact HB2.out)⟩
          case measure => simp [intOf]; omega
        · have hnk : ¬ numK k = true := fun h => h6 (Hk6.out.1 h)
          have h7 : 6 < k := by omega
          rw [if_neg hnk, hdx] at hpc
          by_cases h200 : 200 < u
          · rw [if_pos h200] at hpc
            rw [hpc, if_pos (by decide)] at hB
            have HR2 := Lib.hid (show gplR k bs n = ([], 4) by rw [HR.out, ← hB]; exact if_pos (by decide))
            have hI : (200 : Int) < (u : Int) := by omega
            clear hB hat hpc hdx hG v0 v1 v2 h200 h6 hnk
            go_wp2_with fail
            refine HGj.out.mono ?_
            rintro e w1 ⟨rfl, rfl⟩
            go_wp2_with fail
            go_ret2
            exact GcPost.bad _ HR2.out HE.out
          · rw [if_neg h200, Hbl.out] at hpc
            have hI : ¬ (200 : Int) < (u : Int) := by omega
            have hw64 : IntKind.u64.wrap ((l : Int) - (m : Int)) = (l : Int) - (m : Int) := IntWalk.u64_in _ (by omega)
            have hwi : IntKind.i64.wrap (u : Int) = (u : Int) := IntWalk.i64_in _ (by omega)
            by_cases hs : (l : Int) - (m : Int) < (u : Int)
            · rw [if_pos hs] at hpc
              rw [hpc, if_pos (by decide)] at hB
              have HR2 := Lib.hid (show gplR k bs n = ([], 2) by rw [HR.out, ← hB]; exact if_pos (by decide))
              clear hB hat hpc hdx hG v0 v1 v2 h200 h6 hnk
              go_wp2_with fail
              refine HGj.out.mono ?_
              rintro e w1 ⟨rfl, rfl⟩
              go_wp2_with fail
              go_ret2
              exact GcPost.bad _ HR2.out HE.out
            · rw [if_neg hs, Int.toNat_natCast] at hpc
              rw [hpc, if_neg (fun h => h rfl)] at hB
              have HB2 := Lib.hid hB
              have hmu : m + u ≤ l := by omega
              have hPc := HPc.out m u hmu wr HE.out
              have hcl := Hcl.out m u hmu
              obtain ⟨t, ht⟩ : ∃ t, t = cut bs m u := ⟨_, rfl⟩
              rw [← ht] at hPc hcl HB2
              rw [hcl] at hPc
              have HPj := Lib.hid hPc
              have Hcj := Lib.hid hcl
              clear hB hat hpc hdx hG v0 v1 v2 h200 h6 hnk hPc hcl ht
              go_wp2_with fail
              refine HGj.out.mono ?_
              rintro e w1 ⟨rfl, rfl⟩
              go_wp2_with fail
              refine HPj.out.mono ?_
              rintro e w2 ⟨A2, c2, rfl, ho2, he2⟩
              have hE2 := HE.out.trans he2
              have hX : Ext w2 (w2.alloc (.cells #[.bool false, .int .i64 0, .slice A2 u c2] 61)) := (Ext.refl w2).alloc _
              have hlow : ∀ g ∈ fs, ∀ p, g.A = some p → p.block < wr.heap.size := fun g hg p hp => ((HX.out.1 g hg).block p hp).2
              have hz2 := hE2.size
              go_wp2_with (at_builtin; refine wpList_pushX (w0 := w) ⟨false, 0, A2, c2, t⟩ rfl _ _ rfl ((HO.out.ext he2).ext hX) j Hfl.out rfl rfl (by rw [Hcj.out]; exact heap_alloc_new w2 _) (by omega) (hE2.trans hX) (by simp; omega) ?_; intro A3 c3 w3 hown4 hgr hb3 hz3)
              have HX3 := Lib.hid (TxtX.grown (base' := w.heap.size) (TxtX.snoc ((HX.out.ext he2).ext hX) (f := ⟨false, 0, A2, c2, t⟩) (base' := wr.heap.size) (ho2.ext hX) hz hlow) ((HO.out.ext he2).ext hX) hgr)
              have HO3 := Lib.hid hown4
              have HE3 := Lib.hid hb3
              clear hown4 hgr hb3 hlow ho2
              go_roundw
              case rel => exact ⟨j + 1, m + u, A3, c3, _, hlt, hmu, by go_num, by go_num, rfl, Lib.hid (by rw [List.length_append, Hfl.out]; rfl), HO3.out, HX3.out, HE3.out, Lib.hid (by rw [List.map_append]; exact HB2.out)⟩
              case measure => simp [intOf]; omega
      · have heb : (er == 0) = false := beq_eq_false_iff_ne.2 he
        have hp2 : (pcR k bs (a : Int)).2.2 = er := by
          by_cases hkk : numK k = true
          · rw [hpc, if_pos hkk, if_pos he]
          · rw [hpc, if_neg hkk, hdx, if_pos he]
        rw [hp2, if_pos he] at hB
        have HR2 := Lib.hid (show gplR k bs n = ([], er) by rw [HR.out, ← hB]; exact if_pos he)
        have HGj := Lib.hid hG
        clear hB hat he hp2 hpc hdx hG
        go_wp2_with fail
        refine HGj.out.mono ?_
        rintro e w1 ⟨rfl, rfl⟩
        go_wp2_with fail
        go_ret2
        exact GcPost.bad _ HR2.out HE.out
    · obtain rfl : j = n := by omega
      have hB := HB.out
      rw [Nat.sub_self] at hB
      have hB2 : R = (fs.map Ci.val, (a : Int), 0) := hB.symm
      have hR3 : gplR k bs j = if (a : Int) < (l : Int) then ([], 3) else (fs.map Ci.val, 0) := by rw [HR.out, hB2]; exact if_neg (fun h => h rfl)
      clear hB hB2 HB
      by_cases hal : a < l
      · have HR3 := Lib.hid (hR3.trans (if_pos (by omega)))
        have hI : (a : Int) < (l : Int) := by omega
        clear hR3
        go_wp2_with fail
        go_ret2
        exact GcPost.bad _ HR3.out HE.out
      · have HR3 := Lib.hid (hR3.trans (if_neg (by omega)))
        have hI : ¬ (a : Int) < (l : Int) := by omega
        clear hR3
        go_wp2_with fail
        go_ret2
        rw [HR3.out]
        exact ⟨fs, A', c', by rw [List.length_map, Hfl.out]; rfl, rfl, HO.out, HX.out, HE.out⟩

end Go.Proofs.YtlgcghjbekgnmaaGreat

/-
  Layer 8: the document's Decode.
-/
namespace Go.Proofs.YtlgcghjbekgnmaaGreat
open Go.RowKit
set_option maxRecDepth 100000

theorem decR_open {bs : List Nat} {m : Nat} {vs : List Int} {a a1 a2 : Int} {u k : Nat} (h1 : vget bs a = (u, a1, 0)) (h2 : vget bs a1 = (k, a2, 0)) :
    decR bs (m + 1) vs a = if k = 0 ∨ vs.getLast? = some (unfS u) then ([], 5) else if 4096 - (vs.length : Int) < k then ([], 4) else decR bs m (vs ++ List.replicate k (unfS u)) a2 := by
  rw [decR, h1]
  simp only
  rw [h2]
  simp only [ne_eq, not_true_eq_false, if_false]
theorem decR_e1 {bs : List Nat} {m : Nat} {vs : List Int} {a a1 e : Int} {u : Nat} (h1 : vget bs a = (u, a1, e)) (he : e ≠ 0) : decR bs (m + 1) vs a = ([], e) := by
  rw [decR, h1]
  simp only
  rw [if_pos he]
theorem decR_e2 {bs : List Nat} {m : Nat} {vs : List Int} {a a1 a2 e : Int} {u k : Nat} (h1 : vget bs a = (u, a1, 0)) (h2 : vget bs a1 = (k, a2, e)) (he : e ≠ 0) : decR bs (m + 1) vs a = ([], e) := by
  rw [decR, h1]
  simp only
  rw [h2, if_neg (by simp)]
  simp only
  rw [if_pos he]

set_option maxHeartbeats 6400000 in
set_option maxRecDepth 100000 in
theorem refDecode_any (B : Option Addr) (nb cb : Nat) (bs : List Nat) (w : World) (hx : Rd .u8 w B nb bs) (hu : U8 bs) (hnb : nb ≤ 140737488355328) :
    Calls Tryz.prog 86 #[.slice B nb cb] w (JoinPost (decode8 bs) w) := by
  have Hl := Lib.hid hx.len
  have hbl : ∀ at_, (vget bs at_).1 < 18446744073709551616 := fun at_ => (vget_bounds (a := at_) hu (by rw [hx.len]; exact hnb)).1
  obtain ⟨R, hR⟩ : ∃ R, R = decode8 bs := ⟨_, rfl⟩
  rw [← hR]
  unfold decode8 at hR
  have G1 : ∀ W at_, Ext w W → Calls Tryz.prog 46 #[.slice B nb cb, .int .i64 at_] W (GetPost bs at_ W) := fun W at_ hW => refGet_any B nb cb at_ bs W (hx.ext hW) hu hnb
  rcases hg : vget bs 0 with ⟨M, a, e1⟩
  rw [hg] at hR
  simp only at hR
  have HG := Lib.hid G1
  have Hg := Lib.hid hg
  have HR := Lib.hid hR
  have Hbl := Lib.hid hbl
  clear G1 hg hR hbl hx hu
  go_enter Tryz.func86, Tryz.ntmps86
  go_wp2_with fail
  refine (HG.out _ 0 (Ext.refl w)).mono ?_
  rintro e w1 ⟨rfl, rfl⟩
  rw [Hg.out]
  simp only
  by_cases h1 : e1 = 0
  · subst h1
    by_cases h2 : 4096 < M
    · have HE := Lib.hid (show R = ([], 4) by rw [HR.out, if_neg (by simp), if_pos h2])
      have hb1 : (4096 : Int) < (M : Int) := by omega
      go_wp2_with fail
      go_ret2
      exact ⟨none, 0, by rw [HE.out]; rfl, by rw [HE.out]; exact OwnG.nil _ _ _ _, Ext.refl w⟩
    · have HE := Lib.hid (show R = decR bs M [] a by rw [HR.out, if_neg (by simp), if_neg h2])
      have hb1 : decide ((4096 : Int) < (M : Int)) = false := decide_eq_false (by omega)
      go_wp2_with fail
      go_loopw [5, 7, 8] (fun p y i wr => ∃ (j L : Nat) (at_ : Int) (vs : List Int) (A' : Option Addr) (c' : Nat), j ≤ M ∧ L ≤ 4096 ∧ L = vs.length ∧ p = .int .i64 at_ ∧ i = .int .u64 j ∧ y = .slice A' L c' ∧ OwnG shZ 2 wr w.heap.size A' c' vs ∧ Hid (R = decR bs (M - j) vs at_) ∧ (L = 0 ↔ j = 0) ∧ Below w.heap.size w wr) (fun _ _ i _ => M - (intOf i).toNat)
      case atStart => exact ⟨0, 0, a, [], _, _, Nat.zero_le _, Nat.zero_le _, rfl, rfl, rfl, rfl, OwnG.made _ _ _ (Nat.le_refl _), HE, Iff.rfl, (Ext.refl w).alloc _⟩
      case round =>
        obtain ⟨j, L, at_, vs, A', c', hj, hL4, hL, rfl, rfl, rfl, hown, HJ, hLj, hb⟩ := hrel
        have HL := Lib.hid hL
        have hz : w.heap.size ≤ wr.heap.size := hb.size
        have Ho := Lib.hid hown
        have Hb := Lib.hid hb
        clear hL hown hb
        by_cases hlt : j < M
        · have HJ2 := Lib.hid (HJ.out.trans (by rw [show M - j = (M - (j + 1)) + 1 from by omega]))
          rcases hg1 : vget bs at_ with ⟨u, a1, e2⟩
          have hub := Hbl.out at_
          rw [hg1] at hub
          simp only at hub
          have Hub := Lib.hid hub
          have Hg1 := Lib.hid hg1
          clear hg1 hub HJ
          go_wp2_with fail
          refine (HG.out _ at_ Hb.out).mono ?_
          rintro e w1 ⟨rfl, rfl⟩
          rw [Hg1.out]
          simp only
          by_cases h3 : e2 = 0
          · subst h3
            rcases hg2 : vget bs a1 with ⟨k, a2, e3⟩
            have Hg2 := Lib.hid hg2
            clear hg2
            go_wp2_with fail
            refine (HG.out _ a1 Hb.out).mono ?_
            rintro e w1 ⟨rfl, rfl⟩
            rw [Hg2.out]
            simp only
            by_cases h4 : e3 = 0
            · subst h4
              obtain ⟨v, hv⟩ : ∃ v, v = unfS u := ⟨_, rfl⟩
              have HE2 := Lib.hid (HJ2.out.trans (decR_open Hg1.out Hg2.out))
              rw [← hv] at HE2
              have Hv := Lib.hid hv
              clear hv HJ2
              go_wp2_with fail
              refine (refUnfold_any (u : Int) _ (by omega) (by have := Hub.out; omega)).mono ?_
              rintro e w1 ⟨rfl, rfl⟩
              rw [← Hv.out]
              by_cases h5 : k = 0
              · subst h5
                have HE3 := Lib.hid (show R = ([], 5) by rw [HE2.out, if_pos (.inl rfl)])
                go_wp2_with fail
                go_ret2
                exact ⟨none, 0, by rw [HE3.out]; rfl, by rw [HE3.out]; exact OwnG.nil _ _ _ _, Hb.out⟩
              · have hk0 : ((k : Int) == 0) = false := by rw [beq_eq_false_iff_ne]; omega
                have Hk0 := Lib.hid h5
                rcases Nat.eq_zero_or_pos j with hj0 | hjp
                · subst hj0
                  obtain rfl : L = 0 := hLj.2 rfl
                  obtain rfl : vs = [] := List.eq_nil_of_length_eq_zero HL.out.symm
                  have HNE := Lib.hid (show ¬ (k = 0 ∨ ([] : List Int).getLast? = some v) by rintro (h | h); exact Hk0.out h; simp at h)
                  clear hLj h5
                  have hw : IntKind.u64.wrap (4096 - ((0 : Nat) : Int)) = 4096 - ((0 : Nat) : Int) := IntWalk.u64_in _ (by omega)
                  by_cases hbig : 4096 - ((0 : Nat) : Int) < (k : Int)
                  · have HE3 := Lib.hid (show R = ([], 4) by rw [HE2.out, if_neg HNE.out, if_pos (by rw [← HL.out]; exact hbig)])
                    clear HE2
                    go_wp2_with fail
                    go_ret2
                    exact ⟨none, 0, by rw [HE3.out]; rfl, by rw [HE3.out]; exact OwnG.nil _ _ _ _, Hb.out⟩
                  · have HE3 := Lib.hid (show R = decR bs (M - (0 + 1)) ([] ++ List.replicate k v) a2 by rw [HE2.out, if_neg HNE.out, if_neg (by rw [← HL.out]; exact hbig)])
                    have hd2 : decide (4096 - ((0 : Nat) : Int) < (k : Int)) = false := decide_eq_false hbig
                    have hkL : k + 0 ≤ 4096 := by omega
                    have hk1 : 1 ≤ k := by have := Hk0.out; omega
                    clear HE2
                    go_wp2_with fail
                    go_loopw [7, 16] (fun y i wr2 => ∃ (t : Nat) (A2 : Option Addr) (c2 : Nat), t ≤ k ∧ i = .int .u64 t ∧ y = .slice A2 (0 + t) c2 ∧ OwnG shZ 2 wr2 w.heap.size A2 c2 ([] ++ List.replicate t v) ∧ Below w.heap.size w wr2) (fun _ i _ => k - (intOf i).toNat)
                    case atStart => exact ⟨0, A', c', Nat.zero_le _, rfl, rfl, by simpa using Ho.out, Hb.out⟩
                    case round =>
                      obtain ⟨t, A2, c2, ht, rfl, rfl, hown2, hb2⟩ := hrel
                      have hz2 : w.heap.size ≤ wr.heap.size := hb2.size
                      by_cases hlt2 : t < k
                      · have hl : ([] ++ List.replicate t v).length = 0 + t := by rw [List.length_append, List.length_replicate, ← HL.out]
                        have Hl2 := Lib.hid hl
                        have Ho2 := Lib.hid hown2
                        have Hb2 := Lib.hid hb2
                        have hu1 : IntKind.u64.wrap ((t : Int) + 1) = (t : Int) + 1 := IntWalk.u64_in _ (by omega)
                        have hE1 : ∀ o, Ext wr (wr.alloc o) := fun o => (Ext.refl _).alloc o
                        clear hl hown2 hb2
                        go_wp2_with (at_builtin; refine wpList_pushG (w0 := w) (base := w.heap.size) shZ v 2 rfl _ _ 115 rfl _ 8 Tryz.underlying115 Tryz.infoI64 rfl (by decide) (Ho2.out.ext (hE1 _)) (0 + t) Hl2.out rfl rfl (heap_alloc_new _ _) (by omega) (by omega) (Below.alloc Hb2.out hz2 _) (by simp; omega) ?_; intro A3 c3 w3 hown3 _ hb3 hz3)
                        go_roundw
                        case rel => exact ⟨t + 1, A3, c3, by omega, by go_num, (by first | rfl | (congr 1; omega)), by rw [List.replicate_succ', ← List.append_assoc]; exact hown3, hb3⟩
                        case measure => simp [intOf]; omega
                      · obtain rfl : t = k := by omega
                        have hl : ([] ++ List.replicate t v).length = 0 + t := by rw [List.length_append, List.length_replicate, ← HL.out]
                        have Hl2 := Lib.hid hl
                        have hu1 : IntKind.u64.wrap ((0 : Int) + 1) = (0 : Int) + 1 := IntWalk.u64_in _ (by omega)
                        clear hl
                        go_wp2_with fail
                        go_roundw
                        case rel => exact ⟨0 + 1, 0 + t, a2, [] ++ List.replicate t v, A2, c2, by omega, by omega, Hl2.out.symm, rfl, by go_num, rfl, hown2, HE3, by omega, hb2⟩
                        case measure => simp [intOf]; omega
                · obtain ⟨p, rfl⟩ : ∃ p, j = p + 1 := ⟨j - 1, by omega⟩
                  obtain ⟨m, rfl⟩ : ∃ m, L = m + 1 := ⟨L - 1, by omega⟩
                  obtain ⟨b', o', hA', hbl', hc'⟩ := (Ho.out.rd' HL.out.symm).atZ (j := m) (by omega)
                  have hla := last_getD HL.out.symm
                  obtain ⟨x, hx⟩ : ∃ x, x = vs.getD m 0 := ⟨_, rfl⟩
                  rw [← hx] at hla hc'
                  have hp0 : decide ((0 : Int) < (p : Int) + 1) = true := decide_eq_true (by omega)
                  subst hA'
                  clear hx hLj h5
                  by_cases hxv : x = v
                  · have HE3 := Lib.hid (show R = ([], 5) by rw [HE2.out, if_pos (.inr (by rw [hla, hxv]))])
                    have hne : (x == v) = true := by simpa using hxv
                    clear HE2 hla hxv
                    go_wp2_with fail
                    go_ret2
                    exact ⟨none, 0, by rw [HE3.out]; rfl, by rw [HE3.out]; exact OwnG.nil _ _ _ _, Hb.out⟩
                  · have hne : (x == v) = false := by simpa using hxv
                    have HNE := Lib.hid (show ¬ (k = 0 ∨ vs.getLast? = some v) by rintro (h | h); exact Hk0.out h; rw [hla] at h; injection h with h; exact hxv h)
                    clear hla hxv
                    have hw : IntKind.u64.wrap (4096 - ((m : Int) + 1)) = 4096 - ((m : Int) + 1) := IntWalk.u64_in _ (by omega)
                    by_cases hbig : 4096 - ((m : Int) + 1) < (k : Int)
                    · have HE3 := Lib.hid (show R = ([], 4) by rw [HE2.out, if_neg HNE.out, if_pos (by rw [← HL.out]; exact hbig)])
                      clear HE2
                      go_wp2_with fail
                      go_ret2
                      exact ⟨none, 0, by rw [HE3.out]; rfl, by rw [HE3.out]; exact OwnG.nil _ _ _ _, Hb.out⟩
                    · have HE3 := Lib.hid (show R = decR bs (M - (p + 1 + 1)) (vs ++ List.replicate k v) a2 by rw [HE2.out, if_neg HNE.out, if_neg (by rw [← HL.out]; exact hbig)])
                      have hd2 : decide (4096 - ((m : Int) + 1) < (k : Int)) = false := decide_eq_false hbig
                      have hkL : k + m + 1 ≤ 4096 := by omega
                      have hk1 : 1 ≤ k := by have := Hk0.out; omega
                      clear HE2
                      go_wp2_with fail
                      go_loopw [7, 16] (fun y i wr2 => ∃ (t : Nat) (A2 : Option Addr) (c2 : Nat), t ≤ k ∧ i = .int .u64 t ∧ y = .slice A2 (m + 1 + t) c2 ∧ OwnG shZ 2 wr2 w.heap.size A2 c2 (vs ++ List.replicate t v) ∧ Below w.heap.size w wr2) (fun _ i _ => k - (intOf i).toNat)
                      case atStart => exact ⟨0, some ⟨b', o', none⟩, c', Nat.zero_le _, rfl, rfl, by simpa using Ho.out, Hb.out⟩
                      case round =>
                        obtain ⟨t, A2, c2, ht, rfl, rfl, hown2, hb2⟩ := hrel
                        have hz2 : w.heap.size ≤ wr.heap.size := hb2.size
                        by_cases hlt2 : t < k
                        · have hl : (vs ++ List.replicate t v).length = m + 1 + t := by rw [List.length_append, List.length_replicate, ← HL.out]
                          have Hl2 := Lib.hid hl
                          have Ho2 := Lib.hid hown2
                          have Hb2 := Lib.hid hb2
                          have hu1 : IntKind.u64.wrap ((t : Int) + 1) = (t : Int) + 1 := IntWalk.u64_in _ (by omega)
                          have hE1 : ∀ o, Ext wr (wr.alloc o) := fun o => (Ext.refl _).alloc o
                          clear hl hown2 hb2
                          go_wp2_with (at_builtin; refine wpList_pushG (w0 := w) (base := w.heap.size) shZ v 2 rfl _ _ 115 rfl _ 8 Tryz.underlying115 Tryz.infoI64 rfl (by decide) (Ho2.out.ext (hE1 _)) (m + 1 + t) Hl2.out rfl rfl (heap_alloc_new _ _) (by omega) (by omega) (Below.alloc Hb2.out hz2 _) (by simp; omega) ?_; intro A3 c3 w3 hown3 _ hb3 hz3)
                          go_roundw
                          case rel => exact ⟨t + 1, A3, c3, by omega, by go_num, (by first | rfl | (congr 1; omega)), by rw [List.replicate_succ', ← List.append_assoc]; exact hown3, hb3⟩
                          case measure => simp [intOf]; omega
                        · obtain rfl : t = k := by omega
                          have hl : (vs ++ List.replicate t v).length = m + 1 + t := by rw [List.length_append, List.length_replicate, ← HL.out]
                          have Hl2 := Lib.hid hl
                          have hu1 : IntKind.u64.wrap ((p : Int) + 1 + 1) = (p : Int) + 1 + 1 := IntWalk.u64_in _ (by omega)
                          clear hl
                          go_wp2_with fail
                          go_roundw
                          case rel => exact ⟨p + 1 + 1, m + 1 + t, a2, vs ++ List.replicate t v, A2, c2, by omega, by omega, Hl2.out.symm, rfl, by go_num, rfl, hown2, HE3, by omega, hb2⟩
                          case measure => simp [intOf]; omega
            · have hb0 : (e3 != 0) = true := by simpa using h4
              have HE3 := Lib.hid (HJ2.out.trans (decR_e2 Hg1.out Hg2.out h4))
              clear h4 HJ2
              go_wp2_with fail
              go_ret2
              exact ⟨none, 0, by rw [HE3.out]; rfl, by rw [HE3.out]; exact OwnG.nil _ _ _ _, Hb.out⟩
          · have hb0 : (e2 != 0) = true := by simpa using h3
            have HE3 := Lib.hid (HJ2.out.trans (decR_e1 Hg1.out h3))
            clear h3 HJ2
            go_wp2_with fail
            go_ret2
            exact ⟨none, 0, by rw [HE3.out]; rfl, by rw [HE3.out]; exact OwnG.nil _ _ _ _, Hb.out⟩
        · obtain rfl : j = M := by omega
          have HS := Lib.hid (show R = if at_ < (bs.length : Int) then ([], 3) else (vs, 0) by rw [HJ.out, Nat.sub_self, decR])
          have h1 := HL.out
          subst h1
          by_cases h5 : at_ < (nb : Int)
          · have HS2 := Lib.hid (show R = ([], 3) by rw [HS.out, if_pos (by rw [Hl.out]; exact h5)])
            clear HS
            go_wp2_with fail
            go_ret2
            exact ⟨none, 0, by rw [HS2.out]; rfl, by rw [HS2.out]; exact OwnG.nil _ _ _ _, Hb.out⟩
          · have HS2 := Lib.hid (show R = (vs, 0) by rw [HS.out, if_neg (by rw [Hl.out]; exact h5)])
            have hb0 : decide (at_ < (nb : Int)) = false := decide_eq_false h5
            clear HS h5
            go_wp2_with fail
            go_ret2
            exact ⟨A', c', by rw [HS2.out]; rfl, by rw [HS2.out]; exact Ho.out, Hb.out⟩
  · have hb0 : (e1 != 0) = true := by simpa using h1
    have HE := Lib.hid (show R = ([], e1) by rw [HR.out, if_pos h1])
    clear h1
    go_wp2_with fail
    go_ret2
    exact ⟨none, 0, by rw [HE.out]; rfl, by rw [HE.out]; exact OwnG.nil _ _ _ _, Ext.refl w⟩

end Go.Proofs.YtlgcghjbekgnmaaGreat

/-
  Layer 10: the document's text and texts.
-/
namespace Go.Proofs.YtlgcghjbekgnmaaGreat
open Go.RowKit
set_option maxRecDepth 100000

theorem rget10_is {A : Option Addr} {n c : Nat} {at_ : Int} {bs : List Nat} {w : World} (hx : Rd .u8 w A n bs) (hu : U8 bs) (hn : n ≤ 140737488355328) {k : Nat} {n1 e1 : Int} (h : vget bs at_ = (k, n1, e1)) :
    Calls Tryz.prog 46 #[.slice A n c, .int .i64 at_] w fun e w' => e = .returned (.tuple #[.int .u64 k, .int .i64 n1, .int .i64 e1]) ∧ w' = w :=
  (refGet_any A n c at_ bs w hx hu hn).mono fun e w' ⟨q1, q2⟩ => ⟨by rw [q1, h], q2.symm⟩

set_option maxHeartbeats 800000 in
theorem refText10_any (A : Option Addr) (n c : Nat) (at_ : Int) (bs : List Nat) (w : World) (hx : Rd .u8 w A n bs) (hu : U8 bs) (hn : n ≤ 140737488355328) :
    Calls Tryz.prog 125 #[.slice A n c, .int .i64 at_] w (PTxPost (dtx bs at_) w) := by
  have hbl := hx.len
  rcases g1 : vget bs at_ with ⟨k, n1, e1⟩
  have G1 := Lib.hid (rget10_is (c := c) hx hu hn g1)
  by_cases z1 : e1 = 0
  · subst z1
    obtain ⟨a1, a2, a3, hklt, _⟩ := vget_at hu g1
    rw [hbl] at a3
    obtain ⟨m1, rfl⟩ := Int.eq_ofNat_of_zero_le (show 0 ≤ n1 by omega)
    by_cases hk : 200 < k
    · have HR := Lib.hid (dtx_long g1 hk)
      clear hx hu g1 hbl a1 a2 a3
      go_enter Tryz.func125, Tryz.ntmps125
      go_wp2_with fail
      refine G1.out.mono ?_
      rintro e w1 ⟨rfl, rfl⟩
      go_wp2_with fail
      go_ret3
      exact PTxPost.bad _ HR.out (Ext.refl _)
    · have hk2 : k ≤ 200 := by omega
      have hki : IntKind.i64.wrap (k : Int) = (k : Int) := IntWalk.i64_in _ (by omega)
      have hm1 : m1 ≤ n := by omega
      have hnm : (n : Int) - (m1 : Int) = ((n - m1 : Nat) : Int) := by omega
      have hnw : IntKind.u64.wrap ((n : Int) - (m1 : Int)) = ((n - m1 : Nat) : Int) := (IntWalk.u64_in _ (by omega)).trans hnm
      by_cases hs : n < m1 + k
      · have HR := Lib.hid (dtx_short g1 hk2 (by rw [hbl]; omega))
        have hd5 : decide (n - m1 < k) = true := decide_eq_true (by omega)
        clear hx hu g1 hbl a1 a2 a3 hnm
        go_enter Tryz.func125, Tryz.ntmps125
        go_wp2_with fail
        refine G1.out.mono ?_
        rintro e w1 ⟨rfl, rfl⟩
        go_wp2_with fail
        go_ret3
        exact PTxPost.bad _ HR.out (Ext.refl _)
      · have HR := Lib.hid (dtx_yes g1 hk2 (by rw [hbl]; omega))
        rw [Int.toNat_natCast] at HR
        have hd5 : decide (n - m1 < k) = false := decide_eq_false (by omega)
        have hmr : (m1 : Int) + (k : Int) ≤ 140737488355328 := by omega
        have hp2 : piece bs (m1 : Int) ((m1 : Int) + (k : Int)) = cut bs m1 k := piece_cutm m1 k
        have ht2 : (cut bs m1 k).length = k := cut_len (by rw [hbl]; omega)
        have P2 := Lib.hid (piece_any A n c (m1 : Int) ((m1 : Int) + (k : Int)) bs w hx hn (by omega))
        rw [hp2, ht2] at P2
        have T2 := Lib.hid ht2
        clear hx hu g1 hbl a1 a2 a3 hp2 ht2 hnm
        go_enter Tryz.func125, Tryz.ntmps125
        go_wp2_with fail
        refine G1.out.mono ?_
        rintro e w1 ⟨rfl, rfl⟩
        go_wp2_with fail
        refine P2.out.mono ?_
        rintro e w2 ⟨A3, c3, rfl, hown3, he3⟩
        go_wp2_with fail
        go_ret3
        exact PTxPost.good _ HR.out T2.out rfl hown3 he3
  · have HR := Lib.hid (dtx_err g1 z1)
    have hb1 : (e1 != 0) = true := by rw [bne_iff_ne]; exact z1
    clear hx hu g1 hbl
    go_enter Tryz.func125, Tryz.ntmps125
    go_wp2_with fail
    refine G1.out.mono ?_
    rintro e w1 ⟨rfl, rfl⟩
    go_wp2_with fail
    go_ret3
    exact PTxPost.bad _ HR.out (Ext.refl _)

/-- A row of marks. -/
def shB : Shape Bool := ⟨fun b => [.bool b], 1, fun _ => rfl, by intro x u hu; simp at hu; subst hu; rfl⟩
theorem Tryz.infoBool : (Tryz.prog.info? 4).map (fun i => (i.zero, i.size, i.bytes)) = some (some (.bool false), 1, 1) := by kernel_rfl
theorem OwnG.atB {w : World} {base c : Nat} {A : Option Addr} {xs : List Bool} (h : OwnG shB 4 w base A c xs) {j : Nat} (hj : j < xs.length) :
    ∃ b x, A = some ⟨b, 0, none⟩ ∧ base ≤ b ∧ b < w.heap.size ∧ xs[j]? = some x ∧ w.cell? ⟨b, j, none⟩ = some (.bool x) ∧ w.frozen? ⟨b, j, none⟩ = false ∧
      ∀ y, OwnG shB 4 (w.setCell ⟨b, j, none⟩ (.bool y)) base A c (xs.set j y) ∧ w.grownBy (w.setCell ⟨b, j, none⟩ (.bool y)) (some b) := by
  obtain ⟨b, x, h1, h2, h3, h4, h5, h6, h7⟩ := h.at_ hj
  have e : j * shB.sz + 0 = j := by show j * 1 + 0 = j; omega
  refine ⟨b, x, h1, h2, h3, h4, ?_, h6 j, fun y => ?_⟩
  · have := h5 0 (.bool x) rfl
    rwa [e] at this
  · have := h7 0 y (.bool y) (by decide) rfl
    rwa [e] at this
theorem own_neGU {T : Type} {s : Shape T} {e : TypeId} {w : World} {base base' c c' : Nat} {A A' : Option Addr} {ts : List T} {xs : List Nat} (hne : e ≠ 5) (h : OwnG s e w base A c ts) (k : Own .u8 5 w base' A' c' xs) : ∀ a, A' = some a → some a.block ≠ (Value.slice A ts.length c).ownBlock := by
  rintro a rfl e
  rcases h.2 with ⟨hv, _⟩ | ⟨g, cap, cur, hv, hg, hh, _⟩
  · rw [hv] at e; simp [Value.ownBlock] at e
  · rw [hv] at e
    simp [Value.ownBlock] at e
    rcases k.2 with ⟨hv', _⟩ | ⟨g', cap', cur', hv', _, hh', _⟩
    · cases hv'
    · injection hv' with hA
      injection hA with hA
      subst hA
      simp at e
      subst e
      rw [hh] at hh'
      injection hh' with hh'
      injection hh' with h1 h2 h3
      exact absurd h2 hne

/-- The marks of the numbers seen. -/
def usedB (n : Nat) (us : List Nat) : List Bool := (List.range n).map fun x => decide (x ∈ us)
theorem usedB_len (n : Nat) (us : List Nat) : (usedB n us).length = n := by unfold usedB; rw [List.length_map, List.length_range]
theorem usedB_nil (n : Nat) : List.replicate n false = usedB n [] := by
  unfold usedB
  refine List.ext_getElem (by simp) fun i h1 h2 => by simp
theorem usedB_set (n : Nat) (us : List Nat) (u : Nat) : (usedB n us).set u true = usedB n (us ++ [u]) := by
  refine List.ext_getElem (by simp [usedB]) fun i h1 h2 => ?_
  rw [List.getElem_set]
  simp only [usedB, List.getElem_map, List.getElem_range, List.mem_append, List.mem_singleton]
  by_cases e : u = i
  · subst e; simp
  · rw [if_neg e]
    have : ¬ i = u := fun q => e q.symm
    simp [this]
theorem usedB_at {n i : Nat} {us : List Nat} {x : Bool} (h : (usedB n us)[i]? = some x) : x = decide (i ∈ us) := by
  obtain ⟨h1, rfl⟩ := List.getElem?_eq_some_iff.1 h
  simp [usedB]

theorem DTd.store {w wr : World} {A A7 : Option Addr} {c c7 b p : Nat} {ts : List Sl} {us : List Bool} {v : Value} (h : DTd w wr A c ts) (k : OwnG shB 4 wr w.heap.size A7 c7 us) (hA : A7 = some ⟨b, 0, none⟩) (hp : 0 < us.length) (hb : w.heap.size ≤ b) (hg : wr.grownBy (wr.setCell ⟨b, p, none⟩ v) (some b)) : DTd w (wr.setCell ⟨b, p, none⟩ v) A c ts := by
  have hob : (Value.slice A7 us.length c7).ownBlock = some b := by
    rcases k.2 with ⟨_, h0⟩ | ⟨g, cap, cur, hv, _⟩
    · omega
    · rw [hv]
      injection hv with hv1
      rw [hA] at hv1
      injection hv1 with hv1
      injection hv1 with hv1
      subst hv1
      rfl
  refine ⟨h.row.grown hg ?_, ⟨fun s hs => (h.txt.own s hs).grown hg ?_, h.txt.apart⟩, h.ext.setCell (p := ⟨b, p, none⟩) hb v⟩
  · rw [← hob]; exact own_neG (by decide) k h.row
  · rw [← hob]; exact own_neGU (by decide) k (h.txt.own s hs)

end Go.Proofs.YtlgcghjbekgnmaaGreat

/-
  Layer 10: the document's texts.
-/
namespace Go.Proofs.YtlgcghjbekgnmaaGreat
open Go.RowKit
set_option maxRecDepth 100000

/-- What texts answers. -/
def textsR (L : List (List Nat)) (us : List Nat) : List (List Nat) × Int := if meant us L.length = true then (txtsOf L us, 0) else ([], 5)

theorem marks_grown {w6 w7 : World} {base base' c6 c7 : Nat} {A6 A7 : Option Addr} {ts : List Sl} {us : List Bool} {o : Obj} (ho : OwnT w6 base A6 c6 ts) (hu : OwnG shB 4 w6 base' A7 c7 us) (hg : (w6.alloc o).grownBy w7 (Value.slice A6 ts.length c6).ownBlock) : OwnG shB 4 w7 base' A7 c7 us :=
  (OwnG.ext hu ((Ext.refl w6).alloc o)).grown hg (own_neG (by decide) (OwnG.ext ho ((Ext.refl w6).alloc o)) (OwnG.ext hu ((Ext.refl w6).alloc o)))

set_option maxHeartbeats 1600000 in
set_option maxRecDepth 100000 in
theorem refTexts_any (A : Option Addr) (n c : Nat) (ss : List Sl) (B : Option Addr) (k cB : Nat) (us : List Nat) (w : World) (hx : RdL w A n ss) (hr : ∀ s ∈ ss, Rd .u8 w s.A s.body.length s.body) (hs : ∀ s ∈ ss, s.body.length ≤ 200) (hn : n ≤ 4096) (hy : Rd .u64 w B k us) (hk : k ≤ 4096) (hu : U64 us) :
    Calls Tryz.prog 127 #[.slice A n c, .slice B k cB] w (TxtsPost (textsR (bodies ss) us) w) := by
  have Hl := Lib.hid hx.1
  have Hul := Lib.hid hy.len
  have Hx := Lib.hid hx
  have Hr := Lib.hid hr
  have Hs := Lib.hid hs
  have Hy := Lib.hid hy
  have Huu := Lib.hid hu
  obtain ⟨R, hR⟩ : ∃ R, R = textsR (bodies ss) us := ⟨_, rfl⟩
  rw [← hR]
  have hbl : (bodies ss).length = n := by rw [bodies_len, Hl.out]
  have HRy := Lib.hid (show meant us n = true → R = (txtsOf (bodies ss) us, 0) from fun h => by rw [hR]; unfold textsR; rw [hbl, if_pos h])
  have HRn := Lib.hid (show ¬ meant us n = true → R = ([], 5) from fun h => by rw [hR]; unfold textsR; rw [hbl, if_neg h])
  clear hx hr hs hy hu hR hbl
  have hm1 : OwnG shB 4 ((w.alloc (.cells #[] 22)).alloc (.cells #[] 4)) (w.heap.size + 1) (some ⟨w.heap.size + 1, 0, none⟩) 0 [] := by
    have := OwnG.made shB 4 (base := w.heap.size + 1) (w.alloc (.cells #[] 22)) (by simp)
    simpa using this
  have hm0 : OwnT (w.alloc (.cells #[] 22)) w.heap.size (some ⟨w.heap.size, 0, none⟩) 0 [] := OwnG.made _ _ _ (Nat.le_refl _)
  have HE00 := Lib.hid (show Ext w (w.alloc (.cells #[] 22)) from (Ext.refl w).alloc _)
  obtain ⟨W0, hW0⟩ : ∃ W0, W0 = w.alloc (.cells #[] 22) := ⟨_, rfl⟩
  have hW0s : W0.heap.size = w.heap.size + 1 := by rw [hW0]; simp
  have hE01 : Ext W0 ((w.alloc (.cells #[] 22)).alloc (.cells #[] 4)) := by rw [hW0]; exact (Ext.refl _).alloc _
  rw [← hW0] at hm0 HE00
  have HM1 := Lib.hid hm1
  have HM0 := Lib.hid hm0
  have HE01 := Lib.hid hE01
  clear hm1 hm0 hE01 hW0
  go_enter Tryz.func127, Tryz.ntmps127
  go_wp2_with fail
  go_loopw [7, 8] (fun v i wr => ∃ (j : Nat) (A' : Option Addr) (c' : Nat), j ≤ n ∧ i = .int .i64 j ∧ v = .slice A' j c' ∧ Hid (OwnG shB 4 wr (w.heap.size + 1) A' c' (List.replicate j false)) ∧ Hid (Ext W0 wr)) (fun _ i _ => n - (intOf i).toNat)
  case atStart => exact ⟨0, _, _, Nat.zero_le _, rfl, rfl, HM1.out, HE01.out⟩
  case round =>
    clear HM1 HE01
    obtain ⟨j, A', c', hj, rfl, rfl, HU, HE⟩ := hrel
    by_cases hlt : j < n
    · have hrl : (List.replicate j false).length = j := List.length_replicate
      have hsz := HE.out.size
      go_wp2_with (at_builtin; refine wpList_pushG (w0 := W0) shB false 4 rfl _ _ 183 rfl (.bool false) 1 Tryz.underlying183 Tryz.infoBool rfl (by decide) (HU.out.ext ((Ext.refl _).alloc _)) j hrl rfl rfl (heap_alloc_new _ _) (by omega) (by omega) (by rw [← hW0s]; exact Ext.trans HE.out ((Ext.refl _).alloc _)) (by simp; omega) ?_; intro A4 c4 w4 hown4 hg4 hb4 hz4)
      have HU4 := Lib.hid (show OwnG shB 4 w4 (w.heap.size + 1) A4 c4 (List.replicate (j + 1) false) by rw [List.replicate_succ']; exact hown4)
      have HE4 := Lib.hid (show Ext W0 w4 by unfold Ext; rw [hW0s]; exact hb4)
      clear hown4 hg4 hb4 hrl hsz
      go_wp2_with fail
      go_roundw
      case rel => exact ⟨j + 1, A4, c4, by omega, by go_num, by go_num, HU4.out, HE4.out⟩
      case measure => simp [intOf]; omega
    · obtain rfl : j = n := by omega
      obtain ⟨W1, hW1⟩ : ∃ W1, W1 = wr := ⟨_, rfl⟩
      subst hW1
      have HU0 := Lib.hid (show OwnG shB 4 W1 w.heap.size A' c' (usedB j (us.take 0)) by rw [List.take_zero, ← usedB_nil]; exact HU.out.mono (by omega))
      have HT0 := Lib.hid (HM0.out.ext HE.out)
      have HE1 := Lib.hid (HE00.out.trans HE.out)
      clear HU HM0 HE HE00 hW0s
      go_wp2_with fail
      go_loopw [6, 9] (fun v i wr => ∃ (q : Nat) (ts : List Sl) (A6 : Option Addr) (c6 : Nat), q ≤ k ∧ i = .int .i64 q ∧ v = .slice A6 q c6 ∧ Hid (ts.length = q) ∧ Hid (bodies ts = txtsOf (bodies ss) (us.take q)) ∧ Hid (DTd w wr A6 c6 ts) ∧ Hid (OwnG shB 4 wr w.heap.size A' c' (usedB j (us.take q))) ∧ Hid (∀ u ∈ us.take q, u < j)) (fun _ i _ => k - (intOf i).toNat)
      case atStart => exact ⟨0, [], _, _, Nat.zero_le _, rfl, rfl, rfl, rfl, ⟨HT0.out, Txts.nil .., HE1.out⟩, HU0.out, fun u hu => by rw [List.take_zero] at hu; cases hu⟩
      case round =>
        clear HU0 HT0 HE1
        obtain ⟨q, ts, A6, c6, hq, rfl, rfl, Htl, Hbs, HD, HU, HA⟩ := hrel
        by_cases hlt2 : q < k
        · obtain ⟨b, o, rfl, hbb, hc0⟩ := Hy.out.at_ hlt2
          have hc := (HD.out.ext.cells b (o + q) hbb).trans hc0
          have hvs : us[q]? = some (us.getD q 0) := by simp [List.getD, show q < us.length by rw [Hul.out]; exact hlt2]
          have hv := Huu.out _ (List.mem_of_getElem? hvs)
          have htk : us.take (q + 1) = us.take q ++ [us.getD q 0] := take_nextG us q hvs
          have hmem := List.mem_of_getElem? hvs
          obtain ⟨u, hue⟩ : ∃ u, u = us.getD q 0 := ⟨_, rfl⟩
          rw [← hue] at hc hc0 hv htk hmem
          have Htk := Lib.hid htk
          have Hmem := Lib.hid hmem
          clear hvs hue htk hmem
          have hjw : IntKind.u64.wrap ((j : Nat) : Int) = ((j : Nat) : Int) := IntWalk.u64_in _ (by omega)
          by_cases hge : j ≤ u
          · have HRb := Lib.hid (HRn.out (fun h => by have := (meant_iff.1 h).1 u Hmem.out; omega))
            go_wp2_with fail
            go_ret2
            exact TxtsPost.bad _ HRb.out HD.out.ext
          · have hltu : u < j := by omega
            obtain ⟨b2, x2, hA2, hbase2, hblt2, hx2, hcell2, hfro2, hset2⟩ := HU.out.atB (j := u) (by rw [usedB_len]; exact hltu)
            subst hA2
            obtain ⟨hs1, hs2⟩ := hset2 true
            have HD6 := HD.out.store HU.out rfl (by rw [usedB_len]; omega) hbase2 hs2
            rw [usedB_set, ← Htk.out] at hs1
            obtain ⟨b', o', t, hA1, hf, hc'0⟩ := Hx.out.at_ (j := u) hltu
            have hmt := List.mem_of_getElem? hf
            have hrt := Hr.out t hmt
            have hlt3 := Hs.out t hmt
            have htb : (bodies ss).getD u [] = t.body := by rw [bodies_get hf]
            obtain ⟨tA, tc, tb⟩ := t
            simp only at hc'0 hrt htb hlt3
            subst hA1
            have hb'lt := World.block_lt_of_cell? _ _ hc'0
            have hc6 := (HD6.ext.cells b (o + q) hbb).trans hc0
            have hc'6 := (HD6.ext.cells b' (o' + u) hb'lt).trans hc'0
            have HN := Lib.hid (show ∀ (A6 : Option Addr) (c6 : Nat), bodies (ts ++ [⟨A6, c6, tb⟩]) = txtsOf (bodies ss) (us.take (q + 1)) by
              intro A6 c6
              rw [Htk.out, txtsOf_snoc, htb, ← Hbs.out]; unfold bodies; rw [List.map_append]; rfl)
            obtain ⟨tl, htl⟩ : ∃ tl, tl = tb.length := ⟨_, rfl⟩
            rw [← htl] at hc'0 hc'6 hrt hlt3
            have Htl2 := Lib.hid htl
            have HC5 := Lib.hid (copy_any tA tl tc tb _ (hrt.ext HD6.ext) (by omega))
            have HD6 := Lib.hid HD6
            have HU6 := Lib.hid hs1
            have HA6 := Lib.hid (show ∀ v ∈ us.take (q + 1), v < j by
              intro v hv
              rw [Htk.out] at hv
              rcases List.mem_append.1 hv with h | h
              · exact HA.out v h
              · simp at h; omega)
            clear htl hmt hf htb hrt hs1 hs2 hset2 hx2 hc0 hc'0 hbb hb'lt
            go_wp2_with fail
            refine HC5.out.mono ?_
            rintro e w6 ⟨A9, c9, rfl, hown9, he9⟩
            rw [Htl2.out]
            go_wp2_with (at_builtin; refine wpList_pushT (w0 := w) ⟨A9, c9, tb⟩ rfl _ _ rfl ((HD6.out.row.ext he9).ext ((Ext.refl _).alloc _)) q Htl.out rfl rfl (heap_alloc_new _ _) (by omega) (Ext.trans (HD6.out.ext.trans he9) ((Ext.refl _).alloc _)) (by have := (HD6.out.ext.trans he9).size; simp; omega) ?_; intro A7 c7 w7 hown7 hg7 hb7 hz7)
            have hg8 := hg7
            rw [← Htl.out] at hg8
            have HD7 := Lib.hid (HD6.out.snoc (s := ⟨A9, c9, tb⟩) hown9 he9 hown7 hg8 hb7)
            have HU7 := Lib.hid (marks_grown (HD6.out.row.ext he9) (HU6.out.ext he9) hg8)
            clear hown9 hown7 hg7 hg8 hb7
            go_wp2_with fail
            go_roundw
            case rel => exact ⟨q + 1, _, A7, c7, by omega, by go_num, by go_num, by rw [List.length_append, Htl.out]; rfl, HN.out _ _, HD7.out, HU7.out, HA6.out⟩
            case measure => simp [intOf]; omega
        · obtain rfl : q = k := by omega
          have htk : us.take q = us := List.take_of_length_le (by rw [Hul.out]; exact Nat.le_refl _)
          rw [htk] at Hbs HU HA
          obtain ⟨W2, hW2⟩ : ∃ W2, W2 = wr := ⟨_, rfl⟩
          subst hW2
          clear htk
          go_wp2_with fail
          go_loopw [10] (fun i wr => ∃ (x : Nat), x ≤ j ∧ i = .int .i64 x ∧ wr = W2 ∧ Hid (∀ y, y < x → y ∈ us)) (fun i _ => j - (intOf i).toNat)
          case atStart => exact ⟨0, Nat.zero_le _, rfl, rfl, fun y hy => absurd hy (by omega)⟩
          case round =>
            obtain ⟨x, hxj, rfl, rfl, HS⟩ := hrel
            by_cases hlt4 : x < j
            · obtain ⟨b2, x2, hA2, _, _, hx2, hcell2, _, _⟩ := HU.out.atB (j := x) (by rw [usedB_len]; exact hlt4)
              subst hA2
              rw [usedB_at hx2] at hcell2
              by_cases hin : x ∈ us
              · rw [decide_eq_true hin] at hcell2
                have HS2 := Lib.hid (show ∀ y, y < x + 1 → y ∈ us by
                  intro y hy
                  by_cases e : y = x
                  · subst e; exact hin
                  · exact HS.out y (by omega))
                clear hx2 hin
                go_wp2_with fail
                go_roundw
                case rel => exact ⟨x + 1, by omega, by go_num, by first | rfl | trivial, HS2.out⟩
                case measure => simp [intOf]; omega
              · rw [decide_eq_false hin] at hcell2
                have HRb := Lib.hid (HRn.out (fun h => hin ((meant_iff.1 h).2 x hlt4)))
                clear hx2 hin
                go_wp2_with fail
                go_ret2
                exact TxtsPost.bad _ HRb.out HD.out.ext
            · obtain rfl : x = j := by omega
              have HRg := Lib.hid (show R = (bodies ts, 0) by rw [HRy.out (meant_iff.2 ⟨HA.out, HS.out⟩), Hbs.out])
              go_wp2_with fail
              go_ret2
              exact TxtsPost.good _ HRg.out Htl.out HD.out.row HD.out.txt HD.out.ext

end Go.Proofs.YtlgcghjbekgnmaaGreat

/-
  Layer 10: the document's Decode.
-/
namespace Go.Proofs.YtlgcghjbekgnmaaGreat
open Go.RowKit
set_option maxRecDepth 100000

theorem piece_rest10 {bs : List Nat} {n : Nat} (h : bs.length = n) (q : Nat) : piece bs (q : Int) (n : Int) = bs.drop q := by
  rw [piece_of, Int.toNat_natCast, Int.toNat_natCast, List.take_of_length_le]
  rw [List.length_drop, h]
  exact Nat.le_refl _
theorem bodies_snoc10 (ts : List Sl) (s : Sl) : bodies (ts ++ [s]) = bodies ts ++ [s.body] := by unfold bodies; rw [List.map_append]; rfl

set_option maxHeartbeats 3200000 in
set_option maxRecDepth 100000 in
theorem refDdecode_any (A : Option Addr) (n c : Nat) (bs : List Nat) (w : World) (hx : Rd .u8 w A n bs) (hu : U8 bs) (hn : n ≤ 140737488351232) :
    Calls Tryz.prog 88 #[.slice A n c] w (TxtsPost (ddec bs) w) := by
  have hbl := hx.len
  rcases g1 : vget bs 0 with ⟨k, n1, e1⟩
  have G1 := Lib.hid (rget10_is (c := c) hx hu (by omega) g1)
  by_cases z1 : e1 = 0
  · subst z1
    obtain ⟨a1, a2, a3, a4, _⟩ := vget_at hu g1
    rw [hbl] at a3
    obtain ⟨m1, rfl⟩ := Int.eq_ofNat_of_zero_le (show 0 ≤ n1 by omega)
    by_cases hk : 4096 < k
    · have HR := Lib.hid (ddec_long g1 hk)
      clear hx hu hbl g1 a1 a2 a3
      go_enter Tryz.func88, Tryz.ntmps88
      go_wp2_with fail
      refine G1.out.mono ?_
      rintro e w1 ⟨rfl, rfl⟩
      go_wp2_with fail
      go_ret2
      exact TxtsPost.bad _ HR.out (Ext.refl _)
    · have hk2 : k ≤ 4096 := by omega
      obtain ⟨R, hR⟩ : ∃ R, R = ddec bs := ⟨_, rfl⟩
      obtain ⟨⟨L, aE, eE⟩, gE⟩ : ∃ E, E = dnA bs (k - 0) (m1 : Int) (bodies []) := ⟨_, rfl⟩
      have hRe : eE ≠ 0 → R = ([], eE) := fun h => by rw [hR]; exact ddec_e2 g1 hk2 gE.symm h
      have hRo : eE = 0 → R = ddec.ddecB bs L aE := fun h => by subst h; rw [hR]; exact ddec_go g1 hk2 gE.symm
      have hok : eE = 0 → L.length ≤ 4096 := fun h => by
        subst h
        obtain ⟨T, r1, r2, r3, r4, r5, r6, r7, r8⟩ := dnA_ok hu k (acc := []) List.Pairwise.nil (by omega) (by rw [hbl]; exact a3) gE.symm
        rw [List.nil_append] at r1
        subst r1
        omega
      rw [← hR]
      have HRe := Lib.hid hRe
      have HRo := Lib.hid hRo
      have Hok := Lib.hid hok
      have HgE := Lib.hid gE.symm
      have Hbl := Lib.hid hbl
      have Hx := Lib.hid hx
      have Hu := Lib.hid hu
      clear hR g1 hbl hx hu a1 a2 hRe hRo hok gE
      have hm1 : m1 ≤ n := by omega
      go_enter Tryz.func88, Tryz.ntmps88
      go_wp2_with fail
      refine G1.out.mono ?_
      rintro e w1 ⟨rfl, rfl⟩
      obtain ⟨w, hw⟩ : ∃ w, w = w1 := ⟨_, rfl⟩
      subst hw
      go_wp2_with fail
      go_loopw [5, 7, 8, 9, 10, 11] (fun at_ v i _ _ _ wr => ∃ (j a : Nat) (ts : List Sl) (A' : Option Addr) (c' : Nat), j ≤ k ∧ i = .int .u64 j ∧ a ≤ n ∧ at_ = .int .i64 a ∧ v = .slice A' j c' ∧ Hid (ts.length = j) ∧ Hid (dnA bs (k - j) (a : Int) (bodies ts) = (L, aE, eE)) ∧ Hid (DTd w wr A' c' ts) ∧ Hid (∀ t ∈ ts, t.body.length ≤ 200 ∧ U8 t.body)) (fun _ _ i _ _ _ _ => k - (intOf i).toNat)
      case atStart => exact ⟨0, m1, [], _, _, Nat.zero_le _, rfl, hm1, rfl, rfl, rfl, HgE.out, ⟨OwnG.made _ _ _ (Nat.le_refl _), Txts.nil .., (Ext.refl _).alloc _⟩, fun t ht => (by cases ht)⟩
      case round =>
        clear HgE
        obtain ⟨j, a, ts, A', c', hj, rfl, ha, rfl, rfl, Hl, HR, HD, HT⟩ := hrel
        by_cases hlt : j < k
        · obtain ⟨q, hq⟩ : ∃ q, k - j = q + 1 := ⟨k - j - 1, by omega⟩
          have Hq2 := Lib.hid (show k - (j + 1) = q by omega)
          have Hq := Lib.hid hq
          clear hq
          have HG := refText10_any A n c a bs wr (Hx.out.ext HD.out.ext) Hu.out (by omega)
          rcases hg : dtx bs (a : Int) with ⟨s, m, e⟩
          unfold PTxPost at HG
          rw [hg] at HG
          have HGe := Lib.hid HG
          have Hg := Lib.hid hg
          have hbt : (bodies ts).length = j := by rw [bodies_len, Hl.out]
          clear HG hg
          by_cases he0 : e = 0
          · subst he0
            obtain ⟨b1, b2, b3, b4, b5, _⟩ := dtx_ok Hu.out Hg.out
            rw [Hbl.out] at b3
            obtain ⟨m', rfl⟩ := Int.eq_ofNat_of_zero_le (show 0 ≤ m by omega)
            have hm' : m' ≤ n := by omega
            have Hb := Lib.hid (And.intro b4 b5)
            clear b1 b2 b3 b4 b5
            by_cases hj0 : j = 0
            · have Ho := Lib.hid (show ¬ (0 < (bodies ts).length ∧ 0 ≤ ordT ((bodies ts).getD ((bodies ts).length - 1) []) s) from fun h => by have := h.1; omega)
              subst hj0
              go_wp2_with fail
              refine HGe.out.mono ?_
              rintro e' w3 ⟨A3, c3, rfl, hown3, he3⟩
              simp only at hown3 ⊢
              have HN := Lib.hid (show dnA bs (k - (0 + 1)) (m' : Int) (bodies (ts ++ [⟨A3, c3, s⟩])) = (L, aE, eE) by
                rw [Hq2.out, ← HR.out, Hq.out, dnA_next Hg.out Ho.out, bodies_snoc10])
              go_wp2_with (at_builtin; refine wpList_pushT (w0 := w) ⟨A3, c3, s⟩ rfl _ _ rfl ((HD.out.row.ext he3).ext ((Ext.refl _).alloc _)) (0) Hl.out rfl rfl (heap_alloc_new _ _) (by omega) (Ext.trans (HD.out.ext.trans he3) ((Ext.refl _).alloc _)) (by have := (HD.out.ext.trans he3).size; simp; omega) ?_; intro A4 c4 w4 hown4 hg4 hb4 _)
              have HD4 := Lib.hid (HD.out.snoc (s := ⟨A3, c3, s⟩) hown3 he3 hown4 (by rw [Hl.out]; exact hg4) hb4)
              have HT4 := Lib.hid (show ∀ t ∈ ts ++ [(⟨A3, c3, s⟩ : Sl)], t.body.length ≤ 200 ∧ U8 t.body by
                intro t ht
                rcases List.mem_append.1 ht with h1 | h1
                · exact HT.out t h1
                · simp at h1; subst h1; exact Hb.out)
              clear hown4 hb4 hg4 hown3
              go_wp2_with fail
              go_roundw
              case rel => exact ⟨0 + 1, m', _, A4, c4, by omega, by go_num, hm', rfl, by go_num, by rw [List.length_append, Hl.out]; rfl, HN.out, HD4.out, HT4.out⟩
              case measure => simp [intOf]; omega
            · obtain ⟨p, rfl⟩ : ∃ p, j = p + 1 := ⟨j - 1, by omega⟩
              obtain ⟨b, o, t, rfl, hf, hc⟩ := HD.out.row.rdL.at_ (j := p) (by rw [Hl.out]; omega)
              have hblt := World.block_lt_of_cell? _ _ hc
              have hmt := List.mem_of_getElem? hf
              have hlast : (bodies ts).getD ((bodies ts).length - 1) [] = t.body := by rw [hbt, Nat.add_sub_cancel, bodies_get hf]
              have hrt := HD.out.txt.rd t hmt
              have hlt2 := (HT.out t hmt).1
              obtain ⟨tA, tc, tb⟩ := t
              simp only at hc hrt hlt2 hlast
              have hsl := Hb.out.1
              have HC := Lib.hid (fun (A3 : Option Addr) (c3 : Nat) (W : World) (hE : Ext wr W) (h3 : Rd .u8 W A3 s.length s) => order_any A3 tA s.length c3 tb.length tc s tb W h3 (hrt.ext hE) (by omega) (by omega))
              obtain ⟨tl, htl⟩ : ∃ tl, tl = tb.length := ⟨_, rfl⟩
              rw [← htl] at hc HC
              have ho1 : ordT s tb ≤ 0 → dnA bs (q + 1) (a : Int) (bodies ts) = ([], 0, 5) := fun h => dnA_form Hg.out ⟨by omega, by rw [hlast, ordT_swap]; omega⟩
              have ho2 : ¬ ordT s tb ≤ 0 → ¬ (0 < (bodies ts).length ∧ 0 ≤ ordT ((bodies ts).getD ((bodies ts).length - 1) []) s) := fun h h2 => by
                have := h2.2
                rw [hlast, ordT_swap] at this
                omega
              obtain ⟨r, hr⟩ : ∃ r, r = ordT s tb := ⟨_, rfl⟩
              rw [← hr] at HC ho1 ho2
              have hpw : IntKind.u64.wrap (p : Int) = (p : Int) := IntWalk.u64_in _ (by omega)
              have Hc := Lib.hid hc
              clear hr htl hmt hf hrt hlt2 hlast hbt hc
              go_wp2_with fail
              refine HGe.out.mono ?_
              rintro e' w3 ⟨A3, c3, rfl, hown3, he3⟩
              simp only at hown3 ⊢
              have hc3 : w3.cell? ⟨b, o + p, none⟩ = some (.slice tA tl tc) := (he3.cells b (o + p) hblt).trans Hc.out
              by_cases hle : r ≤ 0
              · have h5 := ho1 hle
                rw [← Hq.out, HR.out] at h5
                injection h5 with _ h5
                injection h5 with _ h5
                have HRb := Lib.hid (show R = ([], 5) by rw [HRe.out (by rw [h5]; decide), h5])
                clear ho1 ho2 h5
                go_wp2_with fail
                refine (HC.out _ _ _ he3 hown3.rd).mono ?_
                rintro e' w5 ⟨rfl, q5, rfl⟩
                go_wp2_with fail
                go_ret2
                exact TxtsPost.bad _ HRb.out ((HD.out.ext.trans he3).drewN _)
              · have Ho := Lib.hid (ho2 (by omega))
                have HN := Lib.hid (show dnA bs (k - (p + 1 + 1)) (m' : Int) (bodies (ts ++ [⟨A3, c3, s⟩])) = (L, aE, eE) by
                  rw [Hq2.out, ← HR.out, Hq.out, dnA_next Hg.out Ho.out, bodies_snoc10])
                clear ho1 ho2
                go_wp2_with fail
                refine (HC.out _ _ _ he3 hown3.rd).mono ?_
                rintro e' w5 ⟨rfl, q5, rfl⟩
                have he5 := he3.drewN q5
                have hown5 := hown3.ext (Ext.of_drewN w3 q5)
                obtain ⟨W5, hW5⟩ : ∃ W5, W5 = w3.drewN q5 := ⟨_, rfl⟩
                rw [← hW5] at he5 hown5 ⊢
                clear hW5 hc3 he3 hown3
                go_wp2_with (at_builtin; refine wpList_pushT (w0 := w) ⟨A3, c3, s⟩ rfl _ _ rfl ((HD.out.row.ext he5).ext ((Ext.refl _).alloc _)) (p + 1) Hl.out rfl rfl (heap_alloc_new _ _) (by omega) (Ext.trans (HD.out.ext.trans he5) ((Ext.refl _).alloc _)) (by have := (HD.out.ext.trans he5).size; simp; omega) ?_; intro A4 c4 w4 hown4 hg4 hb4 _)
                rw [← Hl.out] at hg4
                have HD4 := Lib.hid (HD.out.snoc (s := ⟨A3, c3, s⟩) hown5 he5 hown4 hg4 hb4)
                have HT4 := Lib.hid (show ∀ t ∈ ts ++ [(⟨A3, c3, s⟩ : Sl)], t.body.length ≤ 200 ∧ U8 t.body by
                  intro t ht
                  rcases List.mem_append.1 ht with h1 | h1
                  · exact HT.out t h1
                  · simp at h1; subst h1; exact Hb.out)
                clear hown4 hb4 hg4 hown5
                go_wp2_with fail
                go_roundw
                case rel => exact ⟨p + 1 + 1, m', _, A4, c4, by omega, by go_num, hm', rfl, by go_num, by rw [List.length_append, Hl.out]; rfl, HN.out, HD4.out, HT4.out⟩
                case measure => simp [intOf]; omega
          · have h5 := dnA_err (n := q) (acc := bodies ts) Hg.out he0
            rw [← Hq.out, HR.out] at h5
            injection h5 with _ h5
            injection h5 with _ h5
            have HRb := Lib.hid (show R = ([], e) by rw [HRe.out (by rw [h5]; exact he0), h5])
            have hb1 : (e != 0) = true := by rw [bne_iff_ne]; exact he0
            clear h5
            go_wp2_with fail
            refine HGe.out.mono ?_
            rintro e' w3 ⟨A3, c3, rfl, _, he3⟩
            simp only
            go_wp2_with fail
            go_ret2
            exact TxtsPost.bad _ HRb.out (HD.out.ext.trans he3)
        · obtain rfl : j = k := by omega
          have h5 := HR.out
          rw [Nat.sub_self, dnA] at h5
          injection h5 with h6 h5
          injection h5 with h7 h5
          subst h6 h7 h5
          have HRo2 := Lib.hid (HRo.out rfl)
          clear HR HRo HRe Hok
          rcases g2 : vget bs (a : Int) with ⟨kk, n2, e2⟩
          have G2 := Lib.hid (rget10_is (c := c) (Hx.out.ext HD.out.ext) Hu.out (by omega) g2)
          by_cases z2 : e2 = 0
          · subst z2
            obtain ⟨b1, b2, b3, b4, _⟩ := vget_at Hu.out g2
            rw [Hbl.out] at b3
            obtain ⟨m2, rfl⟩ := Int.eq_ofNat_of_zero_le (show 0 ≤ n2 by omega)
            by_cases hkk : 4096 < kk
            · have HRb := Lib.hid (HRo2.out.trans (ddecB_long g2 hkk))
              clear g2 b1 b2 b3
              go_wp2_with fail
              refine G2.out.mono ?_
              rintro e w2 ⟨rfl, rfl⟩
              go_wp2_with fail
              go_ret2
              exact TxtsPost.bad _ HRb.out HD.out.ext
            · have hD := HRo2.out.trans (ddecB_go g2 (by omega))
              rw [Int.toNat_natCast] at hD
              have hkw : IntKind.i64.wrap (kk : Int) = (kk : Int) := IntWalk.i64_in _ (by omega)
              have hdk : decide (4096 < kk) = false := decide_eq_false hkk
              have P2 := piece_any A n c (m2 : Int) (n : Int) bs wr (Hx.out.ext HD.out.ext) (by omega) (by omega)
              rw [piece_rest10 Hbl.out] at P2
              obtain ⟨r, hre⟩ : ∃ r, r = bs.drop m2 := ⟨_, rfl⟩
              rw [← hre] at P2 hD
              have hru : U8 r := by rw [hre]; exact u8_drop Hu.out _
              obtain ⟨rl, hrl⟩ : ∃ rl, r.length = rl := ⟨_, rfl⟩
              have hrl2 : rl ≤ n := by rw [← hrl, hre, List.length_drop, Hbl.out]; omega
              rw [hrl] at P2
              have HP2 := Lib.hid P2
              have Hrl := Lib.hid hrl
              have hbl2 : (bodies ts).length = j := by rw [bodies_len, Hl.out]
              have hCe : unpE (pk 8 r) rl (wfor j : Int) (kk : Int) ≠ 0 → R = ([], unpE (pk 8 r) rl (wfor j : Int) (kk : Int)) := fun h0 => by
                rw [← hrl, ← hbl2] at h0 ⊢
                rw [hD, ddecC_err h0]
              have hCy : unpE (pk 8 r) rl (wfor j : Int) (kk : Int) = 0 → R = textsR (bodies ts) (unpL (pk 8 r) rl (wfor j : Int) (kk : Int)) := fun h0 => by
                rw [← hrl, ← hbl2] at h0 ⊢
                unfold textsR
                rw [hD]
                by_cases hm : meant (unpL (pk 8 r) r.length (wfor (bodies ts).length : Int) (kk : Int)) (bodies ts).length = true
                · rw [if_pos hm, ddecC_yes h0 rfl hm]
                · rw [if_neg hm, ddecC_form h0 rfl (by
                    cases q : meant (unpL (pk 8 r) r.length (wfor (bodies ts).length : Int) (kk : Int)) (bodies ts).length with
                    | true => exact absurd q hm
                    | false => rfl)]
              have hwf : wfor j ≤ 12 := wfor_le hk2
              have HU := fun (A5 : Option Addr) (c5 : Nat) (W : World) (hr5 : Rd .u8 W A5 rl r) => refUnpack_any A5 rl c5 (wfor j : Int) (kk : Int) r W hr5 hru (by omega)
              unfold UnpPost at HU
              obtain ⟨e3, hE3⟩ : ∃ e3, e3 = unpE (pk 8 r) rl (wfor j : Int) (kk : Int) := ⟨_, rfl⟩
              obtain ⟨us, huse⟩ : ∃ us, us = unpL (pk 8 r) rl (wfor j : Int) (kk : Int) := ⟨_, rfl⟩
              have hul : e3 = 0 → us.length = kk := fun h => by rw [huse, unpL_len10 (by rw [← hE3]; exact h), Int.toNat_natCast]
              have huu : e3 = 0 → U64 us := fun h => by rw [huse]; exact unpL_u6410 (by rw [← hE3]; exact h) (by omega)
              have hnil : e3 ≠ 0 → us = [] := fun h => by rw [huse]; exact unp_err hE3.symm h
              rw [← hE3] at hCe hCy HU
              rw [← huse] at hCy HU
              have hrow := HD.out.row.rdL
              rw [Hl.out] at hrow
              have Hrow := Lib.hid hrow
              have HRd := Lib.hid HD.out.txt.rd
              clear hrow huse hE3 hD hre hru hrl g2 b1 b2 b3 hbl2 P2
              by_cases z3 : e3 = 0
              · subst z3
                have HCy := Lib.hid (hCy rfl)
                have Hul := Lib.hid (hul rfl)
                have Huu := Lib.hid (huu rfl)
                rw [Hul.out] at HU
                have HUh := Lib.hid HU
                have HTx := Lib.hid (fun (B : Option Addr) (cB : Nat) (W : World) (hE : Ext wr W) (hB : Rd .u64 W B kk us) => refTexts_any A' j c' ts B kk cB us W (RdL.ext Hrow.out hE) (fun s hs => (HRd.out s hs).ext hE) (fun s hs => (HT.out s hs).1) hk2 hB (by omega) Huu.out)
                clear hCe hCy hul huu hnil HU
                go_wp2_with fail
                refine G2.out.mono ?_
                rintro e w2 ⟨rfl, rfl⟩
                go_wp2_with fail
                refine HP2.out.mono ?_
                rintro e w3 ⟨A5, c5, rfl, hown5, he5⟩
                have hr5 := hown5.rd' Hrl.out
                clear hown5
                go_wp2_with fail
                refine (refWidth10_any j _ (by omega)).mono ?_
                rintro e w4 ⟨rfl, he4⟩
                go_wp2_with fail
                refine (HUh.out A5 c5 _ (hr5.ext he4)).mono ?_
                rintro e w5 ⟨A6, c6, rfl, hown6, he6⟩
                have hr6 := hown6.rd' Hul.out
                have HE6 := Lib.hid ((he5.trans he4).trans he6)
                clear hown6 hr5 he5 he4 he6
                go_wp2_with fail
                refine (HTx.out A6 c6 _ HE6.out hr6).mono ?_
                rintro e w6 ⟨A9, c9, vs, rfl, hb9, hown9, htx9, he9⟩
                have HE9 := Lib.hid (HD.out.ext.trans HE6.out)
                rw [← HCy.out] at hb9 ⊢
                have Hfin := Lib.hid (show TxtsPost R w (.returned (.tuple #[.slice A9 vs.length c9, .int .i64 R.2])) w6 from ⟨A9, c9, vs, rfl, hb9, hown9.mono HE9.out.size, htx9.mono10 HE9.out.size, HE9.out.trans he9⟩)
                clear hb9 hown9 htx9
                go_wp2_with fail
                go_ret2
                exact Hfin.out
              · have HCe := Lib.hid (hCe z3)
                have hb3 : (e3 != 0) = true := by rw [bne_iff_ne]; exact z3
                rw [hnil z3] at HU
                have HUh := Lib.hid HU
                clear hCe hCy hul huu hnil HU
                go_wp2_with fail
                refine G2.out.mono ?_
                rintro e w2 ⟨rfl, rfl⟩
                go_wp2_with fail
                refine HP2.out.mono ?_
                rintro e w3 ⟨A5, c5, rfl, hown5, he5⟩
                have hr5 := hown5.rd' Hrl.out
                clear hown5
                go_wp2_with fail
                refine (refWidth10_any j _ (by omega)).mono ?_
                rintro e w4 ⟨rfl, he4⟩
                go_wp2_with fail
                refine (HUh.out A5 c5 _ (hr5.ext he4)).mono ?_
                rintro e w5 ⟨A6, c6, rfl, hown6, he6⟩
                have HE6 := Lib.hid ((he5.trans he4).trans he6)
                clear hown6 hr5 he5 he4 he6
                go_wp2_with fail
                go_ret2
                exact TxtsPost.bad _ HCe.out (HD.out.ext.trans HE6.out)
          · have HRb := Lib.hid (HRo2.out.trans (ddecB_err g2 z2))
            have hb1 : (e2 != 0) = true := by rw [bne_iff_ne]; exact z2
            clear g2
            go_wp2_with fail
            refine G2.out.mono ?_
            rintro e w2 ⟨rfl, rfl⟩
            go_wp2_with fail
            go_ret2
            exact TxtsPost.bad _ HRb.out HD.out.ext
  · have HR := Lib.hid (ddec_e1 g1 z1)
    have hb1 : (e1 != 0) = true := by rw [bne_iff_ne]; exact z1
    clear hx hu hbl g1
    go_enter Tryz.func88, Tryz.ntmps88
    go_wp2_with fail
    refine G1.out.mono ?_
    rintro e w1 ⟨rfl, rfl⟩
    go_wp2_with fail
    go_ret2
    exact TxtsPost.bad _ HR.out (Ext.refl _)

end Go.Proofs.YtlgcghjbekgnmaaGreat
