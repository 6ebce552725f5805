import Derived.Test.YthibbgmicmfkfaaGreatGW10
import Derived.Deep.RegionHeld3
import Derived.Maps.OwnSet
import Derived.OpenShut
namespace Go.Proofs.YthibbgmicmfkfaaGreat
open Go.RowKit
set_option maxRecDepth 100000
def pcR (k : Int) (bs : List Nat) (a : Int) : (Int × List Nat) × Int × Int :=
 if numK k then (if (vget bs a).2.2 ≠ 0 then ((0, []), 0, (vget bs a).2.2) else ((unfS ((vget bs a).1 : Int), []), (vget bs a).2.1, 0)) else ((0, (dtx bs a).1), (dtx bs a).2.1, (dtx bs a).2.2)
def PcPost (R : (Int × List Nat) × Int × Int) (w : World) (e : Ending) (w' : World) : Prop :=
 ∃ A' c', e = .returned (.tuple #[.agg #[.bool false, .int .i64 R.1.1, .slice A' R.1.2.length c'], .int .i64 R.2.1, .int .i64 R.2.2]) ∧ Own .u8 5 w' w.heap.size A' c' R.1.2 ∧ Ext w w'
theorem PcPost.bad {w w' : World} (R : (Int × List Nat) × Int × Int) {v n E : Int} (h : R = ((v, []), n, E)) (he : Ext w w') : PcPost R w (.returned (.tuple #[.agg #[.bool false, .int .i64 v, .slice none 0 0], .int .i64 n, .int .i64 E])) w' := by
 subst h
 exact ⟨none, 0, rfl, Own.nil .., he⟩
set_option maxHeartbeats 4000000 in
theorem getPlainCell_any (k : Int) (A : Option Addr) (n c a : Nat) (bs : List Nat) (w : World) (hx : Rd .u8 w A n bs) (hu : U8 bs) (hn : n ≤ 140737488355328) (_ha : a ≤ n) (hcap : n ≤ c) (hcm : c ≤ 9223372036854775807) :
   Calls Tryz.prog 155 #[.int .i64 k, .slice A n c, .int .i64 (a : Int)] w (PcPost (pcR k bs a) w) := by
 have hbl := hx.len
 have hE : Ext w (w.alloc (.cells #[.bool false, .int .i64 0, .slice none 0 0] 61)) := (Ext.refl w).alloc _
 have hP := pcR.eq_1 k bs a
 obtain ⟨B, hB⟩ : ∃ B, B = numK k := ⟨_, rfl⟩
 have hnum := fun W => number_any k W
 rw [← hB] at hnum hP
 have HN := Lib.hid hnum
 rcases hg : vget bs (a : Int) with ⟨u, nx, e⟩
 have G1 := Lib.hid (get_is (hx.ext hE) hu hn hcap hcm hg)
 by_cases he0 : e = 0
 · subst he0
   obtain ⟨_, hv1, hv2, hu64, _⟩ := vget_at hu hg
   obtain ⟨m, rfl⟩ := Int.eq_ofNat_of_zero_le (show 0 ≤ nx by omega)
   have hmn : m ≤ n := by omega
   cases B with
   | true =>
     have hP2 : pcR k bs a = ((unfS (u : Int), []), (m : Int), 0) := by rw [hP, if_pos rfl, hg]; rfl
     have HP := Lib.hid hP2
     have HF := Lib.hid (fun W => unfold_any (u : Int) W (by omega) (by omega))
     obtain ⟨v, hv⟩ : ∃ v, v = unfS (u : Int) := ⟨_, rfl⟩
     rw [← hv] at HP HF
     clear hx hu hP hP2 hB hnum hg hbl hv hv1 hv2 hu64
     go_enter Tryz.func155, Tryz.ntmps155
     go_wp2_with fail
     refine G1.out.mono ?_
     rintro e w1 ⟨rfl, rfl⟩
     go_wp2_with fail
     refine (HN.out _).mono ?_
     rintro e w1 ⟨rfl, rfl⟩
     go_wp2_with fail
     refine (HF.out _).mono ?_
     rintro e w1 ⟨rfl, rfl⟩
     go_wp2
     refine bodyPost_ret (v := .tuple #[.agg #[.bool false, .int .i64 v, .slice none 0 0], .int .i64 (m : Int), .int .i64 0]) (by simp [results, Tryz.results155, go_sem]) rfl ?_
     exact PcPost.bad _ HP.out ((Ext.refl w).alloc _)
   | false =>
     have hP2 : pcR k bs a = ((0, (dtx bs a).1), (dtx bs a).2.1, (dtx bs a).2.2) := by rw [hP, if_neg (by decide)]
     by_cases hlong : 200 < u
     · have HP := Lib.hid (by rw [dtx_long hg hlong] at hP2; exact hP2)
       have hI : (200 : Int) < (u : Int) := by omega
       clear hx hu hP hP2 hB hnum hg hbl hv1 hv2 hu64
       go_enter Tryz.func155, Tryz.ntmps155
       go_wp2_with fail
       refine G1.out.mono ?_
       rintro e w1 ⟨rfl, rfl⟩
       go_wp2_with fail
       refine (HN.out _).mono ?_
       rintro e w1 ⟨rfl, rfl⟩
       go_wp2
       refine bodyPost_ret (v := .tuple #[.agg #[.bool false, .int .i64 0, .slice none 0 0], .int .i64 0, .int .i64 4]) (by simp [results, Tryz.results155, go_sem]) rfl ?_
       exact PcPost.bad _ HP.out ((Ext.refl w).alloc _)
     · have hki : IntKind.i64.wrap (u : Int) = (u : Int) := IntWalk.i64_in _ (by omega)
       have hu200 : u ≤ 200 := by omega
       have hI : ¬ (200 : Int) < (u : Int) := by omega
       by_cases hshort : n < m + u
       · have HP := Lib.hid (by rw [dtx_short hg hu200 (by rw [hbl]; omega)] at hP2; exact hP2)
         have hgt : (n : Int) - (m : Int) < (u : Int) := by omega
         clear hx hu hP hP2 hB hnum hg hbl hv1 hv2 hu64 hlong
         go_enter Tryz.func155, Tryz.ntmps155
         go_wp2_with fail
         refine G1.out.mono ?_
         rintro e w1 ⟨rfl, rfl⟩
         go_wp2_with fail
         refine (HN.out _).mono ?_
         rintro e w1 ⟨rfl, rfl⟩
         go_wp2
         refine bodyPost_ret (v := .tuple #[.agg #[.bool false, .int .i64 0, .slice none 0 0], .int .i64 0, .int .i64 2]) (by simp [results, Tryz.results155, go_sem]) rfl ?_
         exact PcPost.bad _ HP.out ((Ext.refl w).alloc _)
       · have HP := Lib.hid (by rw [dtx_yes hg hu200 (by rw [hbl]; omega)] at hP2; exact hP2)
         rw [Int.toNat_natCast] at HP
         have hgt : ¬ (n : Int) - (m : Int) < (u : Int) := by omega
         have sc := run_cut A n c m (m + u) (by omega) (by omega)
         rw [show m + u - m = u by omega] at sc
         have sc2 : ∀ W : World, (Instr.slice 22 (.slice A n c) (some (.int .i64 (m : Int))) (some (.int .i64 ((m : Int) + (u : Int)))) none).run Tryz.prog W = .ok (.slice (offA A m c) u (c - m : Nat)) W := sc
         have hcr : Rd .u8 w (offA A m c) u (cut bs m u) := by
           have := hx.cut (l := m) (h := m + u) (c := c) (by omega) (by omega) hcap
           rw [show m + u - m = u by omega] at this
           exact this
         have hcl : (cut bs m u).length = u := hcr.len
         obtain ⟨t, ht⟩ : ∃ t, t = cut bs m u := ⟨_, rfl⟩
         obtain ⟨A9, hA9⟩ : ∃ A9, A9 = offA A m c := ⟨_, rfl⟩
         rw [← ht] at hcr hcl HP
         rw [← hA9] at sc2 hcr
         have HC := Lib.hid (fun W (hW : Ext w W) => clone10_any A9 u (c - m) t W (hcr.ext hW) (by omega))
         have Hcl := Lib.hid hcl
         clear hx hu hP hP2 hB hnum hg hbl hv1 hv2 hu64 hlong hcr hcl ht hA9 sc
         go_enter Tryz.func155, Tryz.ntmps155
         go_wp2_with fail
         refine G1.out.mono ?_
         rintro e w1 ⟨rfl, rfl⟩
         go_wp2_with fail
         refine (HN.out _).mono ?_
         rintro e w1 ⟨rfl, rfl⟩
         go_wp2_with fail
         refine (HC.out _ hE).mono ?_
         rintro e w2 ⟨A2, c2, rfl, ho2, he2⟩
         have HK := Lib.hid (Ext.kept he2)
         have hE2 := hE.trans he2
         go_wp2_with (refine wpList_store_cell rfl (.tmp 6) (.tmp 49) rfl w.heap.size (.bool false) (.int .i64 0) (.slice A2 u c2) rfl rfl HK.out rfl rfl rfl ?_)
         apply bodyPost_ret
         · exact results_cell3 rfl _ _ w.heap.size 61 #[.bool false, .int .i64 0, .slice A2 u c2] (0, 0) _ rfl (setRow_heap w2 w.heap.size _ _ 61 (0, 0) HK.out) Tryz.underlying61 rfl (by kernel_rfl)
         · rfl
         rw [HP.out]
         refine ⟨A2, c2, by simp only; rw [Hcl.out]; rfl, ?_, hE2.setRow (Nat.le_refl _) _⟩
         exact (ho2.far (grown_setRow w2 w.heap.size #[.bool false, .int .i64 0, .slice A2 u c2]) (by simp)).mono (base' := w.heap.size) (by simp)
 · have HP := Lib.hid (show pcR k bs a = ((0, []), 0, e) by
     rw [hP]
     split
     · rw [hg]; simp only; rw [if_pos he0]
     · rw [dtx_err hg he0])
   have hb1 : (e != 0) = true := by rw [bne_iff_ne]; exact he0
   clear hx hu hP hB hnum hg hbl
   go_enter Tryz.func155, Tryz.ntmps155
   go_wp2_with fail
   refine G1.out.mono ?_
   rintro e w1 ⟨rfl, rfl⟩
   go_wp2
   refine bodyPost_ret (v := .tuple #[.agg #[.bool false, .int .i64 0, .slice none 0 0], .int .i64 0, .int .i64 e]) (by simp [results, Tryz.results155, go_sem]) rfl ?_
   exact PcPost.bad _ HP.out ((Ext.refl w).alloc _)
abbrev Cv := Bool × Int × List Nat
theorem pcR_at {k : Int} {bs : List Nat} {a : Int} (hu : U8 bs) (h : (pcR k bs a).2.2 = 0) : 0 ≤ (pcR k bs a).2.1 ∧ (pcR k bs a).2.1 ≤ bs.length := by
 unfold pcR at h ⊢
 split at h
 · rename_i hk
   rw [if_pos hk]
   split at h
   · rename_i h2; exact absurd h h2
   · rename_i h2
     rw [if_neg h2]
     rcases hg : vget bs a with ⟨u, nx, e⟩
     rw [hg] at h2
     obtain rfl : e = 0 := by simpa using h2
     obtain ⟨_, hv1, hv2, _, _⟩ := vget_at hu hg
     simp only
     omega
 · rename_i hk
   rw [if_neg hk]
   have := dtx_ok (s := (dtx bs a).1) (n := (dtx bs a).2.1) hu (by simp only at h; rw [← h])
   simp only
   omega
def plA (k : Int) (bs : List Nat) : Nat → Int → List Cv → List Cv × Int × Int
 | 0, a, acc => (acc, a, 0)
 | n + 1, a, acc => if (pcR k bs a).2.2 ≠ 0 then ([], 0, (pcR k bs a).2.2) else plA k bs n (pcR k bs a).2.1 (acc ++ [(false, (pcR k bs a).1.1, (pcR k bs a).1.2)])
def gplR (k : Int) (bs : List Nat) (n : Nat) : List Cv × Int :=
 if (plA k bs n 0 []).2.2 ≠ 0 then ([], (plA k bs n 0 []).2.2) else if (plA k bs n 0 []).2.1 < bs.length then ([], 3) else ((plA k bs n 0 []).1, 0)
def GcPost (R : List Cv × Int) (w : World) (e : Ending) (w' : World) : Prop :=
 ∃ fs A' c', e = .returned (.tuple #[.slice A' R.1.length c', .int .i64 R.2]) ∧ fs.map Ci.val = R.1 ∧ OwnX w' w.heap.size A' c' fs ∧ TxtX w' w.heap.size fs ∧ Ext w w'
theorem GcPost.bad {w w' : World} (R : List Cv × Int) {E : Int} (h : R = ([], E)) (he : Ext w w') : GcPost R w (.returned (.tuple #[.slice none 0 0, .int .i64 E])) w' := by
 subst h
 exact ⟨[], none, 0, rfl, rfl, OwnX.nil .., TxtX.nil .., he⟩
set_option maxHeartbeats 4000000 in
theorem getPlain_any (k : Int) (A : Option Addr) (l c n : Nat) (bs : List Nat) (w : World) (hx : Rd .u8 w A l bs) (hu : U8 bs) (hl : l ≤ 140737488355328) (hn : n ≤ 4096) (hcap : l ≤ c) (hcm : c ≤ 9223372036854775807) :
   Calls Tryz.prog 119 #[.int .i64 k, .slice A l c, .int .i64 (n : Int)] w (GcPost (gplR k bs n) w) := by
 have hP := Lib.hid (fun (a : Nat) (h : a ≤ l) W (hW : Ext w W) => getPlainCell_any k A l c a bs W (hx.ext hW) hu hl h hcap hcm)
 have HA := Lib.hid (fun (a : Nat) => pcR_at (k := k) (a := (a : Int)) hu)
 have hbl := hx.len
 rw [hbl] at HA
 have hR := gplR.eq_1 k bs n
 rw [hbl] at hR
 obtain ⟨R, hRR⟩ : ∃ R, R = plA k bs n 0 [] := ⟨_, rfl⟩
 rw [← hRR] at hR
 have HR := Lib.hid hR
 have HS : Hid (plA k bs (n - 0) ((0 : Nat) : Int) (([] : List Ci).map Ci.val) = R) := Lib.hid (by rw [hRR]; rfl)
 have Hst := Lib.hid (fun (q : Nat) (a : Int) (acc : List Cv) => plA.eq_2 k bs a acc q)
 clear hx hu hbl hR hRR
 go_enter Tryz.func119, Tryz.ntmps119
 go_wp2_with fail
 go_loopw [8, 9, 14] (fun v y i wr => ∃ (j a : Nat) (A' : Option Addr) (c' : Nat) (fs : List Ci), j ≤ n ∧ a ≤ l ∧ i = .int .i64 (j : Int) ∧ y = .int .i64 (a : Int) ∧ v = .slice A' j c' ∧ Hid (fs.length = j) ∧ OwnX wr w.heap.size A' c' fs ∧ TxtX wr w.heap.size fs ∧ Below w.heap.size w wr ∧ Hid (plA k bs (n - j) (a : Int) (fs.map Ci.val) = R)) (fun _ _ i _ => n - (intOf i).toNat)
 case atStart => exact ⟨0, 0, none, 0, [], Nat.zero_le _, Nat.zero_le _, rfl, rfl, rfl, Lib.hid rfl, OwnX.nil _ _, TxtX.nil _ _, Ext.refl _, HS⟩
 case round =>
   obtain ⟨j, a, A', c', fs, hj, haa, rfl, rfl, rfl, Hfl, hown, htx, hb, HB⟩ := hrel
   have hz := hb.size
   by_cases hlt : j < n
   · have Hp := Lib.hid (hP.out a haa wr hb)
     have hat := HA.out a
     have hB := HB.out
     rw [show n - j = (n - (j + 1)) + 1 by omega, Hst.out] at hB
     obtain ⟨P, hPP⟩ : ∃ P, P = pcR k bs (a : Int) := ⟨_, rfl⟩
     rw [← hPP] at Hp hat hB
     obtain ⟨⟨v, t⟩, nx, er⟩ := P
     simp only at hat hB
     clear hPP HB
     by_cases he : er = 0
     · subst he
       obtain ⟨hn0, hn1⟩ := hat rfl
       obtain ⟨m, rfl⟩ := Int.eq_ofNat_of_zero_le hn0
       rw [if_neg (fun h => h rfl)] at hB
       have HB2 := Lib.hid hB
       obtain ⟨q, hq⟩ : ∃ q, q = t.length := ⟨_, rfl⟩
       have Hq := Lib.hid hq
       have hml : m ≤ l := by omega
       clear hB hat hq hn0 hn1
       go_wp2_with fail
       refine Hp.out.mono ?_
       rintro e w1 ⟨A1, c1, rfl, hown1, he1⟩
       simp only [← Hq.out]
       have hE1 : Below w.heap.size w w1 := Ext.trans hb he1
       have hown2 := hown.ext he1
       have htx2 := htx.ext he1
       have hlow : ∀ g ∈ fs, ∀ p, g.A = some p → p.block < wr.heap.size := fun g hg p hp => ((htx.1 g hg).block p hp).2
       have hsz1 := he1.size
       have HE1 := Lib.hid hE1
       have hX : Ext w1 ((w1.alloc (.cells #[.bool false, .int .i64 v, .slice A1 q c1] 61)).alloc (.cells #[.bool false, .int .i64 v, .slice A1 q c1] 61)) := ((Ext.refl w1).alloc _).alloc _
       have hown3 := hown2.ext hX
       go_wp2_with (at_builtin; refine wpList_pushX (w0 := w) ⟨false, v, A1, c1, t⟩ rfl _ _ rfl hown3 j Hfl.out rfl rfl ?_ (by omega) (Ext.trans hE1 hX) (by simp; omega) ?_; (focus (rw [← Hq.out]; exact heap_at (by simp))); intro A3 c3 w3 hown4 hgr hb3 hz3)
       have htx3 : TxtX w3 w.heap.size (fs ++ [⟨false, v, A1, c1, t⟩]) := TxtX.grown (base' := w.heap.size) (TxtX.snoc (htx2.ext hX) (hown1.ext hX) hz hlow) hown3 hgr
       go_roundw
       case rel => exact ⟨j + 1, m, A3, c3, _, hlt, hml, by go_num, rfl, rfl, Lib.hid (by rw [List.length_append, Hfl.out]; rfl), hown4, htx3, hb3, Lib.hid (by rw [List.map_append]; exact HB2.out)⟩
       case measure => simp [intOf]; omega
     · have heb : (er == 0) = false := beq_eq_false_iff_ne.2 he
       rw [if_pos he] at hB
       have HR2 := Lib.hid (show gplR k bs n = ([], er) by rw [HR.out, ← hB]; exact if_pos he)
       clear hB hat he
       go_wp2_with fail
       refine Hp.out.mono ?_
       rintro e w1 ⟨A1, c1, rfl, hown1, he1⟩
       have hE1 : Below w.heap.size w w1 := Ext.trans hb he1
       go_wp2_with fail
       go_ret2
       exact GcPost.bad _ HR2.out (Ext.alloc hE1 _)
   · obtain rfl : j = n := by omega
     have hB := HB.out
     rw [Nat.sub_self] at hB
     have hB2 : R = (fs.map Ci.val, (a : Int), 0) := hB.symm
     have hR3 : gplR k bs j = if (a : Int) < (l : Int) then ([], 3) else (fs.map Ci.val, 0) := by rw [HR.out, hB2]; exact if_neg (fun h => h rfl)
     clear hB hB2 HB
     by_cases hal : a < l
     · have HR3 := Lib.hid (hR3.trans (if_pos (by omega)))
       have hI : (a : Int) < (l : Int) := by omega
       clear hR3
       go_wp2
       go_ret2
       exact GcPost.bad _ HR3.out hb
     · have HR3 := Lib.hid (hR3.trans (if_neg (by omega)))
       have hI : ¬ (a : Int) < (l : Int) := by omega
       clear hR3
       go_wp2
       go_ret2
       rw [HR3.out]
       exact ⟨fs, A', c', by rw [List.length_map, Hfl.out]; rfl, rfl, hown, htx, hb⟩
def tellF (vs : List Int) (v : Int) (k : Nat) : List Int × Int := if vs.getLast? = some v then ([], 5) else if 4096 - (vs.length : Int) < k then ([], 4) else (vs ++ List.replicate k v, 0)
def TellPost (R : List Int × Int) (base : Nat) (w : World) (e : Ending) (w' : World) : Prop :=
 ∃ A' c', e = .returned (.tuple #[.slice A' R.1.length c', .int .i64 R.2]) ∧ OwnG shZ 2 w' base A' c' R.1 ∧ Below base w w' ∧ base ≤ w'.heap.size
theorem last_getD {vs : List Int} {m : Nat} (h : vs.length = m + 1) : vs.getLast? = some (vs.getD m 0) := by
 rw [List.getLast?_eq_getElem?, h, Nat.add_sub_cancel, List.getD, List.getElem?_eq_getElem (by omega)]; rfl
set_option maxHeartbeats 800000 in
theorem tell_last (A : Option Addr) (m c base : Nat) (vs : List Int) (v : Int) (k : Nat) (w : World) (hown : OwnG shZ 2 w base A c vs) (hn : vs.length = m + 1) (hn4 : m + 1 ≤ 4096) (hz : base ≤ w.heap.size) (hv : vs.getD m 0 = v) :
   Calls Tryz.prog 207 #[.slice A (m + 1) c, .int .i64 v, .int .u64 k] w (TellPost ([], 5) base w) := by
 obtain ⟨b, o, rfl, hbl, hc⟩ := (hown.rd' hn).atZ (j := m) (by omega)
 rw [hv] at hc
 clear hn hown hv
 go_enter Tryz.func207, Tryz.ntmps207
 go_wp2_with fail
 go_ret2
 exact ⟨none, 0, rfl, OwnG.nil _ _ _ _, Below.refl _ _, hz⟩
set_option maxHeartbeats 800000 in
theorem tell_long (A : Option Addr) (m c base : Nat) (vs : List Int) (v : Int) (k : Nat) (w : World) (hown : OwnG shZ 2 w base A c vs) (hn : vs.length = m + 1) (hn4 : m + 1 ≤ 4096) (hz : base ≤ w.heap.size) (hv : vs.getD m 0 ≠ v) (hk : 4096 - ((m : Int) + 1) < k) :
   Calls Tryz.prog 207 #[.slice A (m + 1) c, .int .i64 v, .int .u64 k] w (TellPost ([], 4) base w) := by
 obtain ⟨b, o, rfl, hbl, hc⟩ := (hown.rd' hn).atZ (j := m) (by omega)
 obtain ⟨x, hx⟩ : ∃ x, x = vs.getD m 0 := ⟨_, rfl⟩
 rw [← hx] at hc hv
 have hne : (x == v) = false := by simpa using hv
 have hw : IntKind.u64.wrap (4096 - ((m : Int) + 1)) = 4096 - ((m : Int) + 1) := IntWalk.u64_in _ (by omega)
 clear hn hown hv hx
 go_enter Tryz.func207, Tryz.ntmps207
 go_wp2_with fail
 go_ret2
 exact ⟨none, 0, rfl, OwnG.nil _ _ _ _, Below.refl _ _, hz⟩
set_option maxHeartbeats 800000 in
theorem tell_long0 (A : Option Addr) (c base : Nat) (v : Int) (k : Nat) (w : World) (hz : base ≤ w.heap.size) (hk : (4096 : Int) < k) :
   Calls Tryz.prog 207 #[.slice A 0 c, .int .i64 v, .int .u64 k] w (TellPost ([], 4) base w) := by
 go_enter Tryz.func207, Tryz.ntmps207
 go_wp2_with fail
 go_ret2
 exact ⟨none, 0, rfl, OwnG.nil _ _ _ _, Below.refl _ _, hz⟩
set_option maxHeartbeats 1600000 in
theorem tell_go (A : Option Addr) (m c base : Nat) (vs : List Int) (v : Int) (k : Nat) (w : World) (hown : OwnG shZ 2 w base A c vs) (hn : vs.length = m + 1) (hn4 : m + 1 ≤ 4096) (hz : base ≤ w.heap.size) (hv : vs.getD m 0 ≠ v) (hk : (k : Int) ≤ 4096 - ((m : Int) + 1)) :
   Calls Tryz.prog 207 #[.slice A (m + 1) c, .int .i64 v, .int .u64 k] w (TellPost (vs ++ List.replicate k v, 0) base w) := by
 have Hn := Lib.hid hn
 have HO := Lib.hid hown
 obtain ⟨b, o, rfl, hbl, hc⟩ := (hown.rd' hn).atZ (j := m) (by omega)
 obtain ⟨x, hx⟩ : ∃ x, x = vs.getD m 0 := ⟨_, rfl⟩
 rw [← hx] at hc hv
 have hne : (x == v) = false := by simpa using hv
 have hw : IntKind.u64.wrap (4096 - ((m : Int) + 1)) = 4096 - ((m : Int) + 1) := IntWalk.u64_in _ (by omega)
 have hd : decide (4096 - ((m : Int) + 1) < (k : Int)) = false := decide_eq_false (by omega)
 clear hn hown hv hx
 go_enter Tryz.func207, Tryz.ntmps207
 go_wp2_with fail
 go_loopw [0, 28] (fun y i wr => ∃ (j : Nat) (A' : Option Addr) (c' : Nat), j ≤ k ∧ i = .int .u64 j ∧ y = .slice A' (m + 1 + j : Nat) c' ∧ OwnG shZ 2 wr base A' c' (vs ++ List.replicate j v) ∧ Below base w wr ∧ base ≤ wr.heap.size) (fun _ i _ => k - (intOf i).toNat)
 case atStart => exact ⟨0, _, _, Nat.zero_le _, rfl, rfl, by simpa using HO.out, Below.refl _ _, hz⟩
 case round =>
   obtain ⟨j, A', c', hj, rfl, rfl, hown, hb, hz2⟩ := hrel
   have Hb := Lib.hid hb
   by_cases hlt : j < k
   · have hl : (vs ++ List.replicate j v).length = m + 1 + j := by rw [List.length_append, List.length_replicate, Hn.out]
     have Hl := Lib.hid hl
     have Ho := Lib.hid hown
     have hu1 : IntKind.u64.wrap ((j : Int) + 1) = (j : Int) + 1 := IntWalk.u64_in _ (by omega)
     clear hl hown hb
     go_wp2_with (at_builtin; refine wpList_pushG (w0 := w) (base := base) shZ v 2 rfl _ _ 115 rfl _ 8 Tryz.underlying115 Tryz.infoI64 rfl (by decide) (Ho.out.ext ((Ext.refl _).alloc _)) (m + 1 + j) Hl.out rfl rfl (heap_alloc_new _ _) (by omega) (by omega) (Below.alloc Hb.out hz2 _) (by simp; omega) ?_; intro A1 c1 w1 hown1 _ hb1 hz1)
     go_roundw
     case rel => exact ⟨j + 1, A1, c1, by omega, by go_num, (by first | rfl | (congr 1; omega)), by rw [List.replicate_succ', ← List.append_assoc]; exact hown1, hb1, hz1⟩
     case measure => simp [intOf]; omega
   · obtain rfl : j = k := by omega
     go_wp2_with fail
     go_ret2
     refine ⟨A', c', ?_, hown, hb, hz2⟩
     show _ = Ending.returned (.tuple #[.slice A' (vs ++ List.replicate j v).length c', .int .i64 0])
     rw [List.length_append, List.length_replicate, Hn.out]
     rfl
set_option maxHeartbeats 1600000 in
theorem tell_go0 (A : Option Addr) (c base : Nat) (vs : List Int) (v : Int) (k : Nat) (w : World) (hown : OwnG shZ 2 w base A c vs) (hn : vs.length = 0) (hz : base ≤ w.heap.size) (hk : (k : Int) ≤ 4096) :
   Calls Tryz.prog 207 #[.slice A 0 c, .int .i64 v, .int .u64 k] w (TellPost (vs ++ List.replicate k v, 0) base w) := by
 have Hn := Lib.hid hn
 have HO := Lib.hid hown
 have hd : decide ((4096 : Int) < (k : Int)) = false := decide_eq_false (by omega)
 clear hn hown
 go_enter Tryz.func207, Tryz.ntmps207
 go_wp2_with fail
 go_loopw [0, 28] (fun y i wr => ∃ (j : Nat) (A' : Option Addr) (c' : Nat), j ≤ k ∧ i = .int .u64 j ∧ y = .slice A' (0 + j : Nat) c' ∧ OwnG shZ 2 wr base A' c' (vs ++ List.replicate j v) ∧ Below base w wr ∧ base ≤ wr.heap.size) (fun _ i _ => k - (intOf i).toNat)
 case atStart => exact ⟨0, _, _, Nat.zero_le _, rfl, rfl, by simpa using HO.out, Below.refl _ _, hz⟩
 case round =>
   obtain ⟨j, A', c', hj, rfl, rfl, hown, hb, hz2⟩ := hrel
   have Hb := Lib.hid hb
   by_cases hlt : j < k
   · have hl : (vs ++ List.replicate j v).length = 0 + j := by rw [List.length_append, List.length_replicate, Hn.out]
     have Hl := Lib.hid hl
     have Ho := Lib.hid hown
     have hu1 : IntKind.u64.wrap ((j : Int) + 1) = (j : Int) + 1 := IntWalk.u64_in _ (by omega)
     clear hl hown hb
     go_wp2_with (at_builtin; refine wpList_pushG (w0 := w) (base := base) shZ v 2 rfl _ _ 115 rfl _ 8 Tryz.underlying115 Tryz.infoI64 rfl (by decide) (Ho.out.ext ((Ext.refl _).alloc _)) (0 + j) Hl.out rfl rfl (heap_alloc_new _ _) (by omega) (by omega) (Below.alloc Hb.out hz2 _) (by simp; omega) ?_; intro A1 c1 w1 hown1 _ hb1 hz1)
     go_roundw
     case rel => exact ⟨j + 1, A1, c1, by omega, by go_num, (by first | rfl | (congr 1; omega)), by rw [List.replicate_succ', ← List.append_assoc]; exact hown1, hb1, hz1⟩
     case measure => simp [intOf]; omega
   · obtain rfl : j = k := by omega
     go_wp2_with fail
     go_ret2
     refine ⟨A', c', ?_, hown, hb, hz2⟩
     show _ = Ending.returned (.tuple #[.slice A' (vs ++ List.replicate j v).length c', .int .i64 0])
     rw [List.length_append, List.length_replicate, Hn.out]
     rfl
theorem tell_any (A : Option Addr) (n c base : Nat) (vs : List Int) (v : Int) (k : Nat) (w : World) (hown : OwnG shZ 2 w base A c vs) (hn : vs.length = n) (hn4 : n ≤ 4096) (hz : base ≤ w.heap.size) :
   Calls Tryz.prog 207 #[.slice A n c, .int .i64 v, .int .u64 k] w (TellPost (tellF vs v k) base w) := by
 rcases Nat.eq_zero_or_pos n with rfl | hp
 · obtain rfl : vs = [] := List.eq_nil_of_length_eq_zero hn
   unfold tellF
   rw [if_neg (by simp)]
   by_cases hbig : 4096 - (([] : List Int).length : Int) < k
   · rw [if_pos hbig]; exact tell_long0 A c base v k w hz (by simpa using hbig)
   · rw [if_neg hbig]; exact tell_go0 A c base [] v k w hown hn hz (by simp at hbig; omega)
 · obtain ⟨m, rfl⟩ : ∃ m, n = m + 1 := ⟨n - 1, by omega⟩
   unfold tellF
   rw [last_getD hn]
   by_cases hv : vs.getD m 0 = v
   · rw [if_pos (by rw [hv])]; exact tell_last A m c base vs v k w hown hn hn4 hz hv
   · rw [if_neg (by intro h; injection h with h; exact hv h), hn]
     by_cases hbig : 4096 - ((m + 1 : Nat) : Int) < k
     · rw [if_pos hbig]; exact tell_long A m c base vs v k w hown hn hn4 hz hv (by omega)
     · rw [if_neg hbig]; exact tell_go A m c base vs v k w hown hn hn4 hz hv (by omega)
def JoinPost (R : List Int × Int) (w : World) (e : Ending) (w' : World) : Prop :=
 ∃ A' c', e = .returned (.tuple #[.slice A' R.1.length c', .int .i64 R.2]) ∧ OwnG shZ 2 w' w.heap.size A' c' R.1 ∧ Ext w w'
theorem tellF_len {vs : List Int} {v : Int} {k : Nat} (_h : vs.length ≤ 4096) : (tellF vs v k).1.length ≤ 4096 := by
 unfold tellF
 split
 · simp
 · split
   · simp
   · rw [List.length_append, List.length_replicate]; omega
def decS (bs : List Nat) (vs : List Int) (a : Int) : List Int × Int × Int :=
 if (vget bs a).2.2 ≠ 0 then ([], 0, (vget bs a).2.2) else
 if (vget bs (vget bs a).2.1).2.2 ≠ 0 then ([], 0, (vget bs (vget bs a).2.1).2.2) else
 if (vget bs (vget bs a).2.1).1 = 0 then ([], 0, 5) else
 if (tellF vs (unfS (vget bs a).1) (vget bs (vget bs a).2.1).1).2 ≠ 0 then ([], 0, (tellF vs (unfS (vget bs a).1) (vget bs (vget bs a).2.1).1).2) else
 ((tellF vs (unfS (vget bs a).1) (vget bs (vget bs a).2.1).1).1, (vget bs (vget bs a).2.1).2.1, 0)
theorem decR_step (bs : List Nat) (m : Nat) (vs : List Int) (a : Int) : decR bs (m + 1) vs a = if (decS bs vs a).2.2 = 0 then decR bs m (decS bs vs a).1 (decS bs vs a).2.1 else ([], (decS bs vs a).2.2) := by
 rw [decR]
 unfold decS
 by_cases h1 : (vget bs a).2.2 ≠ 0
 · rw [if_pos h1, if_pos h1, if_neg h1]
 rw [if_neg h1, if_neg h1]
 by_cases h2 : (vget bs (vget bs a).2.1).2.2 ≠ 0
 · rw [if_pos h2, if_pos h2, if_neg h2]
 rw [if_neg h2, if_neg h2]
 by_cases h3 : (vget bs (vget bs a).2.1).1 = 0
 · rw [if_pos (.inl h3), if_pos h3, if_neg (by simp)]
 rw [if_neg h3]
 by_cases h4 : vs.getLast? = some (unfS (vget bs a).1)
 · have e : tellF vs (unfS (vget bs a).1) (vget bs (vget bs a).2.1).1 = ([], 5) := if_pos h4
   rw [if_pos (.inr h4), e]
   simp
 rw [if_neg (by rintro (h | h); exact h3 h; exact h4 h)]
 by_cases h5 : 4096 - (vs.length : Int) < (vget bs (vget bs a).2.1).1
 · have e : tellF vs (unfS (vget bs a).1) (vget bs (vget bs a).2.1).1 = ([], 4) := by unfold tellF; rw [if_neg h4, if_pos h5]
   rw [if_pos h5, e]
   simp
 · have e : tellF vs (unfS (vget bs a).1) (vget bs (vget bs a).2.1).1 = (vs ++ List.replicate (vget bs (vget bs a).2.1).1 (unfS (vget bs a).1), 0) := by unfold tellF; rw [if_neg h4, if_neg h5]
   rw [if_neg h5, e]
   simp
theorem decS_len {bs : List Nat} {vs : List Int} {a : Int} (h : vs.length ≤ 4096) : (decS bs vs a).1.length ≤ 4096 := by
 unfold decS
 repeat' split
 all_goals first | exact tellF_len h | simp
def DSPost (R : List Int × Int × Int) (base : Nat) (w : World) (e : Ending) (w' : World) : Prop :=
 ∃ A' c', e = .returned (.tuple #[.slice A' R.1.length c', .int .i64 R.2.1, .int .i64 R.2.2]) ∧ OwnG shZ 2 w' base A' c' R.1 ∧ Below base w w' ∧ base ≤ w'.heap.size
set_option maxHeartbeats 3200000 in
theorem decodeRun_any (B : Option Addr) (nb cb : Nat) (bs : List Nat) (A : Option Addr) (n c base : Nat) (vs : List Int) (a : Int) (w : World) (hx : Rd .u8 w B nb bs) (hu : U8 bs) (hnb : nb ≤ 140737488355328) (hcb : nb ≤ cb) (hcm : cb ≤ 9223372036854775807)
   (hown : OwnG shZ 2 w base A c vs) (hn : vs.length = n) (hn4 : n ≤ 4096) (hz : base ≤ w.heap.size) :
   Calls Tryz.prog 190 #[.slice A n c, .slice B nb cb, .int .i64 a] w (DSPost (decS bs vs a) base w) := by
 have hbl := vget_bounds (a := a) hu (by rw [hx.len]; exact hnb)
 obtain ⟨R, hR⟩ : ∃ R, R = decS bs vs a := ⟨_, rfl⟩
 rw [← hR]
 unfold decS at hR
 have G1 : ∀ W at_, Ext w W → Calls Tryz.prog 77 #[.slice B nb cb, .int .i64 at_] W (GetPost bs at_ W) := fun W at_ hW => get_any B nb cb at_ bs W (hx.ext hW) hu hnb hcb hcm
 have hbl2 := vget_bounds (a := (vget bs a).2.1) hu (by rw [hx.len]; exact hnb)
 rcases hg : vget bs a with ⟨u, a1, e1⟩
 rw [hg] at hR hbl hbl2
 simp only at hR hbl hbl2
 rcases hg2 : vget bs a1 with ⟨k, a2, e2⟩
 rw [hg2] at hR hbl2
 simp only at hR hbl2
 have HG := Lib.hid G1
 have Hg := Lib.hid hg
 have Hg2 := Lib.hid hg2
 have HR := Lib.hid hR
 have Hbl := Lib.hid hbl
 have Hbl2 := Lib.hid hbl2
 have Hx := Lib.hid hx
 have Ho := Lib.hid hown
 have Hn := Lib.hid hn
 clear G1 hg hg2 hR hbl hbl2 hx hown hn hcm hcb hnb hu
 go_enter Tryz.func190, Tryz.ntmps190
 go_wp2_with fail
 refine (HG.out _ a (Ext.refl w)).mono ?_
 rintro e w1 ⟨rfl, rfl⟩
 rw [Hg.out]
 simp only
 by_cases h1 : e1 = 0
 · subst h1
   go_wp2_with fail
   refine (HG.out _ a1 (Ext.refl w)).mono ?_
   rintro e w1 ⟨rfl, rfl⟩
   rw [Hg2.out]
   simp only
   by_cases h2 : e2 = 0
   · subst h2
     by_cases h3 : k = 0
     · subst h3
       have HE := Lib.hid (show R = ([], 0, 5) by rw [HR.out]; simp)
       go_wp2_with fail
       go_ret3
       exact ⟨none, 0, by rw [HE.out]; rfl, by rw [HE.out]; exact OwnG.nil _ _ _ _, Below.refl _ _, hz⟩
     · have hk0 : ((k : Int) == 0) = false := by rw [beq_eq_false_iff_ne]; omega
       obtain ⟨T, hT⟩ : ∃ T, T = tellF vs (unfS u) k := ⟨_, rfl⟩
       have HE := Lib.hid (show R = if T.2 ≠ 0 then ([], 0, T.2) else (T.1, a2, 0) by rw [HR.out, if_neg (by simp), if_neg (by simp), if_neg h3, ← hT])
       have HT := Lib.hid hT
       clear hT
       go_wp2_with fail
       refine (unfold_any (u : Int) _ (by omega) (by have := Hbl.out.1; omega)).mono ?_
       rintro e w1 ⟨rfl, rfl⟩
       go_wp2_with fail
       refine (tell_any A n c base vs (unfS u) k _ Ho.out Hn.out hn4 hz).mono ?_
       rintro e w1 ⟨A1, c1, rfl, hown1, hb1, hz1⟩
       rw [← HT.out] at hown1 ⊢
       by_cases h4 : T.2 = 0
       · have HE2 := Lib.hid (show R = (T.1, a2, 0) by rw [HE.out, if_neg (by simpa using h4)])
         have hb0 : (T.2 != 0) = false := by simpa using h4
         clear HE h4
         go_wp2_with fail
         go_ret3
         exact ⟨A1, c1, by rw [HE2.out]; rfl, by rw [HE2.out]; exact hown1, hb1, hz1⟩
       · have HE2 := Lib.hid (show R = ([], 0, T.2) by rw [HE.out, if_pos (by simpa using h4)])
         have hb0 : (T.2 != 0) = true := by simpa using h4
         clear HE h4
         go_wp2_with fail
         go_ret3
         exact ⟨none, 0, by rw [HE2.out]; rfl, by rw [HE2.out]; exact OwnG.nil _ _ _ _, hb1, hz1⟩
   · have hb0 : (e2 != 0) = true := by simpa using h2
     have HE := Lib.hid (show R = ([], 0, e2) by rw [HR.out, if_neg (by simp), if_pos h2])
     clear h2
     go_wp2_with fail
     go_ret3
     exact ⟨none, 0, by rw [HE.out]; rfl, by rw [HE.out]; exact OwnG.nil _ _ _ _, Below.refl _ _, hz⟩
 · have hb0 : (e1 != 0) = true := by simpa using h1
   have HE := Lib.hid (show R = ([], 0, e1) by rw [HR.out, if_pos h1])
   clear h1
   go_wp2_with fail
   go_ret3
   exact ⟨none, 0, by rw [HE.out]; rfl, by rw [HE.out]; exact OwnG.nil _ _ _ _, Below.refl _ _, hz⟩
set_option maxHeartbeats 3200000 in
theorem decode_any (B : Option Addr) (nb cb : Nat) (bs : List Nat) (w : World) (hx : Rd .u8 w B nb bs) (hu : U8 bs) (hnb : nb ≤ 140737488355328) (hcb : nb ≤ cb) (hcm : cb ≤ 9223372036854775807) :
   Calls Tryz.prog 156 #[.slice B nb cb] w (JoinPost (decode8 bs) w) := by
 have Hl := Lib.hid hx.len
 have hbl := vget_bounds (a := 0) hu (by rw [hx.len]; exact hnb)
 obtain ⟨R, hR⟩ : ∃ R, R = decode8 bs := ⟨_, rfl⟩
 rw [← hR]
 unfold decode8 at hR
 have hG := get_any B nb cb 0 bs w hx hu hnb hcb hcm
 rcases hg : vget bs 0 with ⟨M, a, e1⟩
 rw [hg] at hR hbl
 simp only at hR hbl
 have hD : ∀ W A n c vs at_, Below w.heap.size w W → OwnG shZ 2 W w.heap.size A c vs → vs.length = n → n ≤ 4096 → Calls Tryz.prog 190 #[.slice A n c, .slice B nb cb, .int .i64 at_] W (DSPost (decS bs vs at_) w.heap.size W) := fun W A n c vs at_ hW ho h1 h2 =>
   decodeRun_any B nb cb bs A n c w.heap.size vs at_ W (hx.ext hW) hu hnb hcb hcm ho h1 h2 hW.size
 have HG := Lib.hid hG
 have HD := Lib.hid hD
 have Hg := Lib.hid hg
 have HR := Lib.hid hR
 have Hbl := Lib.hid hbl
 clear hG hD hg hR hbl hx hcm hcb hu
 go_enter Tryz.func156, Tryz.ntmps156
 go_wp2_with fail
 refine HG.out.mono ?_
 rintro e w1 ⟨rfl, rfl⟩
 rw [Hg.out]
 simp only
 by_cases h1 : e1 = 0
 · subst h1
   by_cases h2 : 4096 < M
   · have HE := Lib.hid (show R = ([], 4) by rw [HR.out, if_neg (by simp), if_pos h2])
     have hb1 : (4096 : Int) < (M : Int) := by omega
     go_wp2_with fail
     go_ret2
     exact ⟨none, 0, by rw [HE.out]; rfl, by rw [HE.out]; exact OwnG.nil _ _ _ _, Ext.refl w⟩
   · have HE := Lib.hid (show R = decR bs M [] a by rw [HR.out, if_neg (by simp), if_neg h2])
     have hb1 : decide ((4096 : Int) < (M : Int)) = false := decide_eq_false (by omega)
     go_wp2_with fail
     go_loopw [5, 7, 20] (fun p y i wr => ∃ (j L : Nat) (at_ : Int) (vs : List Int) (A' : Option Addr) (c' : Nat), j ≤ M ∧ L ≤ 4096 ∧ L = vs.length ∧ p = .int .i64 at_ ∧ i = .int .u64 j ∧ y = .slice A' L c' ∧ OwnG shZ 2 wr w.heap.size A' c' vs ∧ Hid (R = decR bs (M - j) vs at_) ∧ Below w.heap.size w wr) (fun _ _ i _ => M - (intOf i).toNat)
     case atStart => exact ⟨0, 0, a, [], none, 0, Nat.zero_le _, Nat.zero_le _, rfl, rfl, rfl, rfl, OwnG.nil _ _ _ _, HE, Ext.refl w⟩
     case round =>
       obtain ⟨j, L, at_, vs, A', c', hj, hL4, hL, rfl, rfl, rfl, hown, HJ, hb⟩ := hrel
       have HL := Lib.hid hL
       have hz : w.heap.size ≤ wr.heap.size := hb.size
       have Ho := Lib.hid hown
       have Hb := Lib.hid hb
       clear hL hown hb
       by_cases hlt : j < M
       · have HS := Lib.hid (show R = if (decS bs vs at_).2.2 = 0 then decR bs (M - (j + 1)) (decS bs vs at_).1 (decS bs vs at_).2.1 else ([], (decS bs vs at_).2.2) by
           rw [HJ.out, show M - j = (M - (j + 1)) + 1 from by omega, decR_step])
         have HSl := Lib.hid (decS_len (bs := bs) (a := at_) (show vs.length ≤ 4096 by have := HL.out; omega))
         obtain ⟨T, hT⟩ : ∃ T, T = decS bs vs at_ := ⟨_, rfl⟩
         have HT := Lib.hid hT
         rw [← hT] at HS HSl
         clear hT HJ
         go_wp2_with fail
         refine (HD.out _ A' L c' vs at_ Hb.out Ho.out HL.out.symm hL4).mono ?_
         rintro e w1 ⟨A1, c1, rfl, hown1, hb1, hz1⟩
         rw [← HT.out] at hown1 ⊢
         have hb2 := Below.trans Hb.out hb1
         by_cases h4 : T.2.2 = 0
         · have HS2 := Lib.hid (show R = decR bs (M - (j + 1)) T.1 T.2.1 by rw [HS.out, if_pos h4])
           have hb0 : (T.2.2 != 0) = false := by simpa using h4
           have HTL := HSl.out
           have hu1 : IntKind.u64.wrap ((j : Int) + 1) = (j : Int) + 1 := IntWalk.u64_in _ (by omega)
           clear HS h4
           go_wp2_with fail
           go_roundw
           case rel => exact ⟨j + 1, T.1.length, T.2.1, T.1, A1, c1, by omega, HTL, rfl, rfl, by go_num, rfl, hown1, HS2, hb2⟩
           case measure => simp [intOf]; omega
         · have HS2 := Lib.hid (show R = ([], T.2.2) by rw [HS.out, if_neg h4])
           have hb0 : (T.2.2 != 0) = true := by simpa using h4
           clear HS h4
           go_wp2_with fail
           go_ret2
           exact ⟨none, 0, by rw [HS2.out]; rfl, by rw [HS2.out]; exact OwnG.nil _ _ _ _, hb2⟩
       · obtain rfl : j = M := by omega
         have HS := Lib.hid (show R = if at_ < (bs.length : Int) then ([], 3) else (vs, 0) by rw [HJ.out, Nat.sub_self, decR])
         have h1 := HL.out
         subst h1
         by_cases h5 : at_ < (nb : Int)
         · have HS2 := Lib.hid (show R = ([], 3) by rw [HS.out, if_pos (by rw [Hl.out]; exact h5)])
           clear HS
           go_wp2_with fail
           go_ret2
           exact ⟨none, 0, by rw [HS2.out]; rfl, by rw [HS2.out]; exact OwnG.nil _ _ _ _, Hb.out⟩
         · have HS2 := Lib.hid (show R = (vs, 0) by rw [HS.out, if_neg (by rw [Hl.out]; exact h5)])
           have hb0 : decide (at_ < (nb : Int)) = false := decide_eq_false h5
           clear HS h5
           go_wp2_with fail
           go_ret2
           exact ⟨A', c', by rw [HS2.out]; rfl, by rw [HS2.out]; exact Ho.out, Hb.out⟩
 · have hb0 : (e1 != 0) = true := by simpa using h1
   have HE := Lib.hid (show R = ([], e1) by rw [HR.out, if_pos h1])
   clear h1
   go_wp2_with fail
   go_ret2
   exact ⟨none, 0, by rw [HE.out]; rfl, by rw [HE.out]; exact OwnG.nil _ _ _ _, Ext.refl w⟩
set_option maxHeartbeats 6400000 in
theorem decodeSome_any (b o nb cb n : Nat) (a : Int) (bs : List Nat) (w : World) (hx : Rd .u8 w (some ⟨b, o, none⟩) nb bs) (hu : U8 bs) (hnb : nb ≤ 140737488355328) (hcb : nb ≤ cb) (hcm : cb ≤ 9223372036854775807) (hn1 : 1 ≤ n) (hn : n ≤ 4096) :
   Calls Tryz.prog 191 #[.slice (some ⟨b, o, none⟩) nb cb, .int .i64 a, .int .i64 n] w (Dec9Post (decSome bs a n) w) := by
 have Hl := Lib.hid hx.len
 obtain ⟨R, hR⟩ : ∃ R, R = decSome bs a n := ⟨_, rfl⟩
 rw [← hR]
 unfold decSome at hR
 have hG := get_any (some ⟨b, o, none⟩) nb cb a bs w hx hu hnb hcb hcm
 rcases hg : vget bs a with ⟨u, a1, e1⟩
 rw [hg] at hR
 simp only at hR
 have Hg := Lib.hid hg
 have HG := Lib.hid hG
 have Hcm := Lib.hid hcm
 clear hcm
 by_cases h1 : e1 = 0
 · subst h1
   obtain ⟨p1, p2, p3, p4, _⟩ := vget_at hu hg
   obtain ⟨q, rfl⟩ : ∃ q : Nat, a1 = (q : Int) := ⟨a1.toNat, by omega⟩
   rw [if_neg (by simp), Int.toNat_natCast] at hR
   unfold decTail at hR
   have hql : q ≤ nb := by have := Hl.out; omega
   have hlr := unf_range p4
   have hU : Hid (∀ W, Calls Tryz.prog 189 #[.int .u64 (u : Int)] W fun e w' => e = .returned (.int .i64 (unfS u)) ∧ W = w') := Lib.hid fun W => unfold_any (u : Int) W (by omega) (by omega)
   obtain ⟨l, hle⟩ : ∃ l, l = unfS u := ⟨_, rfl⟩
   rw [← hle] at hR hlr hU
   by_cases h2 : q = nb
   · have HE := Lib.hid (show R = ([], 2) by rw [hR, if_pos (by rw [Hl.out]; exact h2)])
     subst h2
     clear hR hG hg p1 p2 p3 p4 hle
     go_enter Tryz.func191, Tryz.ntmps191
     go_wp2_with fail
     refine HG.out.mono ?_
     rintro e w1 ⟨rfl, rfl⟩
     rw [Hg.out]
     simp only
     go_wp2_with fail
     go_ret2
     exact ⟨none, 0, by rw [HE.out]; rfl, by rw [HE.out]; exact OwnG.nil _ _ _ _, Ext.refl w⟩
   · rw [if_neg (by rw [Hl.out]; exact h2)] at hR
     have hq0 : ((q : Int) == (nb : Int)) = false := by rw [beq_eq_false_iff_ne]; omega
     have hqlt : q < nb := by omega
     obtain ⟨b', o', hA, hbl, hc⟩ := hx.at_ hqlt
     injection hA with hA
     injection hA with hb' ho'
     subst hb' ho'
     obtain ⟨d, hde⟩ : ∃ d, d = bs.getD q 0 := ⟨_, rfl⟩
     have hd256 : d < 256 := by rw [hde]; exact hu.at_ q
     rw [← hde] at hR hc
     have hdr := hx.dropAt (k := q + 1) hqlt
     have hwd : IntKind.i64.wrap (d : Int) = (d : Int) := IntWalk.i64_in _ (by omega)
     have hUn : Hid (∀ (B : Option Addr) (cB wd : Nat), wd = bs.getD q 0 → Rd .u8 w B (nb - (q + 1)) (bs.drop (q + 1)) → Calls Tryz.prog 154 #[.slice B (nb - (q + 1) : Nat) cB, .int .i64 (wd : Int), .int .i64 (n : Int)] w fun e w' => ∃ A' c', e = .returned (.tuple #[.slice A' (secL bs q n).length c', .int .i64 (secE bs q n)]) ∧ Own .u64 69 w' w.heap.size A' c' (secL bs q n) ∧ Ext w w') := Lib.hid fun B cB wd hwd hB => by
       have := unpack_any B (nb - (q + 1)) cB (wd : Int) (n : Int) (bs.drop (q + 1)) w hB (fun v hv => hu v (List.mem_of_mem_drop hv)) (by omega)
       unfold UnpPost at this
       rw [hwd, ← Hl.out] at this
       rw [hwd, ← Hl.out]
       exact this
     have hdr0 : cb = q + 1 → Rd .u8 w (some ⟨b, o, none⟩) (nb - (q + 1)) (bs.drop (q + 1)) := fun h => by
       have h1 : nb - (q + 1) = 0 := by omega
       rw [h1, List.drop_of_length_le (by have := Hl.out; omega)]
       exact Rd.nil _ _ _
     have Hdr := Lib.hid hdr
     have Hdr0 := Lib.hid hdr0
     clear hdr hdr0
     by_cases h3 : 64 < d
     · have HE := Lib.hid (show R = ([], 5) by rw [hR, if_pos h3])
       have hd3 : (64 : Int) < (d : Int) := by omega
       clear hR hG hg p1 p2 p3 p4 hle hde hd256
       go_enter Tryz.func191, Tryz.ntmps191
       go_wp2_with fail
       refine HG.out.mono ?_
       rintro e w1 ⟨rfl, rfl⟩
       rw [Hg.out]
       simp only
       go_wp2_with fail
       go_ret2
       exact ⟨none, 0, by rw [HE.out]; rfl, by rw [HE.out]; exact OwnG.nil _ _ _ _, Ext.refl w⟩
     · rw [if_neg h3] at hR
       have hd3 : decide ((64 : Int) < (d : Int)) = false := decide_eq_false (by omega)
       have hfu := secL_u64 bs q n (by rw [← hde]; omega)
       have hfl := secL_len (bs := bs) (a := q) (n := n)
       have hUn2 := Lib.hid (fun B cB h => hUn.out B cB d hde h)
       obtain ⟨E, hE⟩ : ∃ E, E = secE bs q n := ⟨_, rfl⟩
       obtain ⟨F, hF⟩ : ∃ F, F = secL bs q n := ⟨_, rfl⟩
       rw [← hE, ← hF] at hUn2 hR
       rw [← hE, ← hF] at hfl
       rw [← hF] at hfu
       by_cases h4 : E = 0
       · subst h4
         rw [if_neg (by simp)] at hR
         have hFl := hfl rfl
         have HFl := Lib.hid hFl
         rw [hFl] at hUn2
         have Hon : Hid (∀ (B : Option Addr) (cB : Nat) W, Rd .u64 W B n F → Calls Tryz.prog 208 #[.int .i64 l, .int .i64 (d : Int), .slice B n cB] W fun e w' => e = .returned (.bool (onlyF l d F)) ∧ W = w') := Lib.hid fun B cB W h => isOnly_any l d B n cB F W hlr h hfu (by omega) (by omega)
         by_cases h5 : onlyF l d F = true
         · rw [if_pos h5] at hR
           rw [h5] at Hon
           have hin : ∀ j, j < n → (F.getD j 0 : Int) ≤ 9223372036854775807 - l := fun j hj => by
             have h6 := le_hiN _ (mem_getD (d := 0) (show j < F.length by omega))
             unfold onlyF at h5
             simp only [Bool.and_eq_true, decide_eq_true_eq] at h5
             have := h5.2.2
             omega
           obtain ⟨D, hD⟩ : ∃ D, D = above l F := ⟨_, rfl⟩
           rw [← hD] at hR
           have HDl := Lib.hid (show D.length = n by rw [hD, above_len]; exact hFl)
           have HDj := Lib.hid (show ∀ j, j < n → D.getD j 0 = l + (F.getD j 0 : Int) from fun j hj => by rw [hD]; simp [above, List.getD, show j < F.length from by omega])
           have HR := Lib.hid hR
           have Hin := Lib.hid hin
           have Hlr := Lib.hid hlr
           clear hR hG hg p1 p2 p3 p4 hle hde hE hF hFl hfl hfu hD hin h5 hUn
           go_enter Tryz.func191, Tryz.ntmps191
           go_wp2_with fail
           refine HG.out.mono ?_
           rintro e w1 ⟨rfl, rfl⟩
           rw [Hg.out]
           simp only
           go_wp2_with fail
           all_goals
             refine (hUn2.out _ _ (by first | exact Hdr.out | exact Hdr0.out (by omega))).mono ?_
             rintro e w1 ⟨A1, c1, rfl, hown1, he1⟩
             have hr1 := hown1.rd' HFl.out
             clear hown1
             go_wp2_with fail
             refine (hU.out _).mono ?_
             rintro e w2 ⟨rfl, rfl⟩
             go_wp2_with fail
             refine (Hon.out _ _ _ hr1).mono ?_
             rintro e w2 ⟨rfl, rfl⟩
             go_wp2_with (refine wpList_mkZ 2 rfl _ _ 115 rfl 8 Tryz.underlying115 Tryz.infoI64 .i64 .i64 n rfl rfl rfl rfl (by omega) (by omega) ?_; intro w3 hown3 he3)
             have hown30 : OwnG shZ 2 w3 w1.heap.size (some ⟨w1.heap.size, 0, none⟩) n (D.take 0 ++ List.replicate (n - 0) 0) := by simpa using hown3
             clear hown3
             go_loopw [59] (fun i wr => ∃ j : Nat, j ≤ n ∧ i = .int .i64 j ∧ OwnG shZ 2 wr w1.heap.size (some ⟨w1.heap.size, 0, none⟩) n (D.take j ++ List.replicate (n - j) 0) ∧ Ext w1 wr) (fun i _ => n - (intOf i).toNat)
             case atStart => exact ⟨0, Nat.zero_le _, rfl, hown30, he3⟩
             case round =>
               obtain ⟨j, hj, rfl, hown, hEw⟩ := hrel
               clear hown30
               by_cases hlt : j < n
               · obtain ⟨b2, o2, hA2, hbl2, hc2⟩ := (hr1.ext hEw).at_ hlt
                 have hjl : j < (D.take j ++ List.replicate (n - j) 0).length := by rw [List.length_append, List.length_take, List.length_replicate, HDl.out]; omega
                 obtain ⟨b3, x3, hA3, hbb3, hbl3, hx3, hc3, hf3, hst3⟩ := hown.at_ hjl
                 injection hA3 with hA3
                 injection hA3 with hA3
                 subst hA3
                 have hc30 := hc3 0 _ rfl
                 have hf30 := hf3 j
                 rw [show j * shZ.sz + 0 = j from by show j * 1 + 0 = j; omega] at hc30
                 have hDj := HDj.out j hlt
                 have hinj := Hin.out j hlt
                 have hwa := wrap_above Hlr.out hinj
                 rw [← hDj] at hwa
                 obtain ⟨h1, h2⟩ := hst3 0 (D.getD j 0) (.int .i64 (D.getD j 0)) (by decide) rfl
                 rw [show j * shZ.sz + 0 = j from by show j * 1 + 0 = j; omega, set_nextZ HDl.out hlt] at h1
                 rw [show j * shZ.sz + 0 = j from by show j * 1 + 0 = j; omega] at h2
                 have hEn := hEw.setCell (p := ⟨w1.heap.size, j, none⟩) (Nat.le_refl _) (.int .i64 (D.getD j 0))
                 obtain ⟨y, hy⟩ : ∃ y, y = D.getD j 0 := ⟨_, rfl⟩
                 obtain ⟨x, hxe⟩ : ∃ x, x = F.getD j 0 := ⟨_, rfl⟩
                 rw [← hy] at h1 hEn hwa
                 rw [← hxe] at hc2 hwa
                 have H1 := Lib.hid h1
                 have HEn := Lib.hid hEn
                 subst hA2
                 clear h1 h2 hEn hst3 hc3 hf3 hx3 hDj hinj hy hxe hown hEw hjl
                 go_wp2_with fail
                 go_roundw
                 case rel => exact ⟨j + 1, by omega, by go_num, H1.out, HEn.out⟩
                 case measure => simp [intOf]; omega
               · obtain rfl : j = n := by omega
                 rw [Nat.sub_self, List.replicate_zero, List.append_nil, List.take_of_length_le (by have := HDl.out; omega)] at hown
                 have hEf := he1.trans hEw
                 have hzf := he1.size
                 go_wp2_with fail
                 go_ret2
                 refine ⟨some ⟨w1.heap.size, 0, none⟩, j, ?_, ?_, hEf⟩
                 · rw [HR.out]
                   show _ = Ending.returned (.tuple #[.slice (some ⟨w1.heap.size, 0, none⟩) D.length j, .int .i64 0])
                   rw [HDl.out]
                   rfl
                 · rw [HR.out]; exact hown.mono hzf
         · have HR := Lib.hid (show R = ([], 5) by rw [hR, if_neg h5])
           have h5f : onlyF l d F = false := by simpa using h5
           rw [h5f] at Hon
           clear hR hG hg p1 p2 p3 p4 hle hde hE hF hFl hfl hfu h5 hUn h5f
           go_enter Tryz.func191, Tryz.ntmps191
           go_wp2_with fail
           refine HG.out.mono ?_
           rintro e w1 ⟨rfl, rfl⟩
           rw [Hg.out]
           simp only
           go_wp2_with fail
           all_goals
             refine (hUn2.out _ _ (by first | exact Hdr.out | exact Hdr0.out (by omega))).mono ?_
             rintro e w1 ⟨A1, c1, rfl, hown1, he1⟩
             have hr1 := hown1.rd' HFl.out
             clear hown1
             go_wp2_with fail
             refine (hU.out _).mono ?_
             rintro e w2 ⟨rfl, rfl⟩
             go_wp2_with fail
             refine (Hon.out _ _ _ hr1).mono ?_
             rintro e w2 ⟨rfl, rfl⟩
             go_wp2_with fail
             go_ret2
             exact ⟨none, 0, by rw [HR.out]; rfl, by rw [HR.out]; exact OwnG.nil _ _ _ _, he1⟩
       · have HR := Lib.hid (show R = ([], E) by rw [hR, if_pos h4])
         have hb0 : (E != 0) = true := by simpa using h4
         clear hR hG hg p1 p2 p3 p4 hle hde hE hF hfl hfu hUn h4
         go_enter Tryz.func191, Tryz.ntmps191
         go_wp2_with fail
         refine HG.out.mono ?_
         rintro e w1 ⟨rfl, rfl⟩
         rw [Hg.out]
         simp only
         go_wp2_with fail
         all_goals
           refine (hUn2.out _ _ (by first | exact Hdr.out | exact Hdr0.out (by omega))).mono ?_
           rintro e w1 ⟨A1, c1, rfl, hown1, he1⟩
           go_wp2_with fail
           go_ret2
           exact ⟨none, 0, by rw [HR.out]; rfl, by rw [HR.out]; exact OwnG.nil _ _ _ _, he1⟩
 · have hb0 : (e1 != 0) = true := by simpa using h1
   have HE := Lib.hid (show R = ([], e1) by rw [hR, if_pos h1])
   clear h1 hR hG hg
   go_enter Tryz.func191, Tryz.ntmps191
   go_wp2_with fail
   refine HG.out.mono ?_
   rintro e w1 ⟨rfl, rfl⟩
   rw [Hg.out]
   simp only
   go_wp2_with fail
   go_ret2
   exact ⟨none, 0, by rw [HE.out]; rfl, by rw [HE.out]; exact OwnG.nil _ _ _ _, Ext.refl w⟩
set_option maxHeartbeats 3200000 in
theorem pdecode_any (A : Option Addr) (nb cb : Nat) (bs : List Nat) (w : World) (hx : Rd .u8 w A nb bs) (hu : U8 bs) (hnb : nb ≤ 140737488355328) (hcb : nb ≤ cb) (hcm : cb ≤ 9223372036854775807) :
   Calls Tryz.prog 157 #[.slice A nb cb] w (Dec9Post (decode9 bs) w) := by
 have Hl := Lib.hid hx.len
 obtain ⟨R, hR⟩ : ∃ R, R = decode9 bs := ⟨_, rfl⟩
 rw [← hR]
 unfold decode9 at hR
 have hG := get_any A nb cb 0 bs w hx hu hnb hcb hcm
 rcases hg : vget bs 0 with ⟨M, a, e1⟩
 rw [hg] at hR
 simp only at hR
 have Hg := Lib.hid hg
 have HG := Lib.hid hG
 by_cases h1 : e1 = 0
 · subst h1
   rw [if_neg (by simp)] at hR
   by_cases h2 : 4096 < M
   · have HE := Lib.hid (show R = ([], 4) by rw [hR, if_pos h2])
     have hb1 : (4096 : Int) < (M : Int) := by omega
     clear hR hG hg hcm hu
     go_enter Tryz.func157, Tryz.ntmps157
     go_wp2_with fail
     refine HG.out.mono ?_
     rintro e w1 ⟨rfl, rfl⟩
     rw [Hg.out]
     simp only
     go_wp2_with fail
     go_ret2
     exact ⟨none, 0, by rw [HE.out]; rfl, by rw [HE.out]; exact OwnG.nil _ _ _ _, Ext.refl w⟩
   · rw [if_neg h2] at hR
     have hb1 : decide ((4096 : Int) < (M : Int)) = false := decide_eq_false (by omega)
     by_cases h3 : M = 0
     · subst h3
       rw [if_pos rfl] at hR
       by_cases h4 : a < (nb : Int)
       · have HE := Lib.hid (show R = ([], 3) by rw [hR, if_pos (by rw [Hl.out]; exact h4)])
         clear hR hG hg hcm hu
         go_enter Tryz.func157, Tryz.ntmps157
         go_wp2_with fail
         refine HG.out.mono ?_
         rintro e w1 ⟨rfl, rfl⟩
         rw [Hg.out]
         simp only
         go_wp2_with fail
         go_ret2
         exact ⟨none, 0, by rw [HE.out]; rfl, by rw [HE.out]; exact OwnG.nil _ _ _ _, Ext.refl w⟩
       · have HE := Lib.hid (show R = ([], 0) by rw [hR, if_neg (by rw [Hl.out]; exact h4)])
         have hb2 : decide (a < (nb : Int)) = false := decide_eq_false h4
         clear hR hG hg hcm hu h4
         go_enter Tryz.func157, Tryz.ntmps157
         go_wp2_with fail
         refine HG.out.mono ?_
         rintro e w1 ⟨rfl, rfl⟩
         rw [Hg.out]
         simp only
         go_wp2_with fail
         go_ret2
         exact ⟨none, 0, by rw [HE.out]; rfl, by rw [HE.out]; exact OwnG.nil _ _ _ _, Ext.refl w⟩
     · rw [if_neg h3] at hR
       obtain ⟨p1, p2, p3, p4, _⟩ := vget_at hu hg
       have hn0 : 0 < nb := by have := Hl.out; omega
       obtain ⟨b, o, rfl, _⟩ := hx.2 hn0
       have HD := Lib.hid (decodeSome_any b o nb cb M a bs w hx hu hnb hcb hcm (by omega) (by omega))
       have hb3 : decide ((0 : Int) < (M : Int)) = true := decide_eq_true (by omega)
       have hwm : IntKind.i64.wrap (M : Int) = (M : Int) := IntWalk.i64_in _ (by omega)
       have HE := Lib.hid hR
       clear hR hG hg hcm hu p1 p2 p3 p4
       go_enter Tryz.func157, Tryz.ntmps157
       go_wp2_with fail
       refine HG.out.mono ?_
       rintro e w1 ⟨rfl, rfl⟩
       rw [Hg.out]
       simp only
       go_wp2_with fail
       refine HD.out.mono ?_
       rintro e w1 ⟨A1, c1, rfl, hown1, he1⟩
       go_wp2_with fail
       go_ret2
       exact ⟨A1, c1, by rw [HE.out]; rfl, by rw [HE.out]; exact hown1, he1⟩
 · have hb0 : (e1 != 0) = true := by simpa using h1
   have HE := Lib.hid (show R = ([], e1) by rw [hR, if_pos h1])
   clear h1 hR hG hg hcm hu
   go_enter Tryz.func157, Tryz.ntmps157
   go_wp2_with fail
   refine HG.out.mono ?_
   rintro e w1 ⟨rfl, rfl⟩
   rw [Hg.out]
   simp only
   go_wp2_with fail
   go_ret2
   exact ⟨none, 0, by rw [HE.out]; rfl, by rw [HE.out]; exact OwnG.nil _ _ _ _, Ext.refl w⟩
theorem hiN_mem {xs : List Nat} (h : 0 < xs.length) : hiN xs ∈ xs := by
 have key : ∀ (r : List Nat) (x : Nat), r.foldl max x = x ∨ r.foldl max x ∈ r := by
   intro r
   induction r with
   | nil => intro x; exact .inl rfl
   | cons z r ih =>
     intro x
     rw [List.foldl_cons]
     rcases ih (max x z) with h | h
     · rcases Nat.le_total x z with hxz | hxz
       · right; rw [h, Nat.max_eq_right hxz]; simp
       · left; rw [h]; omega
     · exact .inr (List.mem_cons_of_mem _ h)
 cases xs with
 | nil => simp at h
 | cons x r =>
   rcases key r x with h | h
   · show r.foldl max x ∈ x :: r
     rw [h]; simp
   · exact List.mem_cons_of_mem _ h
theorem loN_zero {xs : List Nat} (h : 0 < xs.length) : loN xs = 0 ↔ 0 ∈ xs := by
 have key : ∀ (r : List Nat) (x : Nat), r.foldl min x = 0 ↔ x = 0 ∨ 0 ∈ r := by
   intro r
   induction r with
   | nil => intro x; simp
   | cons z r ih =>
     intro x
     rw [List.foldl_cons, ih, List.mem_cons]
     constructor
     · rintro (h | h)
       · rcases Nat.le_total x z with hxz | hxz
         · left; omega
         · right; left; omega
       · exact .inr (.inr h)
     · rintro (h | h | h)
       · left; omega
       · left; omega
       · exact .inr h
 cases xs with
 | nil => simp at h
 | cons x r => exact (key r x).trans (by rw [List.mem_cons]; constructor <;> (rintro (h | h); exact .inl h.symm; exact .inr h))
open Go.RowKit Go.Maps Go.WideMaps
theorem lawU : Keyed Tryz.prog 69 := int_keyed Tryz.underlying69
theorem run_mkU (w : World) : (Instr.makeMap 234 none).run Tryz.prog w = .ok (.map (some w.heap.size)) (w.alloc (.map #[] 0)) := by
 simp [Instr.makeMap, Result.andThen]
theorem u64_min : IntKind.u64.min = 0 := by decide
theorem u64_max : IntKind.u64.max = 18446744073709551615 := by decide
theorem keyU_of (u : Nat) (h : u < 18446744073709551616) : keyOf Tryz.prog 69 (.int .u64 (u : Int)) = some (.int .u64 (u : Int)) := by
 refine keyOf_int_mk Tryz.underlying69 ?_
 have h1 : IntKind.u64.min ≤ (u : Int) := by rw [u64_min]; omega
 have h2 : (u : Int) ≤ IntKind.u64.max := by rw [u64_max]; omega
 simp [Lit.wf, h1]
 omega
theorem elI_wrap {H : Type} (z : Int) : elI H (.int .i64 (wrap64 z)) = some (.lit (.int .i64 (wrap64 z)), []) :=
 plainElem_int Tryz.underlying3 (wrap64_wf z)
def kc (n : Nat) (us : List Nat) : Nat := (List.range n).countP fun i => decide (i ∈ us)
theorem kc_nil (n : Nat) : kc n [] = 0 := by simp [kc]
theorem kc_succ (n : Nat) (us : List Nat) : kc (n + 1) us = kc n us + if n ∈ us then 1 else 0 := by
 unfold kc
 rw [List.range_succ, List.countP_append, List.countP_singleton]
 by_cases h : n ∈ us <;> simp [h]
theorem kc_same {us : List Nat} {u : Nat} (h : u ∈ us) : ∀ n, kc n (us ++ [u]) = kc n us
 | 0 => rfl
 | n + 1 => by
   rw [kc_succ, kc_succ, kc_same h n]
   congr 1
   by_cases q : n ∈ us
   · simp [q]
   · have : ¬ n = u := fun e => q (by rw [e]; exact h)
     simp [q, this]
theorem kc_above {us : List Nat} {u : Nat} : ∀ n, n ≤ u → kc n (us ++ [u]) = kc n us
 | 0, _ => rfl
 | n + 1, h => by
   rw [kc_succ, kc_succ, kc_above n (by omega)]
   congr 1
   have : ¬ n = u := by omega
   simp [this]
theorem kc_new {us : List Nat} {u : Nat} (h : ¬ u ∈ us) : ∀ n, u < n → kc n (us ++ [u]) = kc n us + 1
 | 0, hu => by omega
 | n + 1, hu => by
   rw [kc_succ, kc_succ]
   by_cases e : u = n
   · subst e
     rw [kc_above u (Nat.le_refl _)]
     simp [h]
   · rw [kc_new h n (by omega)]
     have : ¬ n = u := fun q => e q.symm
     have e2 : (n ∈ us ++ [u]) = (n ∈ us) := by simp [this]
     simp only [e2]
     omega
theorem kc_le : ∀ (n : Nat) (us : List Nat), kc n us ≤ n
 | 0, _ => Nat.le_refl _
 | n + 1, us => by
   have := kc_le n us
   rw [kc_succ]
   split <;> omega
theorem kc_all {us : List Nat} : ∀ (n : Nat), kc n us = n ↔ ∀ i, i < n → i ∈ us
 | 0 => by simp [kc]
 | n + 1 => by
   have h1 := kc_le n us
   rw [kc_succ]
   by_cases h : n ∈ us
   · rw [if_pos h]
     constructor
     · intro e i hi
       by_cases q : i = n
       · subst q; exact h
       · exact (kc_all n).1 (by omega) i (by omega)
     · intro e
       rw [(kc_all n).2 (fun i hi => e i (by omega))]
   · rw [if_neg h]
     constructor
     · intro e; omega
     · intro e; exact absurd (e n (by omega)) h
def SeenD (D : DataW Unit) (us : List Nat) (n : Nat) : Prop := Tidy D ∧ (∀ x : Nat, has D (.int .u64 (x : Int)) = true ↔ x ∈ us) ∧ Maps.size D = kc n us
theorem SeenD.step {D : DataW Unit} {us : List Nat} {n u : Nat} (h : SeenD D us n) (hu : u < n) (d : DataW Unit) : SeenD (D.put (.int .u64 (u : Int)) d) (us ++ [u]) n := by
 obtain ⟨h1, h2, h3⟩ := h
 refine ⟨h1.put (show WideAt.IsKeyLit (.int .u64 (u : Int)) from trivial) d, fun x => ?_, ?_⟩
 · by_cases e : x = u
   · subst e
     rw [has_put_same h1.isMap (show WideAt.IsKeyLit (.int .u64 (x : Int)) from trivial)]
     simp
   · rw [has_put_other (fun q => e (by injection q with _ q; omega)), h2]
     simp [e]
 · rw [size_put h1]
   by_cases q : u ∈ us
   · rw [(h2 u).2 q, if_pos rfl, kc_same q, h3]
   · have : has D (.int .u64 (u : Int)) = false := by
       cases hh : has D (.int .u64 (u : Int)) with
       | false => rfl
       | true => exact absurd ((h2 u).1 hh) q
     rw [this, kc_new q n hu, h3]
     rfl
set_option maxHeartbeats 1600000 in
set_option maxRecDepth 100000 in
theorem allMeant_any (A : Option Addr) (m c n : Nat) (us : List Nat) (w : World) (hx : Rd .u64 w A m us) (hm : m ≤ 1000000) (hn : n ≤ 1000000) (hu : U64 us) :
   Calls Tryz.prog 194 #[.slice A m c, .int .i64 (n : Int)] w fun e w' => e = .returned (.bool (meant us n)) ∧ Ext w w' := by
 have Hl := Lib.hid hx.len
 have Hu := Lib.hid hu
 have hmk := run_mkU
 clear hu
 go_enter Tryz.func194, Tryz.ntmps194
 go_wp2_with fail
 clear hmk
 obtain ⟨g, hg⟩ : ∃ g, g = w.heap.size := ⟨_, rfl⟩
 have hown0 := World.ownsMap_made (H := Unit) w Tryz.prog 69 (elI Unit)
 rw [← hg] at hown0 ⊢
 have Hg := Lib.hid hg
 have Hown0 := Lib.hid hown0
 clear hown0 hg
 go_loopw [7, 11] (fun _ i wr => ∃ (j : Nat) (D : DataW Unit), j ≤ m ∧ i = .int .i64 j ∧ Hid (wr.ownsMap Tryz.prog 69 (elI Unit) g j D) ∧ Hid (SeenD D (us.take j) n) ∧ Hid (Ext w wr) ∧ Hid (∀ u ∈ us.take j, u < n)) (fun _ i _ => m - (intOf i).toNat)
 case atStart => exact ⟨0, _, Nat.zero_le _, rfl, Hown0.out, ⟨tidy_empty, fun x => by simp [has], by rw [List.take_zero, kc_nil]; rfl⟩, (Ext.refl w).alloc _, fun u hu => by rw [List.take_zero] at hu; cases hu⟩
 case round =>
   clear Hown0
   obtain ⟨j, D, hj, rfl, HM, HS, HE, HA⟩ := hrel
   by_cases hlt : j < m
   · obtain ⟨b, o, rfl, hbb, hc⟩ := (hx.ext HE.out).at_ hlt
     have hvs : us[j]? = some (us.getD j 0) := by simp [List.getD, show j < us.length by rw [Hl.out]; exact hlt]
     have hv := Hu.out _ (List.mem_of_getElem? hvs)
     have htk : us.take (j + 1) = us.take j ++ [us.getD j 0] := take_nextG us j hvs
     have hmem := List.mem_of_getElem? hvs
     obtain ⟨u, hue⟩ : ∃ u, u = us.getD j 0 := ⟨_, rfl⟩
     rw [← hue] at hc hv htk hmem
     have Hk := Lib.hid (keyU_of u hv)
     have Htk := Lib.hid htk
     have Hmem := Lib.hid hmem
     clear hvs htk hue hmem
     by_cases hge : n ≤ u
     · have HR := Lib.hid (show meant us n = false by
         cases q : meant us n with
         | false => rfl
         | true => have := (meant_iff.1 q).1 u Hmem.out; omega)
       go_wp2_with fail
       go_ret
       exact ⟨by rw [HR.out]; rfl, HE.out⟩
     · have HS2 := fun d => HS.out.step (u := u) (by omega) d
       have HS3 := Lib.hid HS2
       have HA2 := Lib.hid (show ∀ x ∈ us.take (j + 1), x < n by
         intro x hx2
         rw [Htk.out] at hx2
         rcases List.mem_append.1 hx2 with h | h
         · exact HA.out x h
         · simp at h; omega)
       clear HS2
       go_wp2_with (first
         | (at_lookup; refine wpList_lookup_own_int _ rfl _ _ 234 rfl 69 3 .i64 lawU Tryz.underlying234 Tryz.underlying3 (zero_int _) g _ _ rfl HM.out _ _ rfl Hk.out ?_; intro cc hat hwc; clear hat hwc)
         | (at_mapUpdate; refine wpList_mapUpdate_own _ rfl _ _ _ 234 rfl 69 3 lawU Tryz.underlying234 (elI Unit) g j _ rfl HM.out (by unfold maxLen; omega) _ _ _ rfl rfl Hk.out _ [] (elI_wrap _) ?_; intro w2 hown2 hg2)
         | fail)
       have HM2 := Lib.hid hown2
       have HE2 := Lib.hid (show Ext w w2 from grownBy_ext HE.out hg2 (fun g' hg' => by injection hg' with hg'; have := Hg.out; omega))
       clear hown2 hg2
       go_wp2_with fail
       go_roundw
       case rel => exact ⟨j + 1, _, by omega, by go_num, HM2.out, by rw [Htk.out]; exact HS3.out _, HE2.out, HA2.out⟩
       case measure => simp [intOf]; omega
   · obtain rfl : j = m := by omega
     have htk : us.take j = us := List.take_of_length_le (by rw [Hl.out]; exact Nat.le_refl _)
     have hsz := HS.out.2.2
     have hal := HA.out
     rw [htk] at hsz hal
     have hle := kc_le n us
     have hR : meant us n = decide (kc n us = n) := by
       by_cases h : kc n us = n
       · rw [decide_eq_true h]; exact meant_iff.2 ⟨hal, (kc_all n).1 h⟩
       · rw [decide_eq_false h]
         cases q : meant us n with
         | false => rfl
         | true => exact absurd ((kc_all n).2 (meant_iff.1 q).2) h
     obtain ⟨z, hz⟩ : ∃ z, z = kc n us := ⟨_, rfl⟩
     rw [← hz] at hsz hle hR
     have Hsz := Lib.hid hsz
     have HR := Lib.hid hR
     clear htk hsz hal hz hR
     go_wp2_with (first | (at_len; refine wpList_len_own _ rfl _ 234 rfl 69 3 Tryz.underlying234 _ g _ _ rfl HM.out ?_; rw [Hsz.out]) | fail)
     go_ret
     exact ⟨by rw [HR.out]; by_cases h : z = n <;> simp [h] <;> omega, HE.out⟩
end Go.Proofs.YthibbgmicmfkfaaGreat
