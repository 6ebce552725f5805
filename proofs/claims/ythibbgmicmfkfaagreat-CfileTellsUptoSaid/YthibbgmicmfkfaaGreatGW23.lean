import Derived.Test.YthibbgmicmfkfaaGreatGW22
namespace Go.Proofs.YthibbgmicmfkfaaGreat
open Go.RowKit
set_option maxRecDepth 100000
theorem tw_spec {T : Type} {P : T → Bool} : ∀ (L : List T), (L.takeWhile P).length ≤ L.length ∧ (∀ j t, j < (L.takeWhile P).length → L[j]? = some t → P t = true) ∧ (∀ t, L[(L.takeWhile P).length]? = some t → P t = false) ∧ L.dropWhile P = L.drop (L.takeWhile P).length
 | [] => ⟨Nat.le_refl _, fun j t h => absurd h (Nat.not_lt_zero _), fun t h => (by cases h), rfl⟩
 | x :: L => by
   obtain ⟨h1, h2, h3, h4⟩ := tw_spec (P := P) L
   cases hx : P x with
   | false =>
     have e : (x :: L).takeWhile P = [] := by simp [hx]
     rw [e]
     exact ⟨Nat.zero_le _, fun j t h => absurd h (Nat.not_lt_zero _), fun t h => (by simp at h; rw [← h]; exact hx), (by simp [hx])⟩
   | true =>
     have e : (x :: L).takeWhile P = x :: L.takeWhile P := by simp [hx]
     rw [e]
     refine ⟨by simp; exact h1, fun j t hj ht => ?_, fun t ht => ?_, by simp [hx, h4]⟩
     · cases j with
       | zero => simp at ht; rw [← ht]; exact hx
       | succ j => exact h2 j t (by simpa using hj) (by simpa using ht)
     · exact h3 t (by simpa using ht)
theorem rise_all {T : List (List Nat)} {n : Nat} (h : riseP T n) {a b : Nat} (hab : a < b) (hb : b < n) : ordT (T.getD a []) (T.getD b []) < 0 := by
 have := rise_lt h (b - a - 1) a (by omega)
 rwa [show a + (b - a - 1 + 1) = b by omega] at this
theorem ord_le_lt {a b c : List Nat} (h : ordT a b < 0) (k : ¬ 0 < ordT b c) : ordT a c < 0 := by
 by_cases q : ordT b c = 0
 · rw [← ordT_zero q]; exact h
 · exact ordT_trans h (by omega)
theorem ord_gt_le {a b c : List Nat} (h : 0 < ordT a c) (k : ordT a b < 0) : 0 < ordT b c := by
 have h1 : ordT c a < 0 := by rw [ordT_swap]; omega
 have h2 := ordT_trans h1 k
 rw [ordT_swap] at h2
 omega
structure Place (T : List (List Nat)) (n : Nat) (key : List Nat) (at_ : Nat) (is : Bool) : Prop where
 le : at_ ≤ n
 lt : ∀ j, j < at_ → ordT (T.getD j []) key < 0
 ge : ∀ j, at_ ≤ j → j < n → ¬ ordT (T.getD j []) key < 0
 is : is = true ↔ at_ < n ∧ T.getD at_ [] = key
theorem pc_key (ss : List Sl) (p i : Nat) : (pcX (ss.map keyCi) p i).map Ci.val = (((bodies ss).drop (i * p)).take p).map (fun t => ((false, 0, t) : Cv)) := by
 unfold pcX bodies
 rw [← List.map_drop, ← List.map_take, List.map_map, ← List.map_drop, ← List.map_take, List.map_map]
 rfl
theorem seek_built {p : Nat} {ss : List Sl} {key : List Nat} (hp : 1 ≤ p) (hu : ∀ s ∈ ss, U8 s.body) (hr : riseP (bodies ss) ss.length) (h0 : ∀ i, i < cntC p (ss.map keyCi) → (bstC 8 p (ss.map keyCi) i).2 = 0) :
   ∃ at_ is, seekF (fileC 8 true p (ss.map keyCi)) key = ((at_, is), 0) ∧ Place (bodies ss) ss.length key at_ is := by
 obtain ⟨xs, hxs⟩ : ∃ xs, xs = ss.map keyCi := ⟨_, rfl⟩
 obtain ⟨n, hn⟩ : ∃ n, n = ss.length := ⟨_, rfl⟩
 obtain ⟨T, hT⟩ : ∃ T, T = bodies ss := ⟨_, rfl⟩
 have hxl : xs.length = n := by rw [hxs, hn, List.length_map]
 have hTl : T.length = n := by rw [hT, hn, bodies_len]
 have hpk := pc_key ss p
 have hnum : R64s (xs.map Ci.num) := fun v hv => by
   rw [hxs] at hv
   obtain ⟨x, hx, rfl⟩ := List.mem_map.1 hv
   obtain ⟨s, _, rfl⟩ := List.mem_map.1 hx
   show R64 0
   unfold R64
   decide
 have hu8 : ∀ x ∈ xs, U8 x.txt := fun x hx => by
   rw [hxs] at hx
   obtain ⟨s, hs, rfl⟩ := List.mem_map.1 hx
   exact hu s hs
 have htx : xs.map Ci.txt = T := by
   rw [hxs, hT, List.map_map]
   rfl
 rw [← hxs, ← hT] at hpk
 rw [← hxs] at h0
 rw [← hxs, ← hn, ← hT]
 rw [← hn, ← hT] at hr
 clear hxs hT
 obtain ⟨q, hq⟩ : ∃ q, q = cntC p xs := ⟨_, rfl⟩
 have hqd : q = (n + p - 1) / p := by rw [hq]; unfold cntC; rw [hxl]
 have hq1 : ∀ i, i < q → i * p < n := fun i hi => chunk_lt hp hqd hi
 have hq2 : n ≤ q * p := chunk_end hp hqd
 have hfs : ∀ i, i < q → (fileC 8 true p xs).fs.getD i [] = T.getD (i * p) [] := fun i hi => by
   rw [fileC_fs (by rw [← hq]; exact hi)]
   unfold frsC
   rw [htx]
 have hfl : (fileC 8 true p xs).fs.length = q := by rw [hq]; show ((List.range _).map _).length = _; rw [List.length_map, List.length_range]
 have hfi : ∀ i t, (fileC 8 true p xs).fs[i]? = some t → t = T.getD (i * p) [] ∧ i < q := fun i t ht => by
   have hl : i < q := by rw [← hfl]; exact (List.getElem?_eq_some_iff.1 ht).1
   have := hfs i hl
   rw [List.getD_eq_getElem?_getD, ht] at this
   exact ⟨this, hl⟩
 obtain ⟨b, hb⟩ : ∃ b, b = frstN (fileC 8 true p xs).fs key := ⟨_, rfl⟩
 obtain ⟨s1, s2, s3, _⟩ := tw_spec (P := fun s => !decide (0 < ordT s key)) (fileC 8 true p xs).fs
 have hb' : (((fileC 8 true p xs).fs).takeWhile fun s => !decide (0 < ordT s key)).length = b := by rw [hb]; rfl
 rw [hb', hfl] at s1
 rw [hb'] at s2 s3
 have sA : ∀ i, i < b → ¬ 0 < ordT (T.getD (i * p) []) key := fun i hi => by
   have hl : i < (fileC 8 true p xs).fs.length := by rw [hfl]; omega
   have h1 := s2 i _ hi (List.getElem?_eq_getElem hl)
   have h2 := (hfi i _ (List.getElem?_eq_getElem hl)).1
   rw [h2] at h1
   simpa using h1
 have sB : b < q → 0 < ordT (T.getD (b * p) []) key := fun hlt => by
   have hl : b < (fileC 8 true p xs).fs.length := by rw [hfl]; omega
   have h1 := s3 _ (List.getElem?_eq_getElem hl)
   have h2 := (hfi b _ (List.getElem?_eq_getElem hl)).1
   rw [h2] at h1
   simpa using h1
 -- all from the b-th block on stand behind the key
 have sC : ∀ j, b * p ≤ j → j < n → 0 < ordT (T.getD j []) key := fun j hj hjn => by
   have hbq : b < q := by
     rcases Nat.lt_or_ge b q with z | z
     · exact z
     · have := Nat.mul_le_mul_right p z
       omega
   have h1 := sB hbq
   rcases Nat.lt_or_eq_of_le hj with z | z
   · exact ord_gt_le h1 (rise_all hr z hjn)
   · rw [← z]; exact h1
 unfold seekF
 rw [show (fileC 8 true p xs).ks = true from rfl, if_neg (by decide), ← hb]
 by_cases hb0 : b = 0
 · rw [if_pos hb0]
   refine ⟨0, false, rfl, Nat.zero_le _, fun j hj => absurd hj (Nat.not_lt_zero _), fun j _ hj => ?_, ⟨fun h => (by cases h), fun h => ?_⟩⟩
   · have := sC j (by rw [hb0]; omega) hj
     omega
   · have := sC 0 (by rw [hb0]; omega) h.1
     rw [h.2, ordT_self] at this
     omega
 · rw [if_neg hb0]
   obtain ⟨i, rfl⟩ : ∃ i, b = i + 1 := ⟨b - 1, by omega⟩
   rw [Nat.add_sub_cancel]
   have hiq : i < q := by omega
   rw [decF_file hnum hu8 (by rw [← hq]; exact hiq) (h0 i (by rw [← hq]; exact hiq)), if_neg (fun z => z rfl), hpk i]
   show ∃ at_ is, ((i * p + ((((T.drop (i * p)).take p).map (fun t => ((false, 0, t) : Cv))).takeWhile (aheadV key)).length, atIs key ((((T.drop (i * p)).take p).map (fun t => ((false, 0, t) : Cv))).dropWhile (aheadV key))), (0 : Int)) = ((at_, is), 0) ∧ _
   refine ⟨_, _, rfl, ?_⟩
   obtain ⟨L, hL⟩ : ∃ L, L = (T.drop (i * p)).take p := ⟨_, rfl⟩
   rw [← hL]
   have hLl : L.length = min p (n - i * p) := by rw [hL, List.length_take, List.length_drop, hTl]
   have hLg : ∀ j t, L[j]? = some t → t = T.getD (i * p + j) [] ∧ i * p + j < n ∧ j < p := fun j t ht => by
     have hl := (List.getElem?_eq_some_iff.1 ht).1
     rw [hL, List.getElem?_take] at ht
     split at ht
     · rw [List.getElem?_drop] at ht
       refine ⟨?_, by rw [hLl] at hl; omega, by omega⟩
       rw [List.getD_eq_getElem?_getD, ht]
       rfl
     · cases ht
   have e1 : (L.map (fun t => ((false, 0, t) : Cv))).takeWhile (aheadV key) = (L.takeWhile (fun t => decide (ordT t key < 0))).map (fun t => ((false, 0, t) : Cv)) := by
     rw [List.takeWhile_map]
     rfl
   have e2 : (L.map (fun t => ((false, 0, t) : Cv))).dropWhile (aheadV key) = (L.dropWhile (fun t => decide (ordT t key < 0))).map (fun t => ((false, 0, t) : Cv)) := by
     rw [List.dropWhile_map]
     rfl
   rw [e1, e2, List.length_map]
   obtain ⟨t1, t2, t3, t4⟩ := tw_spec (P := fun t => decide (ordT t key < 0)) L
   obtain ⟨c, hc⟩ : ∃ c, c = (L.takeWhile (fun t => decide (ordT t key < 0))).length := ⟨_, rfl⟩
   rw [← hc] at t1 t2 t3 t4 ⊢
   rw [t4]
   have hip := hq1 i hiq
   have hi1 : (i + 1) * p = i * p + p := by rw [Nat.add_mul, Nat.one_mul]
   rw [hi1] at sC
   have hle : i * p + c ≤ n := by rw [hLl] at t1; omega
   have hA : ∀ j, j < i * p + c → ordT (T.getD j []) key < 0 := fun j hj => by
     rcases Nat.lt_or_ge j (i * p) with z | z
     · exact ord_le_lt (rise_all hr z hip) (sA i (by omega))
     · have hl : j - i * p < L.length := by omega
       have h1 := t2 (j - i * p) _ (by omega) (List.getElem?_eq_getElem hl)
       have h2 := (hLg _ _ (List.getElem?_eq_getElem hl)).1
       rw [h2, show i * p + (j - i * p) = j by omega] at h1
       exact of_decide_eq_true h1
   have hB : ∀ j, i * p + c ≤ j → j < n → ¬ ordT (T.getD j []) key < 0 := fun j hj hjn => by
     rcases Nat.lt_or_ge j (i * p + p) with z | z
     · have hl : c < L.length := by rw [hLl]; omega
       have h1 := t3 _ (List.getElem?_eq_getElem hl)
       have h2 := (hLg _ _ (List.getElem?_eq_getElem hl)).1
       rw [h2] at h1
       have h3 := of_decide_eq_false h1
       rcases Nat.lt_or_eq_of_le hj with y | y
       · intro w
         exact h3 (ordT_trans (rise_all hr y hjn) w)
       · rw [← y]; exact h3
     · have := sC j z hjn
       omega
   refine ⟨hle, hA, hB, ?_⟩
   by_cases hcl : c < L.length
   · have h2 := hLg _ _ (List.getElem?_eq_getElem hcl)
     rw [List.drop_eq_getElem_cons hcl, List.map_cons]
     show decide (L[c] = key) = true ↔ _
     rw [decide_eq_true_iff, h2.1]
     exact ⟨fun z => ⟨h2.2.1, z⟩, fun z => z.2⟩
   · rw [List.drop_eq_nil_of_le (by omega)]
     show false = true ↔ _
     refine ⟨fun z => (by cases z), fun z => ?_⟩
     have h3 : i * p + p ≤ i * p + c := by rw [hLl] at hcl; omega
     have := sC (i * p + c) h3 z.1
     rw [z.2, ordT_self] at this
     omega
theorem OpnPost.some {bs : List Nat} {f : FlM} {w : World} {e : Ending} {w' : World} (h : OpnPost bs w e w') (ho : openR bs = some f) : ∃ g, e = .returned (.tuple #[.pointer (some ⟨g, 0, none⟩), .int .i64 0]) ∧ FilOwn w' w.heap.size g f ∧ Ext w w' := by
 obtain ⟨he, h⟩ := h
 rcases h with ⟨h1, _⟩ | ⟨f', g, h1, h2, h3⟩
 · rw [ho] at h1; cases h1
 · rw [ho] at h1
   injection h1 with h1
   subst h1
   exact ⟨g, h2, h3, he⟩
set_option maxHeartbeats 6400000 in
theorem alive15 (w : World) : Calls Tryz.prog 16 #[] w fun e w' => e = .returned (.bool true) ∧ Ext w w' := by
 have kc := conv_const
 have hE : ∀ (W : World) o, Ext W (W.alloc o) := fun W o => (Ext.refl W).alloc o
 have hX := RdX.lit w [e7, e7, e9] (fun x hx => by
   simp at hx
   rcases hx with rfl | rfl
   · exact e7_in _
   · exact ⟨Rd.nil .., (by intro x hx; cases hx), by decide, by decide, by decide⟩)
 have hB := pbuild_any 1 2 (some ⟨w.heap.size, 0, none⟩) 3 3 [e7, e7, e9] _ hX (fun x hx => by
   simp at hx
   rcases hx with rfl | rfl
   · exact ⟨by decide, by decide⟩
   · exact ⟨by decide, by decide⟩) (by decide) (by decide)
 unfold PEncPost at hB
 rw [ex15_b] at hB
 simp only [ex15_bl] at hB
 have HB := Lib.hid hB
 clear hX hB
 go_enter Tryz.func16, Tryz.ntmps16
 go_wp2_with fail
 refine HB.out.mono ?_
 rintro e w1 ⟨A1, c1, rfl, ho1, he1⟩
 have hE1 : Ext w w1 := (hE _ _).trans he1
 have hcp := ho1.cap
 rw [ex15_bl] at hcp
 have hO := Lib.hid (openC_any A1 45 c1 B15 w1 (ho1.rd' ex15_bl) ex15_bu ho1.shape (by decide) hcp.1 hcp.2)
 clear HB he1
 go_wp2_with fail
 refine hO.out.mono ?_
 intro e w2 hp
 obtain ⟨g, rfl, hf, he2⟩ := hp.some ex15_bo
 have HF := Lib.hid hf.rd
 have hE2 := hE1.trans he2
 have hgw := hf.lo
 clear hO ho1 hcp he2 hE1 hp hf
 go_wp2_with fail
 have HKR := Lib.hid (show keysR 2 [⟨some ⟨w2.heap.size, 0, none⟩, 1, [97]⟩, ⟨some ⟨w2.heap.size + 1, 0, none⟩, 1, [99]⟩, ⟨some ⟨w2.heap.size + 1 + 1, 0, none⟩, 1, [101]⟩] = (K15, 0) from (keysR_val (show bodies [⟨some ⟨w2.heap.size, 0, none⟩, 1, [97]⟩, ⟨some ⟨w2.heap.size + 1, 0, none⟩, 1, [99]⟩, ⟨some ⟨w2.heap.size + 1 + 1, 0, none⟩, 1, [101]⟩] = bodies [⟨none, 1, [97]⟩, ⟨none, 1, [99]⟩, ⟨none, 1, [101]⟩] from rfl) 2).trans ex15_k)
 refine (pkeys_any 2 _ 3 3 [⟨some ⟨w2.heap.size, 0, none⟩, 1, [97]⟩, ⟨some ⟨w2.heap.size + 1, 0, none⟩, 1, [99]⟩, ⟨some ⟨w2.heap.size + 1 + 1, 0, none⟩, 1, [101]⟩] _ ?_ (by decide) ?_).mono ?_
 · refine ⟨RdL.of_block (e := 22) (heap_at (by simp)) rfl, ?_⟩
   intro s hs
   simp only [List.mem_cons, List.not_mem_nil, or_false] at hs
   rcases hs with rfl | rfl | rfl
   · exact TxI.of ((((Rd.mark_at .u8 5 (1, 2) _ [97] (by simp) rfl).ext (hE _ _)).ext (hE _ _)).ext (hE _ _)) (by decide) (by decide) (by decide) (by decide)
   · exact TxI.of (((Rd.mark_at .u8 5 (1, 2) _ [99] (by simp) rfl).ext (hE _ _)).ext (hE _ _)) (by decide) (by decide) (by decide) (by decide)
   · exact TxI.of ((Rd.mark_at .u8 5 (1, 2) _ [101] (by simp) rfl).ext (hE _ _)) (by decide) (by decide) (by decide) (by decide)
 · intro s hs
   simp only [List.mem_cons, List.not_mem_nil, or_false] at hs
   rcases hs with rfl | rfl | rfl <;> (show (1 : Nat) ≤ 140737488351232; decide)
 intro e w3 hp
 unfold PEncPost at hp
 rw [HKR.out] at hp
 obtain ⟨A3, c3, rfl, ho3, he3⟩ := hp
 have hE23 : Ext w2 w3 := ((((hE _ _).trans (hE _ _)).trans (hE _ _)).trans (hE _ _)).trans he3
 simp only [ex15_kl]
 have HF3 := Lib.hid (HF.out.ext hE23)
 have hE3 := hE2.trans hE23
 have hcp := ho3.cap
 rw [ex15_kl] at hcp
 have hO := Lib.hid (openC_any A3 52 c3 K15 w3 (ho3.rd' ex15_kl) ex15_ku ho3.shape (by decide) hcp.1 hcp.2)
 clear HKR he3 HF hE2 hE23
 go_wp2_with fail
 refine hO.out.mono ?_
 intro e w4 hp
 obtain ⟨g2, rfl, hf2, he4⟩ := hp.some ex15_ko
 have HF4 := Lib.hid (HF3.out.ext he4)
 have HK4 := Lib.hid hf2.rd
 have hE4 := hE3.trans he4
 clear hO ho3 hcp he4 hE3 hp hf2 HF3
 obtain ⟨Ab, cb, Af, cf, bs, fs, hFb, _⟩ := HF4.out.ex
 obtain ⟨Ab2, cb2, Af2, cf2, bs2, fs2, hFk, _⟩ := HK4.out.ex
 have HFb := Lib.hid hFb
 have HFk := Lib.hid hFk
 have r1 := Lib.hid (rowsC_any g _ _ _ _ Ab _ cb _ w4 hFb)
 have r2 := Lib.hid (blocksC_any g _ _ _ _ Ab _ cb _ w4 hFb)
 have r3 := Lib.hid (kindC_any g _ _ _ _ Ab _ cb _ w4 hFb)
 have r4 := Lib.hid (keysC_any g _ _ _ _ Ab _ cb _ w4 hFb)
 have r5 := Lib.hid (keysC_any g2 _ _ _ _ Ab2 _ cb2 _ w4 hFk)
 clear hFb hFk
 go_wp2_with (first
   | (refine r1.out.mono ?_; rintro e w5 ⟨rfl, rfl⟩)
   | (refine r2.out.mono ?_; rintro e w5 ⟨rfl, rfl⟩)
   | (refine r3.out.mono ?_; rintro e w5 ⟨rfl, rfl⟩)
   | (refine r4.out.mono ?_; rintro e w5 ⟨rfl, rfl⟩)
   | (refine r5.out.mono ?_; rintro e w5 ⟨rfl, rfl⟩)
   | fail)
 refine (readC_any g fB15 1 2 w4 HF4.out (openR_ok ex15_bu ex15_bo) (by decide) (by decide) (by decide)).mono ?_
 intro e w5 hp
 unfold GcPost at hp
 rw [ex15_r] at hp
 obtain ⟨rs, A5, c5, rfl, hv5, ho5, ht5, he5⟩ := hp
 have hl5 : rs.length = 2 := by have := congrArg List.length hv5; simpa using this
 have hrx := ans_rdX hv5 hl5 (fun v hv => by
   simp at hv
   rcases hv with rfl | rfl
   all_goals exact ⟨(by intro x hx; cases hx), by decide, by decide, by decide⟩) ho5 (fun f hf => (ht5.1 f hf).rd)
 obtain ⟨b5, o5, hA5, hb5, hcl⟩ := hrx.at (by decide)
 subst hA5
 have hf1 : rs[1]? = some rs[1] := List.getElem?_eq_getElem (by omega)
 have hv1 : rs[1].val = (false, 9, []) := by
   have h1 : (rs.map Ci.val)[1]? = some (false, 9, []) := by rw [hv5]; rfl
   rw [List.getElem?_map, hf1] at h1
   simpa using h1
 have k1 := (hcl 1 _ hf1).2
 have e1 : rs[1].num = 9 := congrArg (fun v : Cv => v.2.1) hv1
 rw [e1] at k1
 simp only [Nat.one_mul] at k1
 have Hk1 := Lib.hid k1
 have Hb5 := Lib.hid hb5
 have HK5 := Lib.hid (HK4.out.ext he5)
 have hE5 := hE4.trans he5
 simp only [List.length_cons, List.length_nil, Nat.zero_add, Nat.reduceAdd]
 clear hv5 ho5 ht5 hl5 hrx hcl hf1 hv1 k1 e1 he5 hE4 hb5 r1 r2 r3 r4 r5 HFb HFk HF4 HK4
 go_wp2_with fail
 refine (seekC_any g2 fK15 _ 1 1 [99] _ (HK5.out.ext (hE _ _)) (openR_ok ex15_ku ex15_ko) (Rd.mark_at .u8 5 _ w5 [99] rfl rfl) (by decide)).mono ?_
 intro e w6 hp
 unfold SeekPost at hp
 rw [ex15_s1] at hp
 obtain ⟨rfl, he6⟩ := hp
 have hE56 : Ext w5 w6 := (hE _ _).trans he6
 have HK6 := Lib.hid (HK5.out.ext hE56)
 simp only
 clear he6 HK5
 go_wp2_with fail
 refine (seekC_any g2 fK15 _ 1 1 [100] _ (HK6.out.ext (hE _ _)) (openR_ok ex15_ku ex15_ko) (Rd.mark_at .u8 5 _ w6 [100] rfl rfl) (by decide)).mono ?_
 intro e w7 hp
 unfold SeekPost at hp
 rw [ex15_s2] at hp
 obtain ⟨rfl, he7⟩ := hp
 have hE57 : Ext w5 w7 := hE56.trans ((hE _ _).trans he7)
 have k7 : w7.cell? ⟨b5, o5 + 3 + 1, none⟩ = some (.int .i64 9) := (hE57.cells b5 _ Hb5.out).trans Hk1.out
 have hEf := hE5.trans hE57
 simp only
 clear he7 HK6 hE56 hE57 hE5
 go_wp2_with fail
 go_ret
 exact ⟨rfl, hEf⟩
theorem FilR.c {w : World} {g : Nat} {f : FlM} (h : FilR w g f) : ∃ Ab cb vf, ∀ q, FilC (w.drewN q) g (f.k : Int) f.ks (f.rows : Int) (f.per : Int) (.slice Ab f.bs.length cb) vf := by
 obtain ⟨Ab, cb, Af, cf, bs, fs, hF, _⟩ := h.ex
 exact ⟨Ab, cb, _, fun q => hF.grownR (Ext.toGrown ((Ext.refl w).drewN q) none) (by simp)⟩
theorem keys_bad {per : Int} {ss : List Sl} (h0 : (keysR per ss).2 ≠ 0) : (keysR per ss).1 = [] := by
 unfold keysR at h0 ⊢
 split
 · rfl
 · rename_i q
   rw [if_neg q] at h0
   exact bld_bad h0
theorem fs_key {p : Nat} {ss : List Sl} {i : Nat} (hi : i < cntC p (ss.map keyCi)) : (fileC 8 true p (ss.map keyCi)).fs.getD i [] = (bodies ss).getD (i * p) [] := by
 rw [fileC_fs hi]
 unfold frsC
 rw [List.map_map]
 rfl
theorem open_keys {per : Int} {ss : List Sl} (hu : ∀ s ∈ ss, U8 s.body) (h : (keysR per ss).2 = 0) :
   ∃ p : Nat, per = (p : Int) ∧ 1 ≤ p ∧ p ≤ 4096 ∧ ss.length ≤ 4096 ∧ riseP (bodies ss) ss.length ∧ openR (keysR per ss).1 = some (fileC 8 true p (ss.map keyCi)) ∧ U8 (keysR per ss).1 ∧ (keysR per ss).1.length ≤ 1048576 ∧ (∀ i, i < cntC p (ss.map keyCi) → (bstC 8 p (ss.map keyCi) i).2 = 0) ∧ FlB (fileC 8 true p (ss.map keyCi)) ∧ writeR (fileC 8 true p (ss.map keyCi)) = ((keysR per ss).1, 0) := by
 unfold keysR at h ⊢
 split at h
 · exact absurd h (by decide)
 rename_i hg
 have hp : perK per = true := by
   cases hp : perK per with
   | true => rfl
   | false => exact absurd (.inl hp) hg
 have hr : riseP (bodies ss) ss.length := Decidable.not_not.1 (fun q => hg (.inr q))
 have hp2 : 1 ≤ per ∧ per ≤ 4096 := of_decide_eq_true hp
 rw [if_neg hg]
 obtain ⟨p, rfl⟩ := Int.eq_ofNat_of_zero_le (show 0 ≤ per by omega)
 rw [Int.toNat_natCast] at h ⊢
 obtain ⟨h1, h2, h3⟩ := bld_good h
 have hxl : (ss.map keyCi).length = ss.length := List.length_map ..
 have hx : R64s ((ss.map keyCi).map Ci.num) := fun v hv => by
   obtain ⟨x, hx, rfl⟩ := List.mem_map.1 hv
   obtain ⟨s, _, rfl⟩ := List.mem_map.1 hx
   show R64 0
   unfold R64
   decide
 have hu8 : ∀ x ∈ ss.map keyCi, U8 x.txt := fun x hx => by
   obtain ⟨s, hs, rfl⟩ := List.mem_map.1 hx
   exact hu s hs
 have hok : FlB (fileC 8 true p (ss.map keyCi)) := fileC_ok (by decide) (by omega) h1 hx hu8 h2
 have hw : writeR (fileC 8 true p (ss.map keyCi)) = ((bldR 8 true p (ss.map keyCi)).1, 0) := by rw [← h3, ← h]
 have hfl : (fileC 8 true p (ss.map keyCi)).fs.length = cntC p (ss.map keyCi) := by show ((List.range _).map _).length = _; rw [List.length_map, List.length_range]
 have hrs : riseP (fileC 8 true p (ss.map keyCi)).fs (fileC 8 true p (ss.map keyCi)).fs.length := fun i hi => by
   rw [hfl] at hi
   rcases Nat.eq_zero_or_pos i with q | q
   · exact .inl q
   · right
     rw [fs_key hi, fs_key (show i - 1 < _ by omega)]
     have hlt := chunk_lt (n := ss.length) (by omega : 1 ≤ p) (by unfold cntC; rw [hxl]) hi
     exact rise_all hr (Nat.mul_lt_mul_of_pos_right (by omega) (by omega)) hlt
 have ho := open_file hok (by show ((!true || decide (((8 : Nat) : Int) = 8)) && kindK 8 && perK (p : Int)) = true; rw [hp]; decide) (by show ((List.range _).map _).length = _; rw [List.length_map, List.length_range]; rfl)
   hrs (fun q => Bool.noConfusion (show true = false from q)) hw
 exact ⟨p, rfl, by omega, by omega, by rw [← hxl]; exact h1, hr, ho.1, ho.2.1, ho.2.2, h2, hok, hw⟩
theorem bdec_torn {k : Int} {bs : List Nat} (hk : 1 ≤ k ∧ k ≤ 8) (hl : bs.length ≤ 65000) (hs : ¬ sld bs) : bdecR k bs = ([], 6) := by
 unfold bdecR
 rw [if_neg (by unfold kindK; rw [decide_eq_true hk]; decide), if_neg (by omega), if_pos hs]
def Near (a b : List Nat) : Prop := ∃ p q : Nat, p < 4294967296 ∧ p * 2 ^ q < 2 ^ (8 * a.length) ∧ b = tn a (p * 2 ^ q)
theorem Near.len {a b : List Nat} (h : Near a b) : b.length = a.length := by
 obtain ⟨p, q, _, _, rfl⟩ := h
 exact tn_len _ _
theorem near_refl {a : List Nat} (h : U8 a) : Near a a := ⟨0, 0, by decide, by rw [Nat.zero_mul]; exact Nat.two_pow_pos _, by rw [Nat.zero_mul, tn_zero h]⟩
theorem near_trn {a : List Nat} (h : U8 a) (at_ : Int) {p : Nat} (hp : p < 4294967296) : Near a (trn a at_ p) := by
 unfold trn
 split
 · rename_i hc
   exact ⟨p, at_.toNat, hp, hc.2.2, rfl⟩
 · exact near_refl h
theorem Near.take {a b : List Nat} (h : Near a b) (hu : U8 a) {n : Nat} (hn : n ≤ a.length) : Near (a.take n) (b.take n) := by
 obtain ⟨p, q, hp, he, rfl⟩ := h
 have hl : (a.take n).length = n := by rw [List.length_take]; omega
 rw [tn_take hu hn]
 rcases turn_cut p q (8 * n) with h0 | ⟨h0, _⟩
 · refine ⟨p % 2 ^ (8 * n - q), q, Nat.lt_of_le_of_lt (Nat.mod_le _ _) hp, ?_, by rw [h0]⟩
   rw [← h0, hl]
   exact Nat.mod_lt _ (Nat.two_pow_pos _)
 · rw [h0, tn_zero (u8_take hu n)]
   exact near_refl (u8_take hu n)
theorem Near.drop {a b : List Nat} (h : Near a b) (hu : U8 a) {n : Nat} (hn : n ≤ a.length) : Near (a.drop n) (b.drop n) := by
 obtain ⟨p, q, hp, he, rfl⟩ := h
 have hl : (a.drop n).length = a.length - n := List.length_drop ..
 have hlt : p * 2 ^ q / 2 ^ (8 * n) < 2 ^ (8 * (a.drop n).length) := by
   rw [hl]
   refine Nat.div_lt_of_lt_mul ?_
   rw [← Nat.pow_add, show 8 * n + 8 * (a.length - n) = 8 * a.length from by omega]
   exact he
 rw [tn_drop hu hn]
 have hr := run_rest p q (8 * n)
 by_cases hq : q ≤ 8 * n
 · rw [if_pos hq] at hr
   exact ⟨p / 2 ^ (8 * n - q), 0, Nat.lt_of_le_of_lt (Nat.div_le_self _ _) hp, by rw [Nat.pow_zero, Nat.mul_one, ← hr]; exact hlt, by rw [Nat.pow_zero, Nat.mul_one, hr]⟩
 · rw [if_neg hq] at hr
   exact ⟨p, q - 8 * n, hp, by rw [← hr]; exact hlt, by rw [hr]⟩
theorem Near.sealed {a b : List Nat} (h : Near a b) (hu : U8 a) (hs : sld a) (hb : sld b) : b = a := by
 obtain ⟨p, q, hp, he, rfl⟩ := h
 have := (sld_tn hu hs hp he).1 hb
 subst this
 rw [Nat.zero_mul, tn_zero hu]
theorem Near.frame {k : Nat} {body b : List Nat} (h : Near (fr k body) b) (hu : U8 body) (hb : body.length ≤ 65536) (h0 : (fgetN b 0).2.2.2 = 0) : b = fr k body := by
 obtain ⟨p, q, hp, he, rfl⟩ := h
 have := fget_tn hu hb hp (by rw [fr_len] at he; exact he) h0
 subst this
 rw [Nat.zero_mul, tn_zero (fr_u8 hu k)]
theorem fgetN_off (Z G : List Nat) : (fgetN (Z ++ G) Z.length).2.2.2 = (fgetN G 0).2.2.2 := by
 have hl : (Z ++ G).length = Z.length + G.length := List.length_append
 have hc : ∀ j m, cut (Z ++ G) (Z.length + j) m = cut G j m := fun j m => by unfold cut; rw [← List.drop_drop, List.drop_left]
 have hg : (Z ++ G).getD Z.length 0 = G.getD 0 0 := by rw [List.getD_eq_getElem?_getD, List.getD_eq_getElem?_getD, List.getElem?_append_right (Nat.le_refl _), Nat.sub_self]
 have hc0 : cut (Z ++ G) Z.length 9 = cut G 0 9 := hc 0 9
 have hc1 : cut (Z ++ G) (Z.length + 1) 4 = cut G 1 4 := hc 1 4
 unfold fgetN
 rw [hc0, hc1, hg, hl]
 simp only [Nat.zero_add]
 obtain ⟨m, hm⟩ : ∃ m, m = pk 8 (cut G 1 4) := ⟨_, rfl⟩
 rw [← hm, hc 9 (m + 4)]
 by_cases h1 : G.length < 9
 · rw [if_pos (show Z.length + G.length < Z.length + 9 by omega), if_pos h1]
 rw [if_neg (show ¬ Z.length + G.length < Z.length + 9 by omega), if_neg h1]
 by_cases h2 : ¬ sld (cut G 0 9)
 · rw [if_pos h2, if_pos h2]
 rw [if_neg h2, if_neg h2]
 by_cases h3 : G.getD 0 0 = 0
 · rw [if_pos h3, if_pos h3]
 rw [if_neg h3, if_neg h3]
 by_cases h4 : 65536 < m
 · rw [if_pos h4, if_pos h4]
 rw [if_neg h4, if_neg h4]
 by_cases h5 : G.length < 13 + m
 · rw [if_pos (show Z.length + G.length < Z.length + 13 + m by omega), if_pos h5]
 rw [if_neg (show ¬ Z.length + G.length < Z.length + 13 + m by omega), if_neg h5]
 by_cases h6 : ¬ sld (cut G 9 (m + 4))
 · rw [if_pos h6, if_pos h6]
 rw [if_neg h6, if_neg h6]
theorem spl_file {Z F : List Nat} (hFu : U8 F) (hF : ¬ 65536 < F.length) (hL : ¬ 1048576 < (Z ++ (fr 1 F ++ place Z.length)).length) : splR (Z ++ (fr 1 F ++ place Z.length)) = some (Z, F) := by
 have hpl : (place Z.length).length = 8 := by unfold place; rw [sl_len, upk_len]
 have hfl := fr_len 1 F
 have hln : (Z ++ (fr 1 F ++ place Z.length)).length = Z.length + (F.length + 13) + 8 := by rw [List.length_append, List.length_append, hpl, hfl]; omega
 have hd : (Z ++ (fr 1 F ++ place Z.length)).drop ((Z ++ (fr 1 F ++ place Z.length)).length - 8) = place Z.length := by
   rw [hln, ← List.append_assoc, List.drop_append_of_le_length (by rw [List.length_append, hfl]; omega), List.drop_of_length_le (by rw [List.length_append, hfl]; omega)]
   rfl
 have ht : (Z ++ (fr 1 F ++ place Z.length)).take ((Z ++ (fr 1 F ++ place Z.length)).length - 8) = Z ++ fr 1 F := by
   rw [hln, ← List.append_assoc, List.take_append_of_le_length (by rw [List.length_append, hfl]; omega), List.take_of_length_le (by rw [List.length_append, hfl]; omega)]
 have hpc : plcR (Z ++ (fr 1 F ++ place Z.length)) = Z.length := by
   unfold plcR
   rw [hd]
   have e : (place Z.length).take 4 = upk 8 4 Z.length := by
     unfold place sl
     rw [List.take_append_of_le_length (by rw [upk_len]; exact Nat.le_refl _), List.take_of_length_le (by rw [upk_len]; exact Nat.le_refl _)]
   rw [e, pk_upk]
   exact Nat.mod_eq_of_lt (by omega)
 have hsl : sld (place Z.length) := sld_seal (U8_wd.2 (upk_wd _ _ _))
 have hcut : cut (Z ++ fr 1 F) Z.length (F.length + 13) = fr 1 F := by
   unfold cut
   rw [List.drop_left, List.take_of_length_le (by rw [hfl]; exact Nat.le_refl _)]
 have hft : ftrR (Z ++ (fr 1 F ++ place Z.length)) = (1, F, Z.length + 13 + F.length, 0) := by
   unfold ftrR
   rw [hpc, ht]
   rw [fget_in (by rw [List.length_append]; omega)]
   exact fgetN_fr hFu (by decide) (by decide) (by omega) (by rw [List.length_append, hfl]; omega) hcut
 unfold splR
 rw [hft, hpc, hd, if_neg (by rintro (q | q | q); (rw [hln] at q; omega); exact hL q; exact q hsl), if_neg (by rw [hln]; rintro (q | q | q); exact q rfl; (simp only at q; omega); exact q rfl), List.take_left]
theorem spl_near {Z F B : List Nat} {s : List Nat × List Nat} (hZu : U8 Z) (hFu : U8 F) (hF : ¬ 65536 < F.length) (hL : ¬ 1048576 < (Z ++ (fr 1 F ++ place Z.length)).length) (hn : Near (Z ++ (fr 1 F ++ place Z.length)) B) (h : splR B = some s) : ∃ Z', Near Z Z' ∧ s = (Z', F) := by
 have hpl : (place Z.length).length = 8 := by unfold place; rw [sl_len, upk_len]
 have hfl := fr_len 1 F
 have hfu := fr_u8 hFu 1
 have hpu : U8 (place Z.length) := sl_u8 (U8_wd.2 (upk_wd _ _ _))
 have hsl : sld (place Z.length) := sld_seal (U8_wd.2 (upk_wd _ _ _))
 have hln : (Z ++ (fr 1 F ++ place Z.length)).length = Z.length + (F.length + 13) + 8 := by rw [List.length_append, List.length_append, hpl, hfl]; omega
 have hAu : U8 (Z ++ (fr 1 F ++ place Z.length)) := u8_append hZu (u8_append hfu hpu)
 have hBl := hn.len
 rw [hln] at hBl
 have hd : (Z ++ (fr 1 F ++ place Z.length)).drop (Z.length + (F.length + 13)) = place Z.length := by
   rw [← List.append_assoc, List.drop_append_of_le_length (by rw [List.length_append, hfl]; omega), List.drop_of_length_le (by rw [List.length_append, hfl]; omega)]
   rfl
 have ht : (Z ++ (fr 1 F ++ place Z.length)).take (Z.length + (F.length + 13)) = Z ++ fr 1 F := by
   rw [← List.append_assoc, List.take_append_of_le_length (by rw [List.length_append, hfl]; omega), List.take_of_length_le (by rw [List.length_append, hfl]; omega)]
 have hnd := hn.drop hAu (n := Z.length + (F.length + 13)) (by omega)
 have hnt := hn.take hAu (n := Z.length + (F.length + 13)) (by omega)
 rw [hd] at hnd
 rw [ht] at hnt
 have hYu : U8 (Z ++ fr 1 F) := u8_append hZu hfu
 have h8 : B.length - 8 = Z.length + (F.length + 13) := by omega
 have h' := h
 unfold splR at h'
 split at h'
 · cases h'
 rename_i h1
 split at h'
 · cases h'
 rename_i h2
 have hsB : sld (B.drop (B.length - 8)) := Decidable.not_not.1 (fun q => h1 (.inr (.inr q)))
 rw [h8] at hsB
 have hP := hnd.sealed hpu hsl hsB
 have hpc : plcR B = Z.length := by
   unfold plcR
   rw [h8, hP]
   have e : (place Z.length).take 4 = upk 8 4 Z.length := by
     unfold place sl
     rw [List.take_append_of_le_length (by rw [upk_len]; exact Nat.le_refl _), List.take_of_length_le (by rw [upk_len]; exact Nat.le_refl _)]
   rw [e, pk_upk]
   exact Nat.mod_eq_of_lt (by omega)
 have hft : (ftrR B).2.2.2 = 0 := Decidable.not_not.1 (fun q => h2 (.inl q))
 unfold ftrR at hft
 rw [hpc, h8] at hft
 obtain ⟨Y, hY⟩ : ∃ Y, Y = B.take (Z.length + (F.length + 13)) := ⟨_, rfl⟩
 rw [← hY] at hft hnt
 have hYl : Y.length = Z.length + (F.length + 13) := by rw [hnt.len, List.length_append, hfl]
 have hZn := hnt.take hYu (n := Z.length) (by rw [List.length_append]; omega)
 have hGn := hnt.drop hYu (n := Z.length) (by rw [List.length_append]; omega)
 rw [List.take_left] at hZn
 rw [List.drop_left] at hGn
 have hYe : Y = Y.take Z.length ++ Y.drop Z.length := (List.take_append_drop _ _).symm
 have hZl : (Y.take Z.length).length = Z.length := hZn.len
 rw [fget_in (by omega), hYe] at hft
 have hft2 : (fgetN (Y.take Z.length ++ Y.drop Z.length) (Y.take Z.length).length).2.2.2 = 0 := by rw [hZl]; exact hft
 rw [fgetN_off] at hft2
 have hG := hGn.frame hFu (by omega) hft2
 refine ⟨Y.take Z.length, hZn, ?_⟩
 have hB : B = Y.take Z.length ++ (fr 1 F ++ place (Y.take Z.length).length) := by
   have e0 : B = B.take (Z.length + (F.length + 13)) ++ B.drop (Z.length + (F.length + 13)) := (List.take_append_drop _ _).symm
   rw [hP, ← hY] at e0
   rw [e0, hZl, ← List.append_assoc]
   congr 1
   rw [← hG]
   exact hYe
 have hs := spl_file (Z := Y.take Z.length) hFu hF (by rw [← hB]; omega)
 rw [← hB, h] at hs
 exact Option.some.inj hs
structure LNear (s t : LSt) : Prop where
 r : t.r = s.r
 rf : t.rf = s.rf
 l : Near s.l t.l
 u : U8 s.l
 lf : t.lf = s.lf
 fs : t.fs = s.fs
 bl : t.bs.length = s.bs.length
 bs : ∀ i, i < s.bs.length → Near (s.bs.getD i []) (t.bs.getD i [])
theorem LNear.stB {s t : LSt} (h : LNear s t) : LNear (stB s) (stB t) := by
 obtain ⟨r, rf, l, lf, bs, fs⟩ := s
 obtain ⟨r2, rf2, l2, lf2, bs2, fs2⟩ := t
 obtain ⟨h1, h2, h3, h4, h5, h6, h7, h8⟩ := h
 simp only at h1 h2 h3 h4 h5 h6 h7 h8
 subst h1 h2 h5 h6
 have hll := h3.len
 unfold Go.Proofs.YthibbgmicmfkfaaGreat.stB
 try simp only
 obtain ⟨n, hn⟩ : ∃ n, n = (numR r2 rf2 65000).1 := ⟨_, rfl⟩
 rw [← hn]
 have hB : ∀ x y, Near x y → ∀ i, i < (bs ++ [x]).length → Near ((bs ++ [x]).getD i []) ((bs2 ++ [y]).getD i []) := fun x y hxy i hi => by
   rw [List.length_append, List.length_singleton] at hi
   rw [List.getD_eq_getElem?_getD, List.getD_eq_getElem?_getD]
   by_cases q : i < bs.length
   · rw [List.getElem?_append_left q, List.getElem?_append_left (by omega), ← List.getD_eq_getElem?_getD, ← List.getD_eq_getElem?_getD]
     exact h8 i q
   · have : i = bs.length := by omega
     subst this
     rw [List.getElem?_append_right (Nat.le_refl _), List.getElem?_append_right (by omega), h7, Nat.sub_self]
     exact hxy
 have hU0 : U8 ([] : List Nat) := fun v hv => by cases hv
 unfold bytR
 rw [hll]
 by_cases q : l.length < n
 · rw [if_pos q, if_pos q]
   exact ⟨rfl, rfl, h3, h4, rfl, rfl, by simp [h7], hB _ _ (near_refl hU0)⟩
 · rw [if_neg q, if_neg q]
   exact ⟨rfl, rfl, h3.drop h4 (by omega), u8_drop h4 n, rfl, rfl, by simp [h7], hB _ _ (h3.take h4 (by omega))⟩
theorem LNear.stF {s t : LSt} (h : LNear s t) : LNear (stF s) (stF t) := by
 obtain ⟨r, rf, l, lf, bs, fs⟩ := s
 obtain ⟨r2, rf2, l2, lf2, bs2, fs2⟩ := t
 obtain ⟨h1, h2, h3, h4, h5, h6, h7, h8⟩ := h
 simp only at h1 h2 h3 h4 h5 h6 h7 h8
 subst h1 h2 h5 h6
 exact ⟨rfl, rfl, h3, h4, rfl, rfl, h7, h8⟩
theorem LNear.it (ks : Bool) : ∀ (n : Nat) {s t : LSt}, LNear s t → LNear (itL ks n s) (itL ks n t)
 | 0, _, _, h => h
 | n + 1, s, t, h => by
   show LNear (itL ks n (stL ks s)) (itL ks n (stL ks t))
   refine LNear.it ks n ?_
   unfold stL
   cases ks with
   | false => exact h.stB
   | true => exact h.stB.stF
theorem told_near {F Z Z' : List Nat} {f f' : FlM} (hn : Near Z Z') (hu : U8 Z) (h : toldR F Z = some f) (h' : toldR F Z' = some f') :
   f'.k = f.k ∧ f'.ks = f.ks ∧ f'.rows = f.rows ∧ f'.per = f.per ∧ f'.fs = f.fs ∧ f'.bs.length = f.bs.length ∧ ∀ i, i < f.bs.length → Near (f.bs.getD i []) (f'.bs.getD i []) := by
 unfold toldR at h h'
 split at h
 · cases h
 rename_i h1
 rw [if_neg h1] at h'
 split at h
 · cases h
 rename_i h2
 rw [if_neg h2] at h'
 split at h
 · cases h
 split at h'
 · cases h'
 have hL := LNear.it (F.getD 1 0 == 1) (hdL F).2.2.1 (s := ⟨(hdL F).2.2.2.1, false, Z, false, [], []⟩) (t := ⟨(hdL F).2.2.2.1, false, Z', false, [], []⟩) ⟨rfl, rfl, hn, hu, rfl, rfl, rfl, fun i hi => absurd hi (Nat.not_lt_zero _)⟩
 have e := Option.some.inj h
 have e' := Option.some.inj h'
 subst e e'
 exact ⟨rfl, rfl, rfl, rfl, hL.fs, hL.bl, hL.bs⟩
structure NearF (f f' : FlM) : Prop where
 k : f'.k = f.k
 ks : f'.ks = f.ks
 rows : f'.rows = f.rows
 per : f'.per = f.per
 fs : f'.fs = f.fs
 nb : f'.bs.length = f.bs.length
 dec : ∀ i, decF f' i = decF f i ∨ decF f' i = ([], 6)
theorem decF_near {f f' : FlM} (hk : f'.k = f.k) (hr : f'.rows = f.rows) (hp : f'.per = f.per) (hnb : f'.bs.length = f.bs.length) (hb : ∀ i, i < f.bs.length → Near (f.bs.getD i []) (f'.bs.getD i []))
   (hub : ∀ t ∈ f.bs, U8 t) (hzb : ∀ t ∈ f.bs, t.length ≤ 65000) (hgood : ∀ i, i < f.bs.length → (decF f i).2 = 0) (i : Nat) : decF f' i = decF f i ∨ decF f' i = ([], 6) := by
 by_cases hi : i < f.bs.length
 · have hg := hgood i hi
   have hm : f.bs.getD i [] ∈ f.bs := by
     rw [List.getD_eq_getElem?_getD, List.getElem?_eq_getElem hi]
     exact List.getElem_mem hi
   have hu := hub _ hm
   have hz := hzb _ hm
   have hN := hb i hi
   unfold decF at hg
   split at hg
   · exact absurd hg (by decide)
   rename_i hq
   have h0 : (bdecR (f.k : Int) (f.bs.getD i [])).2 = 0 := Decidable.not_not.1 (fun q => hq (.inl q))
   have hkk : kindK (f.k : Int) = true := by
     cases hk2 : kindK (f.k : Int) with
     | true => rfl
     | false => unfold bdecR at h0; rw [if_pos hk2] at h0; exact absurd h0 (by decide)
   have hk18 : 1 ≤ (f.k : Int) ∧ (f.k : Int) ≤ 8 := of_decide_eq_true hkk
   have hs : sld (f.bs.getD i []) := by
     refine Decidable.not_not.1 fun q => ?_
     rw [bdec_torn hk18 hz q] at h0
     exact absurd h0 (by decide)
   by_cases hs2 : sld (f'.bs.getD i [])
   · left
     have := hN.sealed hu hs hs2
     unfold decF
     rw [hk, hr, hp, this]
   · right
     unfold decF
     rw [hk, bdec_torn hk18 (by rw [hN.len]; exact hz) hs2]
     exact if_pos (.inl (by decide))
 · left
   unfold decF
   rw [hk, hr, hp]
   have e1 : f.bs.getD i [] = [] := by rw [List.getD_eq_getElem?_getD, List.getElem?_eq_none (by omega)]; rfl
   have e2 : f'.bs.getD i [] = [] := by rw [List.getD_eq_getElem?_getD, List.getElem?_eq_none (by omega)]; rfl
   rw [e1, e2]
theorem open_near {f f' : FlM} (ok : FlB f) (rt : rightK (f.k : Int) f.ks (f.per : Int) = true) (nb : f.bs.length = (f.rows + f.per - 1) / f.per) (rs : riseP f.fs f.fs.length) (nf : f.ks = false → f.fs = []) {B B' : List Nat} (hw : writeR f = (B, 0)) (hgood : ∀ i, i < f.bs.length → (decF f i).2 = 0)
   (hn : Near B B') (h : openR B' = some f') : NearF f f' := by
 unfold writeR at hw
 split at hw
 · cases hw
 rename_i hF
 split at hw
 · cases hw
 rename_i hL
 injection hw with hw _
 subst hw
 have hT := told_ft ok rt nb rs nf
 have hFu := ftB_u8 ok
 have hZu := u8_flat ok.ub
 unfold openR at h
 cases hs : splR B' with
 | none => rw [hs] at h; cases h
 | some s =>
   rw [hs] at h
   have h : toldR s.2 s.1 = some f' := h
   obtain ⟨Z', hZ', rfl⟩ := spl_near (Z := f.bs.flatten) (F := ftB f) hZu hFu hF hL hn hs
   have ht := told_near hZ' hZu hT h
   exact ⟨ht.1, ht.2.1, ht.2.2.1, ht.2.2.2.1, ht.2.2.2.2.1, ht.2.2.2.2.2.1, decF_near ht.1 ht.2.2.1 ht.2.2.2.1 ht.2.2.2.2.2.1 ht.2.2.2.2.2.2 ok.ub ok.zb hgood⟩
theorem rdA_near {f f' : FlM} (h : NearF f f') (a n : Nat) : ∀ (q : Nat) (acc : List Cv), rdA f' a n q acc = rdA f a n q acc ∨ rdA f' a n q acc = ([], 6)
 | 0, _ => .inl rfl
 | q + 1, acc => by
   unfold rdA
   rw [h.per]
   split
   · exact .inl rfl
   rcases h.dec ((a + acc.length) / f.per) with e | e
   · rw [e]
     split
     · exact .inl rfl
     · exact rdA_near h a n q _
   · right
     rw [e]
     exact if_pos (by decide)
theorem readF_near {f f' : FlM} (h : NearF f f') (a n : Int) : readF f' a n = readF f a n ∨ readF f' a n = ([], 6) := by
 unfold readF
 rw [h.rows]
 split
 · exact .inl rfl
 · exact rdA_near h _ _ _ _
theorem seekF_near {f f' : FlM} (h : NearF f f') (key : List Nat) : seekF f' key = seekF f key ∨ seekF f' key = ((0, false), 6) := by
 unfold seekF
 rw [h.ks, h.fs, h.per]
 split
 · exact .inl rfl
 split
 · exact .inl rfl
 rcases h.dec (frstN f.fs key - 1) with e | e
 · rw [e]
   exact .inl rfl
 · right
   rw [e]
   exact if_pos (by decide)
theorem vals_in {k : Nat} {ks : Bool} {p : Nat} {xs : List Ci} (hp : 1 ≤ p) (hx : R64s (xs.map Ci.num)) (hu : ∀ x ∈ xs, U8 x.txt) (h0 : ∀ i, i < cntC p xs → (bstC k p xs i).2 = 0) (ok : FlOk (fileC k ks p xs)) : ∀ v ∈ xs.map Ci.val, VIn v := by
 intro v hv
 obtain ⟨x, hxm, rfl⟩ := List.mem_map.1 hv
 obtain ⟨j, hj⟩ := List.getElem?_of_mem hxm
 have hjl : j < xs.length := (List.getElem?_eq_some_iff.1 hj).1
 have hi : j / p < cntC p xs := by
   unfold cntC
   have h1 : (xs.length + p - 1) / p = (xs.length - 1) / p + 1 := by
     rw [show xs.length + p - 1 = xs.length - 1 + p by omega, Nat.add_div_right _ (by omega)]
   rw [h1]
   exact Nat.lt_succ_of_le (Nat.div_le_div_right (by omega))
 have hdm : j / p * p + j % p = j := by rw [Nat.mul_comm]; exact Nat.div_add_mod j p
 have hmem : x ∈ pcX xs p (j / p) := by
   have hr : j % p < p := Nat.mod_lt _ (by omega)
   have hq : (pcX xs p (j / p))[j % p]? = some x := by rw [pcX_get rfl (by omega), hdm]; exact hj
   exact List.mem_of_getElem? hq
 have hd := decF_file (ks := ks) hx hu hi (h0 _ hi)
 have hf := (decF_facts ok (i := j / p) (by show _ < ((List.range _).map _).length; rw [List.length_map, List.length_range]; exact hi)).1
 rw [hd] at hf
 exact hf _ (List.mem_map_of_mem hmem)
theorem readF_fine {k : Nat} {ks : Bool} {p : Nat} {xs : List Ci} (hp : 1 ≤ p) (hx : R64s (xs.map Ci.num)) (hu : ∀ x ∈ xs, U8 x.txt) (h0 : ∀ i, i < cntC p xs → (bstC k p xs i).2 = 0) (hv : ∀ v ∈ xs.map Ci.val, VIn v) (hl : xs.length ≤ 4096) (a m : Int) :
   ∃ V K, readF (fileC k ks p xs) a m = (V, K) ∧ K ≠ 6 ∧ V.length ≤ 4096 ∧ ∀ v ∈ V, VIn v := by
 by_cases hbad : a < 0 ∨ m < 0 ∨ max (((fileC k ks p xs).rows : Int) - a) 0 < m
 · exact ⟨[], 1, if_pos hbad, by decide, Nat.zero_le _, fun v hv => by cases hv⟩
 · have hrw : (fileC k ks p xs).rows = xs.length := rfl
   obtain ⟨a, rfl⟩ := Int.eq_ofNat_of_zero_le (show 0 ≤ a by omega)
   obtain ⟨m, rfl⟩ := Int.eq_ofNat_of_zero_le (show 0 ≤ m by omega)
   by_cases hm : m = 0
   · subst hm
     exact ⟨[], 0, if_neg hbad, by decide, Nat.zero_le _, fun v hv => by cases hv⟩
   · rw [hrw] at hbad
     refine ⟨_, _, readF_file hp hx hu h0 (fr := a) (n := m) (by omega), by decide, ?_, fun v h => hv v (List.mem_of_mem_drop (List.mem_of_mem_take h))⟩
     rw [List.length_take, List.length_drop, List.length_map]
     omega
structure Tells (B : List Nat) (f : FlM) : Prop where
 op : openR B = some f
 u : U8 B
 z : B.length ≤ 1048576
 read : ∀ a m, ∃ V K, readF f a m = (V, K) ∧ K ≠ 6 ∧ V.length ≤ 4096 ∧ ∀ v ∈ V, VIn v
 seek : ∀ key, ∃ at_ is, seekF f key = ((at_, is), 0)
 near : ∀ B' f', Near B B' → openR B' = some f' → NearF f f'
theorem keys_tell {per : Int} {ss : List Sl} (hu : ∀ s ∈ ss, U8 s.body) (h : (keysR per ss).2 = 0) : ∃ f, Tells (keysR per ss).1 f := by
 obtain ⟨p, rfl, hp1, hp2, hl4, hr, ho, huB, hbl, hgood, hok, hw⟩ := open_keys hu h
 have hxl : (ss.map keyCi).length = ss.length := List.length_map ..
 have hx : R64s ((ss.map keyCi).map Ci.num) := fun v hv => by
   obtain ⟨x, hx, rfl⟩ := List.mem_map.1 hv
   obtain ⟨s, _, rfl⟩ := List.mem_map.1 hx
   show R64 0
   unfold R64
   decide
 have hu8 : ∀ x ∈ ss.map keyCi, U8 x.txt := fun x hx => by
   obtain ⟨s, hs, rfl⟩ := List.mem_map.1 hx
   exact hu s hs
 have ok := openR_ok huB ho
 have hv := vals_in hp1 hx hu8 hgood ok
 refine ⟨fileC 8 true p (ss.map keyCi), ho, huB, hbl, readF_fine hp1 hx hu8 hgood hv (by omega), fun key => ?_, fun B' f' hn h' => ?_⟩
 · obtain ⟨at_, is, hs, _⟩ := seek_built (key := key) hp1 hu hr hgood
   exact ⟨at_, is, hs⟩
 · have hbn : (fileC 8 true p (ss.map keyCi)).bs.length = cntC p (ss.map keyCi) := by show ((List.range _).map _).length = _; rw [List.length_map, List.length_range]
   exact open_near hok ok.rt ok.nb ok.rise (fun q => Bool.noConfusion (show true = false from q)) hw (fun i hi => by
     rw [hbn] at hi
     rw [decF_file (ks := true) hx hu8 hi (hgood _ hi)]) hn h'
theorem cft_bad (per : Int) (A : Option Addr) (n c : Nat) (ss : List Sl) (at_ : Int) (pt : Nat) (fr0 m0 : Int) (A2 : Option Addr) (n2 c2 : Nat) (w : World) (hx : TxL w A n ss) (hn : n ≤ 1048576) (hlen : ∀ s ∈ ss, s.body.length ≤ 140737488351232) (h0 : (keysR per ss).2 ≠ 0) :
   Calls Tryz.prog 7 #[.int .i64 per, .slice A n c, .int .i64 at_, .int .u32 (pt : Int), .int .i64 fr0, .int .i64 m0, .slice A2 n2 c2] w fun e w' => e = .returned (.bool true) ∧ Ext w w' := by
 have HB := Lib.hid (fun W (hW : Ext w W) => pkeys_any per A n c ss W (hx.ext hW) (by omega) hlen)
 have HF := Lib.hid (fun W (hW : Ext w W) => refKeys_any per A n c ss W (hx.ext hW) (by omega) hlen)
 have hP0 := keys_bad h0
 obtain ⟨F, hF⟩ : ∃ F, F = (keysR per ss).2 := ⟨_, rfl⟩
 unfold PEncPost at HB HF
 rw [← hF] at HB HF h0
 rw [hP0] at HB HF
 simp only [List.length_nil] at HB HF
 have k1 : (F == F) = true := by simp
 have k2 : (F != 0) = true := by simp [h0]
 clear hP0 hF hx hn h0 hlen
 go_enter Tryz.func7, Tryz.ntmps7
 go_wp2_with fail
 refine (alive15 _).mono ?_
 rintro e w1 ⟨rfl, he1⟩
 go_wp2_with fail
 refine (HB.out _ he1).mono ?_
 rintro e w2 ⟨A2, c2, rfl, ho2, he2⟩
 have hE2 := he1.trans he2
 go_wp2_with fail
 refine (HF.out _ hE2).mono ?_
 rintro e w3 ⟨A3, c3, rfl, ho3, he3⟩
 have hE3 := hE2.trans he3
 clear ho2 ho3
 go_wp2_with fail
 go_ret
 exact ⟨rfl, hE3⟩
set_option maxHeartbeats 3200000 in
theorem cft_torn (per : Int) (A : Option Addr) (n c : Nat) (ss : List Sl) (at_ : Int) (pt : Nat) (fr0 m0 : Int) (A2 : Option Addr) (n2 c2 : Nat) (w : World) (hx : TxL w A n ss) (hn : n ≤ 1048576) (hlen : ∀ s ∈ ss, s.body.length ≤ 140737488351232) (hpt : pt < 4294967296) (h0 : (keysR per ss).2 = 0) {f : FlM} (hT : Tells (keysR per ss).1 f) (h2 : openR (trn (keysR per ss).1 at_ pt) = none) :
   Calls Tryz.prog 7 #[.int .i64 per, .slice A n c, .int .i64 at_, .int .u32 (pt : Int), .int .i64 fr0, .int .i64 m0, .slice A2 n2 c2] w fun e w' => e = .returned (.bool true) ∧ Ext w w' := by
 have HB := Lib.hid (fun W (hW : Ext w W) => pkeys_any per A n c ss W (hx.ext hW) (by omega) hlen)
 unfold PEncPost at HB
 rw [h0] at HB
 obtain ⟨B, hB⟩ : ∃ B, B = (keysR per ss).1 := ⟨_, rfl⟩
 rw [← hB] at HB hT
 have huB := hT.u
 have hbl := hT.z
 have ho := hT.op
 obtain ⟨T, hTd⟩ : ∃ T, T = trn B at_ pt := ⟨_, rfl⟩
 have huT : U8 T := hTd ▸ trn_u8 huB at_ pt
 have hlT : T.length = B.length := hTd ▸ trn_len B at_ pt
 rw [← hB, ← hTd] at h2
 obtain ⟨nB, hnB⟩ : ∃ n, n = B.length := ⟨_, rfl⟩
 rw [← hnB] at HB hbl hlT
 have HnB := Lib.hid hnB.symm
 have Htl := Lib.hid hlT
 have HTu : Hid (∀ W A' c1, Rd .u8 W A' nB B → Calls Tryz.prog 34 #[.slice A' nB c1, .int .i64 at_, .int .u32 (pt : Int)] W fun e w' => ∃ A' c', e = .returned (.slice A' nB c') ∧ Own .u8 5 w' W.heap.size A' c' T ∧ Ext W w') := Lib.hid (fun W A' c1 hr => hTd ▸ turn_any A' nB c1 pt at_ B W hr huB (by omega) hpt)
 have HO := Lib.hid (fun W A' c' (hr : Rd .u8 W A' nB B) hs (h1 : nB ≤ c') (h2 : c' ≤ 9223372036854775807) => openC_any A' nB c' B W hr huB hs (by omega) h1 h2)
 have HO2 := Lib.hid (fun W A' c' (hr : Rd .u8 W A' nB T) hs (h1 : nB ≤ c') (h2 : c' ≤ 9223372036854775807) => openC_any A' nB c' T W hr huT hs (by omega) h1 h2)
 have Ho := Lib.hid ho
 have Ho2 := Lib.hid h2
 clear h0 hB hnB ho huB huT hlT hTd hT hbl hx hn hlen hpt h2
 go_enter Tryz.func7, Tryz.ntmps7
 go_wp2_with fail
 refine (alive15 _).mono ?_
 rintro e w1 ⟨rfl, he1⟩
 go_wp2_with fail
 refine (HB.out _ he1).mono ?_
 rintro e w2 ⟨A3, c3, rfl, ho2, he2⟩
 have hE2 := he1.trans he2
 have hcp2 := ho2.cap
 rw [HnB.out] at hcp2
 have hrB := Lib.hid (ho2.rd' HnB.out)
 have hop := HO.out w2 A3 c3 hrB.out ho2.shape hcp2.1 hcp2.2
 clear ho2 hcp2
 go_wp2_with fail
 refine hop.mono ?_
 intro e w3 hp
 obtain ⟨g, rfl, hf, he3⟩ := hp.some Ho.out
 have hE3 := hE2.trans he3
 have hfr := Lib.hid hf.rd
 have hrB3 := Lib.hid (hrB.out.ext he3)
 clear hp hf hop hrB
 go_wp2_with fail
 refine (HTu.out _ A3 c3 hrB3.out).mono ?_
 rintro e w4 ⟨A4, c4, rfl, ho4, he4⟩
 have hE4 := hE3.trans he4
 have hcp4 := ho4.cap
 rw [Htl.out] at hcp4
 have hop4 := HO2.out w4 A4 c4 (ho4.rd' Htl.out) ho4.shape hcp4.1 hcp4.2
 clear ho4 hcp4 hrB3
 go_wp2_with fail
 refine hop4.mono ?_
 intro e w5 hp5
 obtain ⟨he5, ⟨_, rfl⟩ | ⟨f', g', h1, _, _⟩⟩ := hp5
 rotate_left
 · rw [Ho2.out] at h1
   cases h1
 have hE5 := hE4.trans he5
 go_wp2_with fail
 go_ret
 exact ⟨rfl, hE5⟩
set_option maxHeartbeats 12800000 in
theorem cft_open (per : Int) (A : Option Addr) (n c : Nat) (ss : List Sl) (at_ : Int) (pt : Nat) (fr0 m0 : Int) (A2 : Option Addr) (n2 c2 : Nat) (key : List Nat) (w : World) (hx : TxL w A n ss) (hn : n ≤ 1048576) (hlen : ∀ s ∈ ss, s.body.length ≤ 140737488351232) (hpt : pt < 4294967296) (hf1 : -9223372036854775808 ≤ fr0) (hf2 : fr0 ≤ 9223372036854775807) (hm2 : m0 ≤ 9223372036854775807) (hy : Rd .u8 w A2 n2 key) (hu2 : U8 key) (h0 : (keysR per ss).2 = 0) {f : FlM} (hT : Tells (keysR per ss).1 f) {f2 : FlM} (h2 : openR (trn (keysR per ss).1 at_ pt) = some f2) :
   Calls Tryz.prog 7 #[.int .i64 per, .slice A n c, .int .i64 at_, .int .u32 (pt : Int), .int .i64 fr0, .int .i64 m0, .slice A2 n2 c2] w fun e w' => e = .returned (.bool true) ∧ Ext w w' := by
 have HB := Lib.hid (fun W (hW : Ext w W) => pkeys_any per A n c ss W (hx.ext hW) (by omega) hlen)
 unfold PEncPost at HB
 rw [h0] at HB
 obtain ⟨B, hB⟩ : ∃ B, B = (keysR per ss).1 := ⟨_, rfl⟩
 rw [← hB] at HB hT
 have huB := hT.u
 have hbl := hT.z
 have ho := hT.op
 have hok := openR_ok huB ho
 obtain ⟨T, hTd⟩ : ∃ T, T = trn B at_ pt := ⟨_, rfl⟩
 have huT : U8 T := hTd ▸ trn_u8 huB at_ pt
 have hlT : T.length = B.length := hTd ▸ trn_len B at_ pt
 have hnT : Near B T := hTd ▸ near_trn huB at_ hpt
 rw [← hB, ← hTd] at h2
 obtain ⟨nB, hnB⟩ : ∃ n, n = B.length := ⟨_, rfl⟩
 rw [← hnB] at HB hbl hlT
 have HnB := Lib.hid hnB.symm
 have Htl := Lib.hid hlT
 have HTu : Hid (∀ W A' c1, Rd .u8 W A' nB B → Calls Tryz.prog 34 #[.slice A' nB c1, .int .i64 at_, .int .u32 (pt : Int)] W fun e w' => ∃ A' c', e = .returned (.slice A' nB c') ∧ Own .u8 5 w' W.heap.size A' c' T ∧ Ext W w') := Lib.hid (fun W A' c1 hr => hTd ▸ turn_any A' nB c1 pt at_ B W hr huB (by omega) hpt)
 have HO := Lib.hid (fun W A' c' (hr : Rd .u8 W A' nB B) hs (h1 : nB ≤ c') (h2 : c' ≤ 9223372036854775807) => openC_any A' nB c' B W hr huB hs (by omega) h1 h2)
 have HO2 := Lib.hid (fun W A' c' (hr : Rd .u8 W A' nB T) hs (h1 : nB ≤ c') (h2 : c' ≤ 9223372036854775807) => openC_any A' nB c' T W hr huT hs (by omega) h1 h2)
 have Ho := Lib.hid ho
 have Ho2 := Lib.hid h2
 have hN := hT.near _ _ hnT h2
 have hok2 := openR_ok huT h2
 obtain ⟨V, K, hrf, hK6, hVl, hVi⟩ := hT.read fr0 m0
 obtain ⟨at1, is, hsf⟩ := hT.seek key
 have HR1 := Lib.hid (fun W g (hf : FilR W g f) => readC_any g f fr0 m0 W hf hok hf1 hf2 hm2)
 have HR2 : (readF f2 fr0 m0 = (V, K) ∧ Hid (∀ W g, FilR W g f2 → Calls Tryz.prog 30 #[.pointer (some ⟨g, 0, none⟩), .int .i64 fr0, .int .i64 m0] W (GcPost (V, K) W))) ∨ Hid (∀ W g, FilR W g f2 → Calls Tryz.prog 30 #[.pointer (some ⟨g, 0, none⟩), .int .i64 fr0, .int .i64 m0] W (GcPost ([], 6) W)) := by
   rcases readF_near hN fr0 m0 with e | e
   · rw [hrf] at e
     exact .inl ⟨e, Lib.hid (fun W g hf => e ▸ readC_any g f2 fr0 m0 W hf hok2 hf1 hf2 hm2)⟩
   · exact .inr (Lib.hid (fun W g hf => e ▸ readC_any g f2 fr0 m0 W hf hok2 hf1 hf2 hm2))
 have HS1 := Lib.hid (fun W g (hf : FilR W g f) (hW : Ext w W) => seekC_any g f A2 n2 c2 key W hf hok (hy.ext hW) hu2)
 have Hsk : Hid ((Hid (∀ W g, FilR W g f2 → Ext w W → Calls Tryz.prog 31 #[.pointer (some ⟨g, 0, none⟩), .slice A2 n2 c2] W (SeekPost ((at1, is), 0) W))) ∨ (Hid (∀ W g, FilR W g f2 → Ext w W → Calls Tryz.prog 31 #[.pointer (some ⟨g, 0, none⟩), .slice A2 n2 c2] W (SeekPost ((0, false), 6) W)))) := Lib.hid (by
   rcases seekF_near hN key with e | e
   · rw [hsf] at e
     exact .inl (Lib.hid (fun W g hf hW => e ▸ seekC_any g f2 A2 n2 c2 key W hf hok2 (hy.ext hW) hu2))
   · exact .inr (Lib.hid (fun W g hf hW => e ▸ seekC_any g f2 A2 n2 c2 key W hf hok2 (hy.ext hW) hu2)))
 rw [hrf] at HR1
 rw [hsf] at HS1
 unfold SeekPost at HS1 Hsk
 unfold GcPost at HR1 HR2
 obtain ⟨nV, hnV⟩ : ∃ n, n = V.length := ⟨_, rfl⟩
 rw [← hnV] at hVl
 simp only [← hnV, List.length_nil] at HR1 HR2
 have HnV := Lib.hid hnV
 have HVi := Lib.hid hVi
 have k1 : (K != 6) = true := by simp [hK6]
 have k2 : (K != K) = false := by simp
 have k3 : (is == is) = true := by simp
 have k4 : (K == 6) = false := by simp [hK6]
 have HFc := Lib.hid (fun W g (hf : FilR W g f) => hf.c)
 have HFc2 := Lib.hid (fun W g (hf : FilR W g f2) => (show ∃ Ab cb vf, ∀ q, FilC (W.drewN q) g (f.k : Int) f.ks (f.rows : Int) (f.per : Int) (.slice Ab f.bs.length cb) vf from by
   obtain ⟨Ab, cb, vf, h⟩ := hf.c
   rw [hN.k, hN.ks, hN.rows, hN.per, hN.nb] at h
   exact ⟨Ab, cb, vf, h⟩))
 clear hN hok2 hrf hsf hnV hVi hy hu2 hf1 hf2 hm2
 clear h0 hB hnB ho huB huT hlT hnT hTd hT hok hbl hx hn hlen hpt h2
 go_enter Tryz.func7, Tryz.ntmps7
 go_wp2_with fail
 refine (alive15 _).mono ?_
 rintro e w1 ⟨rfl, he1⟩
 go_wp2_with fail
 refine (HB.out _ he1).mono ?_
 rintro e w2 ⟨A3, c3, rfl, ho2, he2⟩
 have hE2 := he1.trans he2
 have hcp2 := ho2.cap
 rw [HnB.out] at hcp2
 have hrB := Lib.hid (ho2.rd' HnB.out)
 have hop := HO.out w2 A3 c3 hrB.out ho2.shape hcp2.1 hcp2.2
 clear ho2 hcp2
 go_wp2_with fail
 refine hop.mono ?_
 intro e w3 hp
 obtain ⟨g, rfl, hf, he3⟩ := hp.some Ho.out
 have hE3 := hE2.trans he3
 have hfr := Lib.hid hf.rd
 have hrB3 := Lib.hid (hrB.out.ext he3)
 clear hp hf hop hrB
 go_wp2_with fail
 refine (HTu.out _ A3 c3 hrB3.out).mono ?_
 rintro e w4 ⟨A4, c4, rfl, ho4, he4⟩
 have hE4 := hE3.trans he4
 have hcp4 := ho4.cap
 rw [Htl.out] at hcp4
 have hop4 := HO2.out w4 A4 c4 (ho4.rd' Htl.out) ho4.shape hcp4.1 hcp4.2
 clear ho4 hcp4 hrB3
 go_wp2_with fail
 refine hop4.mono ?_
 intro e w5 hp5
 obtain ⟨g2, rfl, hf5, he5⟩ := hp5.some Ho2.out
 have hE5 := hE4.trans he5
 have hfr2 := hf5.rd
 have hfr5 := hfr.out.ext (he4.trans he5)
 obtain ⟨Ab, cb, vf, hFq⟩ := HFc.out w5 g hfr5
 obtain ⟨Ab2, cb2, vf2, hFq2⟩ := HFc2.out w5 g2 hfr2
 clear hp5 hf5 hfr hop4
 have r1 := rowsC_any g _ _ _ _ Ab _ cb _ w5 (hFq 0)
 have r2 := kindC_any g _ _ _ _ Ab _ cb _ w5 (hFq 0)
 have r3 := blocksC_any g _ _ _ _ Ab _ cb _ w5 (hFq 0)
 have r4 := rowsC_any g2 _ _ _ _ Ab2 _ cb2 _ w5 (hFq2 0)
 have r5 := kindC_any g2 _ _ _ _ Ab2 _ cb2 _ w5 (hFq2 0)
 have r6 := blocksC_any g2 _ _ _ _ Ab2 _ cb2 _ w5 (hFq2 0)
 have HRd1 := HR1.out w5 g hfr5
 clear hFq hFq2
 go_wp2_with (first
   | (refine r1.mono ?_; rintro e w6 ⟨rfl, rfl⟩)
   | (refine r2.mono ?_; rintro e w6 ⟨rfl, rfl⟩)
   | (refine r3.mono ?_; rintro e w6 ⟨rfl, rfl⟩)
   | (refine r4.mono ?_; rintro e w6 ⟨rfl, rfl⟩)
   | (refine r5.mono ?_; rintro e w6 ⟨rfl, rfl⟩)
   | (refine r6.mono ?_; rintro e w6 ⟨rfl, rfl⟩)
   | fail)
 clear r1 r2 r3 r4 r5 r6
 refine HRd1.mono ?_
 rintro e w7 ⟨gs, A5, c5, rfl, hv5, ho5, ht5, he7⟩
 have hX7 := he7
 have hf5 : gs.length = nV := by rw [HnV.out, ← hv5, List.length_map]
 have hr5 := Lib.hid (ans_rdX hv5 hf5 HVi.out ho5 (fun f hf => (ht5.1 f hf).rd))
 have Hv5 := Lib.hid hv5
 clear ho5 ht5 hv5 hf5 HRd1
 rcases HR2 with ⟨_, HR2⟩ | HR2
 · have HRd2 := HR2.out _ g2 (hfr2.ext hX7)
   go_wp2_with fail
   refine HRd2.mono ?_
   rintro e w8 ⟨hs, A6, c6, rfl, hv6, ho6, ht6, he8⟩
   have hX8 := hX7.trans he8
   have hf6 : hs.length = nV := by rw [HnV.out, ← hv6, List.length_map]
   have hr6 := Lib.hid (ans_rdX hv6 hf6 HVi.out ho6 (fun f hf => (ht6.1 f hf).rd))
   have hA1 := Lib.hid (fun W (hW : Ext w8 W) => alikeRow_any A5 nV c5 gs A6 nV c6 hs W ((hr5.out.ext he8).ext hW) (hr6.out.ext hW) (by omega) (by omega))
   rw [alkR_iff.2 (Hv5.out.trans hv6.symm)] at hA1
   clear ho6 ht6 hv6 hf6 HRd2
   go_wp2_with fail
   refine (hA1.out _ (Ext.refl _)).mono ?_
   rintro e w11 ⟨rfl, he11⟩
   have hXa := hX8.trans he11
   go_wp2_with fail
   refine (HS1.out _ g (hfr5.ext hXa) (hE5.trans hXa)).mono ?_
   rintro e w9 ⟨rfl, he9⟩
   rcases Hsk.out with HS2 | HS2
   · go_wp2_with fail
     refine (HS2.out _ g2 ((hfr2.ext hXa).ext he9) ((hE5.trans hXa).trans he9)).mono ?_
     rintro e w10 ⟨rfl, he10⟩
     go_wp2_with fail
     go_ret
     exact ⟨by first | rfl | simp, ((hE5.trans hXa).trans he9).trans he10⟩
   · go_wp2_with fail
     refine (HS2.out _ g2 ((hfr2.ext hXa).ext he9) ((hE5.trans hXa).trans he9)).mono ?_
     rintro e w10 ⟨rfl, he10⟩
     go_wp2_with fail
     go_ret
     exact ⟨by first | rfl | simp, ((hE5.trans hXa).trans he9).trans he10⟩
 · have HRd2 := HR2.out _ g2 (hfr2.ext hX7)
   go_wp2_with fail
   refine HRd2.mono ?_
   rintro e w8 ⟨hs, A6, c6, rfl, hv6, ho6, ht6, he8⟩
   have hXa := hX7.trans he8
   clear ho6 ht6 hv6 HRd2
   go_wp2_with fail
   refine (HS1.out _ g (hfr5.ext hXa) (hE5.trans hXa)).mono ?_
   rintro e w9 ⟨rfl, he9⟩
   rcases Hsk.out with HS2 | HS2
   · go_wp2_with fail
     refine (HS2.out _ g2 ((hfr2.ext hXa).ext he9) ((hE5.trans hXa).trans he9)).mono ?_
     rintro e w10 ⟨rfl, he10⟩
     go_wp2_with fail
     go_ret
     exact ⟨by first | rfl | simp, ((hE5.trans hXa).trans he9).trans he10⟩
   · go_wp2_with fail
     refine (HS2.out _ g2 ((hfr2.ext hXa).ext he9) ((hE5.trans hXa).trans he9)).mono ?_
     rintro e w10 ⟨rfl, he10⟩
     go_wp2_with fail
     go_ret
     exact ⟨by first | rfl | simp, ((hE5.trans hXa).trans he9).trans he10⟩
theorem walk_CfileTells (per : Int) (A : Option Addr) (n c : Nat) (ss : List Sl) (at_ pt fr0 m0 : Int) (A2 : Option Addr) (n2 c2 : Nat) (key : List Nat) (w : World) (hx : TxL w A n ss) (hn : n ≤ 1048576) (hlen : ∀ s ∈ ss, s.body.length ≤ 140737488351232) (_h1 : -9223372036854775808 ≤ at_) (_h2 : at_ ≤ 9223372036854775807) (hp0 : 0 ≤ pt) (hpt : pt < 4294967296) (hf1 : -9223372036854775808 ≤ fr0) (hf2 : fr0 ≤ 9223372036854775807) (_hm1 : -9223372036854775808 ≤ m0) (hm2 : m0 ≤ 9223372036854775807) (hy : Rd .u8 w A2 n2 key) (hu2 : U8 key) (_hn2 : n2 * 1 ≤ 140737488351232) :
   Calls Tryz.prog 7 #[.int .i64 per, .slice A n c, .int .i64 at_, .int .u32 pt, .int .i64 fr0, .int .i64 m0, .slice A2 n2 c2] w fun e w' => e = .returned (.bool true) ∧ Ext w w' := by
 obtain ⟨pt, rfl⟩ := Int.eq_ofNat_of_zero_le hp0
 have hptl : pt < 4294967296 := by omega
 by_cases h0 : (keysR per ss).2 = 0
 · obtain ⟨f, hT⟩ := keys_tell (fun s hs => (hx.2 s hs).u8) h0
   cases h2 : openR (trn (keysR per ss).1 at_ pt) with
   | none => exact cft_torn per A n c ss at_ pt fr0 m0 A2 n2 c2 w hx hn hlen hptl h0 hT h2
   | some f2 => exact cft_open per A n c ss at_ pt fr0 m0 A2 n2 c2 key w hx hn hlen hptl hf1 hf2 hm2 hy hu2 h0 hT h2
 · exact cft_bad per A n c ss at_ pt fr0 m0 A2 n2 c2 w hx hn hlen h0
end Go.Proofs.YthibbgmicmfkfaaGreat
