import Derived.Test.YthibbgmicmfkfaaGreatGY21
namespace Go.Proofs.YthibbgmicmfkfaaGreat
open Go.RowKit
set_option maxRecDepth 100000
theorem tw_spec {T : Type} {P : T → Bool} : ∀ (L : List T), (L.takeWhile P).length ≤ L.length ∧ (∀ j t, j < (L.takeWhile P).length → L[j]? = some t → P t = true) ∧ (∀ t, L[(L.takeWhile P).length]? = some t → P t = false) ∧ L.dropWhile P = L.drop (L.takeWhile P).length
  | [] => ⟨Nat.le_refl _, fun j t h => absurd h (Nat.not_lt_zero _), fun t h => (by cases h), rfl⟩
  | x :: L => by
    obtain ⟨h1, h2, h3, h4⟩ := tw_spec (P := P) L
    cases hx : P x with
    | false =>
      have e : (x :: L).takeWhile P = [] := by simp [hx]
      rw [e]
      exact ⟨Nat.zero_le _, fun j t h => absurd h (Nat.not_lt_zero _), fun t h => (by simp at h; rw [← h]; exact hx), (by simp [hx])⟩
    | true =>
      have e : (x :: L).takeWhile P = x :: L.takeWhile P := by simp [hx]
      rw [e]
      refine ⟨by simp; exact h1, fun j t hj ht => ?_, fun t ht => ?_, by simp [hx, h4]⟩
      · cases j with
        | zero => simp at ht; rw [← ht]; exact hx
        | succ j => exact h2 j t (by simpa using hj) (by simpa using ht)
      · exact h3 t (by simpa using ht)
theorem rise_all {T : List (List Nat)} {n : Nat} (h : riseP T n) {a b : Nat} (hab : a < b) (hb : b < n) : ordT (T.getD a []) (T.getD b []) < 0 := by
  have := rise_lt h (b - a - 1) a (by omega)
  rwa [show a + (b - a - 1 + 1) = b by omega] at this
theorem ord_le_lt {a b c : List Nat} (h : ordT a b < 0) (k : ¬ 0 < ordT b c) : ordT a c < 0 := by
  by_cases q : ordT b c = 0
  · rw [← ordT_zero q]; exact h
  · exact ordT_trans h (by omega)
theorem ord_gt_le {a b c : List Nat} (h : 0 < ordT a c) (k : ordT a b < 0) : 0 < ordT b c := by
  have h1 : ordT c a < 0 := by rw [ordT_swap]; omega
  have h2 := ordT_trans h1 k
  rw [ordT_swap] at h2
  omega
structure Place (T : List (List Nat)) (n : Nat) (key : List Nat) (at_ : Nat) (is : Bool) : Prop where
  le : at_ ≤ n
  lt : ∀ j, j < at_ → ordT (T.getD j []) key < 0
  ge : ∀ j, at_ ≤ j → j < n → ¬ ordT (T.getD j []) key < 0
  is : is = true ↔ at_ < n ∧ T.getD at_ [] = key
theorem Place.mem {T : List (List Nat)} {n : Nat} {key : List Nat} {at_ : Nat} {is : Bool} (h : Place T n key at_ is) (hr : riseP T n) : is = true ↔ ∃ j, j < n ∧ T.getD j [] = key := by
  rw [h.is]
  constructor
  · rintro ⟨a, b⟩
    exact ⟨_, a, b⟩
  · rintro ⟨j, hj, e⟩
    have h0 : ordT (T.getD j []) key = 0 := by rw [e]; exact ordT_self _
    have h1 : at_ ≤ j := by
      rcases Nat.lt_or_ge j at_ with q | q
      · have := h.lt j q; omega
      · exact q
    rcases Nat.lt_or_eq_of_le h1 with q | q
    · have h2 := h.ge at_ (Nat.le_refl _) (by omega)
      have h3 := rise_all hr q hj
      rw [e] at h3
      exact absurd h3 h2
    · subst q
      exact ⟨hj, e⟩
theorem pc_key (ss : List Sl) (p i : Nat) : (pcX (ss.map keyCi) p i).map Ci.val = (((bodies ss).drop (i * p)).take p).map (fun t => ((false, 0, t) : Cv)) := by
  unfold pcX bodies
  rw [← List.map_drop, ← List.map_take, List.map_map, ← List.map_drop, ← List.map_take, List.map_map]
  rfl
theorem seek_built {p : Nat} {ss : List Sl} {key : List Nat} (hp : 1 ≤ p) (hu : ∀ s ∈ ss, U8 s.body) (hr : riseP (bodies ss) ss.length) (h0 : ∀ i, i < cntC p (ss.map keyCi) → (bstC 8 p (ss.map keyCi) i).2 = 0) :
    ∃ at_ is, seekF (fileC 8 true p (ss.map keyCi)) key = ((at_, is), 0) ∧ Place (bodies ss) ss.length key at_ is := by
  obtain ⟨xs, hxs⟩ : ∃ xs, xs = ss.map keyCi := ⟨_, rfl⟩
  obtain ⟨n, hn⟩ : ∃ n, n = ss.length := ⟨_, rfl⟩
  obtain ⟨T, hT⟩ : ∃ T, T = bodies ss := ⟨_, rfl⟩
  have hxl : xs.length = n := by rw [hxs, hn, List.length_map]
  have hTl : T.length = n := by rw [hT, hn, bodies_len]
  have hpk := pc_key ss p
  have hnum : R64s (xs.map Ci.num) := fun v hv => by
    rw [hxs] at hv
    obtain ⟨x, hx, rfl⟩ := List.mem_map.1 hv
    obtain ⟨s, _, rfl⟩ := List.mem_map.1 hx
    show R64 0
    unfold R64
    decide
  have hu8 : ∀ x ∈ xs, U8 x.txt := fun x hx => by
    rw [hxs] at hx
    obtain ⟨s, hs, rfl⟩ := List.mem_map.1 hx
    exact hu s hs
  have htx : xs.map Ci.txt = T := by
    rw [hxs, hT, List.map_map]
    rfl
  rw [← hxs, ← hT] at hpk
  rw [← hxs] at h0
  rw [← hxs, ← hn, ← hT]
  rw [← hn, ← hT] at hr
  clear hxs hT
  obtain ⟨q, hq⟩ : ∃ q, q = cntC p xs := ⟨_, rfl⟩
  have hqd : q = (n + p - 1) / p := by rw [hq]; unfold cntC; rw [hxl]
  have hq1 : ∀ i, i < q → i * p < n := fun i hi => chunk_lt hp hqd hi
  have hq2 : n ≤ q * p := chunk_end hp hqd
  have hfs : ∀ i, i < q → (fileC 8 true p xs).fs.getD i [] = T.getD (i * p) [] := fun i hi => by
    rw [fileC_fs (by rw [← hq]; exact hi)]
    unfold frsC
    rw [htx]
  have hfl : (fileC 8 true p xs).fs.length = q := by rw [hq]; show ((List.range _).map _).length = _; rw [List.length_map, List.length_range]
  have hfi : ∀ i t, (fileC 8 true p xs).fs[i]? = some t → t = T.getD (i * p) [] ∧ i < q := fun i t ht => by
    have hl : i < q := by rw [← hfl]; exact (List.getElem?_eq_some_iff.1 ht).1
    have := hfs i hl
    rw [List.getD_eq_getElem?_getD, ht] at this
    exact ⟨this, hl⟩
  obtain ⟨b, hb⟩ : ∃ b, b = frstN (fileC 8 true p xs).fs key := ⟨_, rfl⟩
  obtain ⟨s1, s2, s3, _⟩ := tw_spec (P := fun s => !decide (0 < ordT s key)) (fileC 8 true p xs).fs
  have hb' : (((fileC 8 true p xs).fs).takeWhile fun s => !decide (0 < ordT s key)).length = b := by rw [hb]; rfl
  rw [hb', hfl] at s1
  rw [hb'] at s2 s3
  have sA : ∀ i, i < b → ¬ 0 < ordT (T.getD (i * p) []) key := fun i hi => by
    have hl : i < (fileC 8 true p xs).fs.length := by rw [hfl]; omega
    have h1 := s2 i _ hi (List.getElem?_eq_getElem hl)
    have h2 := (hfi i _ (List.getElem?_eq_getElem hl)).1
    rw [h2] at h1
    simpa using h1
  have sB : b < q → 0 < ordT (T.getD (b * p) []) key := fun hlt => by
    have hl : b < (fileC 8 true p xs).fs.length := by rw [hfl]; omega
    have h1 := s3 _ (List.getElem?_eq_getElem hl)
    have h2 := (hfi b _ (List.getElem?_eq_getElem hl)).1
    rw [h2] at h1
    simpa using h1
  -- all from the b-th block on stand behind the key
  have sC : ∀ j, b * p ≤ j → j < n → 0 < ordT (T.getD j []) key := fun j hj hjn => by
    have hbq : b < q := by
      rcases Nat.lt_or_ge b q with z | z
      · exact z
      · have := Nat.mul_le_mul_right p z
        omega
    have h1 := sB hbq
    rcases Nat.lt_or_eq_of_le hj with z | z
    · exact ord_gt_le h1 (rise_all hr z hjn)
    · rw [← z]; exact h1
  unfold seekF
  rw [show (fileC 8 true p xs).ks = true from rfl, if_neg (by decide), ← hb]
  by_cases hb0 : b = 0
  · rw [if_pos hb0]
    refine ⟨0, false, rfl, Nat.zero_le _, fun j hj => absurd hj (Nat.not_lt_zero _), fun j _ hj => ?_, ⟨fun h => (by cases h), fun h => ?_⟩⟩
    · have := sC j (by rw [hb0]; omega) hj
      omega
    · have := sC 0 (by rw [hb0]; omega) h.1
      rw [h.2, ordT_self] at this
      omega
  · rw [if_neg hb0]
    obtain ⟨i, rfl⟩ : ∃ i, b = i + 1 := ⟨b - 1, by omega⟩
    rw [Nat.add_sub_cancel]
    have hiq : i < q := by omega
    rw [decF_file hnum hu8 (by rw [← hq]; exact hiq) (h0 i (by rw [← hq]; exact hiq)), if_neg (fun z => z rfl), hpk i]
    show ∃ at_ is, ((i * p + ((((T.drop (i * p)).take p).map (fun t => ((false, 0, t) : Cv))).takeWhile (aheadV key)).length, atIs key ((((T.drop (i * p)).take p).map (fun t => ((false, 0, t) : Cv))).dropWhile (aheadV key))), (0 : Int)) = ((at_, is), 0) ∧ _
    refine ⟨_, _, rfl, ?_⟩
    obtain ⟨L, hL⟩ : ∃ L, L = (T.drop (i * p)).take p := ⟨_, rfl⟩
    rw [← hL]
    have hLl : L.length = min p (n - i * p) := by rw [hL, List.length_take, List.length_drop, hTl]
    have hLg : ∀ j t, L[j]? = some t → t = T.getD (i * p + j) [] ∧ i * p + j < n ∧ j < p := fun j t ht => by
      have hl := (List.getElem?_eq_some_iff.1 ht).1
      rw [hL, List.getElem?_take] at ht
      split at ht
      · rw [List.getElem?_drop] at ht
        refine ⟨?_, by rw [hLl] at hl; omega, by omega⟩
        rw [List.getD_eq_getElem?_getD, ht]
        rfl
      · cases ht
    have e1 : (L.map (fun t => ((false, 0, t) : Cv))).takeWhile (aheadV key) = (L.takeWhile (fun t => decide (ordT t key < 0))).map (fun t => ((false, 0, t) : Cv)) := by
      rw [List.takeWhile_map]
      rfl
    have e2 : (L.map (fun t => ((false, 0, t) : Cv))).dropWhile (aheadV key) = (L.dropWhile (fun t => decide (ordT t key < 0))).map (fun t => ((false, 0, t) : Cv)) := by
      rw [List.dropWhile_map]
      rfl
    rw [e1, e2, List.length_map]
    obtain ⟨t1, t2, t3, t4⟩ := tw_spec (P := fun t => decide (ordT t key < 0)) L
    obtain ⟨c, hc⟩ : ∃ c, c = (L.takeWhile (fun t => decide (ordT t key < 0))).length := ⟨_, rfl⟩
    rw [← hc] at t1 t2 t3 t4 ⊢
    rw [t4]
    have hip := hq1 i hiq
    have hi1 : (i + 1) * p = i * p + p := by rw [Nat.add_mul, Nat.one_mul]
    rw [hi1] at sC
    have hle : i * p + c ≤ n := by rw [hLl] at t1; omega
    have hA : ∀ j, j < i * p + c → ordT (T.getD j []) key < 0 := fun j hj => by
      rcases Nat.lt_or_ge j (i * p) with z | z
      · exact ord_le_lt (rise_all hr z hip) (sA i (by omega))
      · have hl : j - i * p < L.length := by omega
        have h1 := t2 (j - i * p) _ (by omega) (List.getElem?_eq_getElem hl)
        have h2 := (hLg _ _ (List.getElem?_eq_getElem hl)).1
        rw [h2, show i * p + (j - i * p) = j by omega] at h1
        exact of_decide_eq_true h1
    have hB : ∀ j, i * p + c ≤ j → j < n → ¬ ordT (T.getD j []) key < 0 := fun j hj hjn => by
      rcases Nat.lt_or_ge j (i * p + p) with z | z
      · have hl : c < L.length := by rw [hLl]; omega
        have h1 := t3 _ (List.getElem?_eq_getElem hl)
        have h2 := (hLg _ _ (List.getElem?_eq_getElem hl)).1
        rw [h2] at h1
        have h3 := of_decide_eq_false h1
        rcases Nat.lt_or_eq_of_le hj with y | y
        · intro w
          exact h3 (ordT_trans (rise_all hr y hjn) w)
        · rw [← y]; exact h3
      · have := sC j z hjn
        omega
    refine ⟨hle, hA, hB, ?_⟩
    by_cases hcl : c < L.length
    · have h2 := hLg _ _ (List.getElem?_eq_getElem hcl)
      rw [List.drop_eq_getElem_cons hcl, List.map_cons]
      show decide (L[c] = key) = true ↔ _
      rw [decide_eq_true_iff, h2.1]
      exact ⟨fun z => ⟨h2.2.1, z⟩, fun z => z.2⟩
    · rw [List.drop_eq_nil_of_le (by omega)]
      show false = true ↔ _
      refine ⟨fun z => (by cases z), fun z => ?_⟩
      have h3 : i * p + p ≤ i * p + c := by rw [hLl] at hcl; omega
      have := sC (i * p + c) h3 z.1
      rw [z.2, ordT_self] at this
      omega
theorem OpnPost.some {bs : List Nat} {f : FlM} {w : World} {e : Ending} {w' : World} (h : OpnPost bs w e w') (ho : openR bs = some f) : ∃ g, e = .returned (.tuple #[.pointer (some ⟨g, 0, none⟩), .int .i64 0]) ∧ FilOwn w' w.heap.size g f ∧ Ext w w' := by
  obtain ⟨he, h⟩ := h
  rcases h with ⟨h1, _⟩ | ⟨f', g, h1, h2, h3⟩
  · rw [ho] at h1; cases h1
  · rw [ho] at h1
    injection h1 with h1
    subst h1
    exact ⟨g, h2, h3, he⟩
set_option maxHeartbeats 6400000 in
theorem alive15 (w : World) : Calls Tryz.prog 16 #[] w fun e w' => e = .returned (.bool true) ∧ Ext w w' := by
  have kc := conv_const
  have hE : ∀ (W : World) o, Ext W (W.alloc o) := fun W o => (Ext.refl W).alloc o
  have hX := RdX.lit w [e7, e7, e9] (fun x hx => by
    simp at hx
    rcases hx with rfl | rfl
    · exact e7_in _
    · exact ⟨Rd.nil .., (by intro x hx; cases hx), by decide, by decide, by decide⟩)
  have hB := pbuild_any 1 2 (some ⟨w.heap.size, 0, none⟩) 3 3 [e7, e7, e9] _ hX (fun x hx => by
    simp at hx
    rcases hx with rfl | rfl
    · exact ⟨by decide, by decide⟩
    · exact ⟨by decide, by decide⟩) (by decide) (by decide)
  unfold PEncPost at hB
  rw [ex15_b] at hB
  simp only [ex15_bl] at hB
  have HB := Lib.hid hB
  clear hX hB
  go_enter Tryz.func16, Tryz.ntmps16
  go_wp2_with fail
  refine HB.out.mono ?_
  rintro e w1 ⟨A1, c1, rfl, ho1, he1⟩
  have hE1 : Ext w w1 := (hE _ _).trans he1
  have hcp := ho1.cap
  rw [ex15_bl] at hcp
  have hO := Lib.hid (openC_any A1 45 c1 B15 w1 (ho1.rd' ex15_bl) ex15_bu ho1.shape (by decide) hcp.1 hcp.2)
  clear HB he1
  go_wp2_with fail
  refine hO.out.mono ?_
  intro e w2 hp
  obtain ⟨g, rfl, hf, he2⟩ := hp.some ex15_bo
  have HF := Lib.hid hf.rd
  have hE2 := hE1.trans he2
  have hgw := hf.lo
  clear hO ho1 hcp he2 hE1 hp hf
  go_wp2_with fail
  have HKR := Lib.hid (show keysR 2 [⟨some ⟨w2.heap.size, 0, none⟩, 1, [97]⟩, ⟨some ⟨w2.heap.size + 1, 0, none⟩, 1, [99]⟩, ⟨some ⟨w2.heap.size + 1 + 1, 0, none⟩, 1, [101]⟩] = (K15, 0) from (keysR_val (show bodies [⟨some ⟨w2.heap.size, 0, none⟩, 1, [97]⟩, ⟨some ⟨w2.heap.size + 1, 0, none⟩, 1, [99]⟩, ⟨some ⟨w2.heap.size + 1 + 1, 0, none⟩, 1, [101]⟩] = bodies [⟨none, 1, [97]⟩, ⟨none, 1, [99]⟩, ⟨none, 1, [101]⟩] from rfl) 2).trans ex15_k)
  refine (pkeys_any 2 _ 3 3 [⟨some ⟨w2.heap.size, 0, none⟩, 1, [97]⟩, ⟨some ⟨w2.heap.size + 1, 0, none⟩, 1, [99]⟩, ⟨some ⟨w2.heap.size + 1 + 1, 0, none⟩, 1, [101]⟩] _ ?_ (by decide) ?_).mono ?_
  · refine ⟨RdL.of_block (e := 22) (heap_at (by simp)) rfl, ?_⟩
    intro s hs
    simp only [List.mem_cons, List.not_mem_nil, or_false] at hs
    rcases hs with rfl | rfl | rfl
    · exact TxI.of ((((Rd.mark_at .u8 5 (1, 2) _ [97] (by simp) rfl).ext (hE _ _)).ext (hE _ _)).ext (hE _ _)) (by decide) (by decide) (by decide) (by decide)
    · exact TxI.of (((Rd.mark_at .u8 5 (1, 2) _ [99] (by simp) rfl).ext (hE _ _)).ext (hE _ _)) (by decide) (by decide) (by decide) (by decide)
    · exact TxI.of ((Rd.mark_at .u8 5 (1, 2) _ [101] (by simp) rfl).ext (hE _ _)) (by decide) (by decide) (by decide) (by decide)
  · intro s hs
    simp only [List.mem_cons, List.not_mem_nil, or_false] at hs
    rcases hs with rfl | rfl | rfl <;> (show (1 : Nat) ≤ 140737488351232; decide)
  intro e w3 hp
  unfold PEncPost at hp
  rw [HKR.out] at hp
  obtain ⟨A3, c3, rfl, ho3, he3⟩ := hp
  have hE23 : Ext w2 w3 := ((((hE _ _).trans (hE _ _)).trans (hE _ _)).trans (hE _ _)).trans he3
  simp only [ex15_kl]
  have HF3 := Lib.hid (HF.out.ext hE23)
  have hE3 := hE2.trans hE23
  have hcp := ho3.cap
  rw [ex15_kl] at hcp
  have hO := Lib.hid (openC_any A3 52 c3 K15 w3 (ho3.rd' ex15_kl) ex15_ku ho3.shape (by decide) hcp.1 hcp.2)
  clear HKR he3 HF hE2 hE23
  go_wp2_with fail
  refine hO.out.mono ?_
  intro e w4 hp
  obtain ⟨g2, rfl, hf2, he4⟩ := hp.some ex15_ko
  have HF4 := Lib.hid (HF3.out.ext he4)
  have HK4 := Lib.hid hf2.rd
  have hE4 := hE3.trans he4
  clear hO ho3 hcp he4 hE3 hp hf2 HF3
  obtain ⟨Ab, cb, Af, cf, bs, fs, hFb, _⟩ := HF4.out.ex
  obtain ⟨Ab2, cb2, Af2, cf2, bs2, fs2, hFk, _⟩ := HK4.out.ex
  have HFb := Lib.hid hFb
  have HFk := Lib.hid hFk
  have r1 := Lib.hid (rowsC_any g _ _ _ _ Ab _ cb _ w4 hFb)
  have r2 := Lib.hid (blocksC_any g _ _ _ _ Ab _ cb _ w4 hFb)
  have r3 := Lib.hid (kindC_any g _ _ _ _ Ab _ cb _ w4 hFb)
  have r4 := Lib.hid (keysC_any g _ _ _ _ Ab _ cb _ w4 hFb)
  have r5 := Lib.hid (keysC_any g2 _ _ _ _ Ab2 _ cb2 _ w4 hFk)
  clear hFb hFk
  go_wp2_with (first
    | (refine r1.out.mono ?_; rintro e w5 ⟨rfl, rfl⟩)
    | (refine r2.out.mono ?_; rintro e w5 ⟨rfl, rfl⟩)
    | (refine r3.out.mono ?_; rintro e w5 ⟨rfl, rfl⟩)
    | (refine r4.out.mono ?_; rintro e w5 ⟨rfl, rfl⟩)
    | (refine r5.out.mono ?_; rintro e w5 ⟨rfl, rfl⟩)
    | fail)
  refine (readC_any g fB15 1 2 w4 HF4.out (openR_ok ex15_bu ex15_bo) (by decide) (by decide) (by decide)).mono ?_
  intro e w5 hp
  unfold GcPost at hp
  rw [ex15_r] at hp
  obtain ⟨rs, A5, c5, rfl, hv5, ho5, ht5, he5⟩ := hp
  have hl5 : rs.length = 2 := by have := congrArg List.length hv5; simpa using this
  have hrx := ans_rdX hv5 hl5 (fun v hv => by
    simp at hv
    rcases hv with rfl | rfl
    all_goals exact ⟨(by intro x hx; cases hx), by decide, by decide, by decide⟩) ho5 (fun f hf => (ht5.1 f hf).rd)
  obtain ⟨b5, o5, hA5, hb5, hcl⟩ := hrx.at (by decide)
  subst hA5
  have hf1 : rs[1]? = some rs[1] := List.getElem?_eq_getElem (by omega)
  have hv1 : rs[1].val = (false, 9, []) := by
    have h1 : (rs.map Ci.val)[1]? = some (false, 9, []) := by rw [hv5]; rfl
    rw [List.getElem?_map, hf1] at h1
    simpa using h1
  have k1 := (hcl 1 _ hf1).2
  have e1 : rs[1].num = 9 := congrArg (fun v : Cv => v.2.1) hv1
  rw [e1] at k1
  simp only [Nat.one_mul] at k1
  have Hk1 := Lib.hid k1
  have Hb5 := Lib.hid hb5
  have HK5 := Lib.hid (HK4.out.ext he5)
  have hE5 := hE4.trans he5
  simp only [List.length_cons, List.length_nil, Nat.zero_add, Nat.reduceAdd]
  clear hv5 ho5 ht5 hl5 hrx hcl hf1 hv1 k1 e1 he5 hE4 hb5 r1 r2 r3 r4 r5 HFb HFk HF4 HK4
  go_wp2_with fail
  refine (seekC_any g2 fK15 _ 1 1 [99] _ (HK5.out.ext (hE _ _)) (openR_ok ex15_ku ex15_ko) (Rd.mark_at .u8 5 _ w5 [99] rfl rfl) (by decide)).mono ?_
  intro e w6 hp
  unfold SeekPost at hp
  rw [ex15_s1] at hp
  obtain ⟨rfl, he6⟩ := hp
  have hE56 : Ext w5 w6 := (hE _ _).trans he6
  have HK6 := Lib.hid (HK5.out.ext hE56)
  simp only
  clear he6 HK5
  go_wp2_with fail
  refine (seekC_any g2 fK15 _ 1 1 [100] _ (HK6.out.ext (hE _ _)) (openR_ok ex15_ku ex15_ko) (Rd.mark_at .u8 5 _ w6 [100] rfl rfl) (by decide)).mono ?_
  intro e w7 hp
  unfold SeekPost at hp
  rw [ex15_s2] at hp
  obtain ⟨rfl, he7⟩ := hp
  have hE57 : Ext w5 w7 := hE56.trans ((hE _ _).trans he7)
  have k7 : w7.cell? ⟨b5, o5 + 3 + 1, none⟩ = some (.int .i64 9) := (hE57.cells b5 _ Hb5.out).trans Hk1.out
  have hEf := hE5.trans hE57
  simp only
  clear he7 HK6 hE56 hE57 hE5
  go_wp2_with fail
  go_ret
  exact ⟨rfl, hEf⟩
theorem FilR.c {w : World} {g : Nat} {f : FlM} (h : FilR w g f) : ∃ Ab cb vf, ∀ q, FilC (w.drewN q) g (f.k : Int) f.ks (f.rows : Int) (f.per : Int) (.slice Ab f.bs.length cb) vf := by
  obtain ⟨Ab, cb, Af, cf, bs, fs, hF, _⟩ := h.ex
  exact ⟨Ab, cb, _, fun q => hF.grownR (Ext.toGrown ((Ext.refl w).drewN q) none) (by simp)⟩
theorem keys_bad {per : Int} {ss : List Sl} (h0 : (keysR per ss).2 ≠ 0) : (keysR per ss).1 = [] := by
  unfold keysR at h0 ⊢
  split
  · rfl
  · rename_i q
    rw [if_neg q] at h0
    exact bld_bad h0
theorem fs_key {p : Nat} {ss : List Sl} {i : Nat} (hi : i < cntC p (ss.map keyCi)) : (fileC 8 true p (ss.map keyCi)).fs.getD i [] = (bodies ss).getD (i * p) [] := by
  rw [fileC_fs hi]
  unfold frsC
  rw [List.map_map]
  rfl
theorem open_keys {per : Int} {ss : List Sl} (hu : ∀ s ∈ ss, U8 s.body) (h : (keysR per ss).2 = 0) :
    ∃ p : Nat, per = (p : Int) ∧ 1 ≤ p ∧ p ≤ 4096 ∧ ss.length ≤ 4096 ∧ riseP (bodies ss) ss.length ∧ openR (keysR per ss).1 = some (fileC 8 true p (ss.map keyCi)) ∧ U8 (keysR per ss).1 ∧ (keysR per ss).1.length ≤ 1048576 ∧ (∀ i, i < cntC p (ss.map keyCi) → (bstC 8 p (ss.map keyCi) i).2 = 0) ∧ FlB (fileC 8 true p (ss.map keyCi)) ∧ writeR (fileC 8 true p (ss.map keyCi)) = ((keysR per ss).1, 0) := by
  unfold keysR at h ⊢
  split at h
  · exact absurd h (by decide)
  rename_i hg
  have hp : perK per = true := by
    cases hp : perK per with
    | true => rfl
    | false => exact absurd (.inl hp) hg
  have hr : riseP (bodies ss) ss.length := Decidable.not_not.1 (fun q => hg (.inr q))
  have hp2 : 1 ≤ per ∧ per ≤ 4096 := of_decide_eq_true hp
  rw [if_neg hg]
  obtain ⟨p, rfl⟩ := Int.eq_ofNat_of_zero_le (show 0 ≤ per by omega)
  rw [Int.toNat_natCast] at h ⊢
  obtain ⟨h1, h2, h3⟩ := bld_good h
  have hxl : (ss.map keyCi).length = ss.length := List.length_map ..
  have hx : R64s ((ss.map keyCi).map Ci.num) := fun v hv => by
    obtain ⟨x, hx, rfl⟩ := List.mem_map.1 hv
    obtain ⟨s, _, rfl⟩ := List.mem_map.1 hx
    show R64 0
    unfold R64
    decide
  have hu8 : ∀ x ∈ ss.map keyCi, U8 x.txt := fun x hx => by
    obtain ⟨s, hs, rfl⟩ := List.mem_map.1 hx
    exact hu s hs
  have hok : FlB (fileC 8 true p (ss.map keyCi)) := fileC_ok (by decide) (by omega) h1 hx hu8 h2
  have hw : writeR (fileC 8 true p (ss.map keyCi)) = ((bldR 8 true p (ss.map keyCi)).1, 0) := by rw [← h3, ← h]
  have hfl : (fileC 8 true p (ss.map keyCi)).fs.length = cntC p (ss.map keyCi) := by show ((List.range _).map _).length = _; rw [List.length_map, List.length_range]
  have hrs : riseP (fileC 8 true p (ss.map keyCi)).fs (fileC 8 true p (ss.map keyCi)).fs.length := fun i hi => by
    rw [hfl] at hi
    rcases Nat.eq_zero_or_pos i with q | q
    · exact .inl q
    · right
      rw [fs_key hi, fs_key (show i - 1 < _ by omega)]
      have hlt := chunk_lt (n := ss.length) (by omega : 1 ≤ p) (by unfold cntC; rw [hxl]) hi
      exact rise_all hr (Nat.mul_lt_mul_of_pos_right (by omega) (by omega)) hlt
  have ho := open_file hok (by show ((!true || decide (((8 : Nat) : Int) = 8)) && kindK 8 && perK (p : Int)) = true; rw [hp]; decide) (by show ((List.range _).map _).length = _; rw [List.length_map, List.length_range]; rfl)
    hrs (fun q => Bool.noConfusion (show true = false from q)) hw
  exact ⟨p, rfl, by omega, by omega, by rw [← hxl]; exact h1, hr, ho.1, ho.2.1, ho.2.2, h2, hok, hw⟩
theorem cfs_bad (per : Int) (A : Option Addr) (n c : Nat) (ss : List Sl) (A2 : Option Addr) (n2 c2 : Nat) (_key : List Nat) (w : World) (hx : TxL w A n ss) (hn : n ≤ 4398046511104) (hlen : ∀ s ∈ ss, s.body.length ≤ 140737488351232) (h0 : (keysR per ss).2 ≠ 0) :
    Calls Tryz.prog 6 #[.int .i64 per, .slice A n c, .slice A2 n2 c2] w fun e w' => e = .returned (.bool true) ∧ Ext w w' := by
  have HB := Lib.hid (fun W (hW : Ext w W) => pkeys_any per A n c ss W (hx.ext hW) hn hlen)
  have HF := Lib.hid (fun W (hW : Ext w W) => refKeys_any per A n c ss W (hx.ext hW) hn hlen)
  have hP0 := keys_bad h0
  obtain ⟨F, hF⟩ : ∃ F, F = (keysR per ss).2 := ⟨_, rfl⟩
  unfold PEncPost at HB HF
  rw [← hF] at HB HF h0
  rw [hP0] at HB HF
  simp only [List.length_nil] at HB HF
  have k1 : (F == F) = true := by simp
  have k2 : (F != 0) = true := by simp [h0]
  clear hP0 hF hx hn h0 hlen
  go_enter Tryz.func6, Tryz.ntmps6
  go_wp2_with fail
  refine (alive15 _).mono ?_
  rintro e w1 ⟨rfl, he1⟩
  go_wp2_with fail
  refine (HB.out _ he1).mono ?_
  rintro e w2 ⟨A2, c2, rfl, ho2, he2⟩
  have hE2 := he1.trans he2
  go_wp2_with fail
  refine (HF.out _ hE2).mono ?_
  rintro e w3 ⟨A3, c3, rfl, ho3, he3⟩
  have hE3 := hE2.trans he3
  clear ho2 ho3
  go_wp2_with fail
  go_ret
  exact ⟨rfl, hE3⟩
set_option maxHeartbeats 6400000 in
theorem walk_CfileSeeks (per : Int) (A : Option Addr) (n c : Nat) (ss : List Sl) (A2 : Option Addr) (n2 c2 : Nat) (key : List Nat) (w : World) (hx : TxL w A n ss) (hn : n ≤ 1048576) (hlen : ∀ s ∈ ss, s.body.length ≤ 140737488351232) (hy : Rd .u8 w A2 n2 key) (hu2 : U8 key) (hn2 : n2 * 1 ≤ 140737488351232) :
    Calls Tryz.prog 6 #[.int .i64 per, .slice A n c, .slice A2 n2 c2] w fun e w' => e = .returned (.bool true) ∧ Ext w w' := by
  by_cases h0 : (keysR per ss).2 = 0
  rotate_left
  · exact cfs_bad per A n c ss A2 n2 c2 key w hx (by omega) hlen h0
  have hu : ∀ s ∈ ss, U8 s.body := fun s hs => (hx.2 s hs).u8
  obtain ⟨p, rfl, hp1, hp2, hl4, hr, ho, huB, hbl, hgood, _, _⟩ := open_keys hu h0
  have hl := hx.len
  have HB := Lib.hid (fun W (hW : Ext w W) => pkeys_any p A n c ss W (hx.ext hW) (by omega) hlen)
  unfold PEncPost at HB
  rw [h0] at HB
  obtain ⟨B, hB⟩ : ∃ B, B = (keysR p ss).1 := ⟨_, rfl⟩
  rw [← hB] at HB ho huB hbl
  obtain ⟨nB, hnB⟩ : ∃ n, n = B.length := ⟨_, rfl⟩
  rw [← hnB] at HB hbl
  have HnB := Lib.hid hnB.symm
  have HO := Lib.hid (fun W A' c' (hr : Rd .u8 W A' nB B) hs (h1 : nB ≤ c') (h2 : c' ≤ 9223372036854775807) => openC_any A' nB c' B W hr huB hs (by omega) h1 h2)
  have Ho := Lib.hid ho
  have hok := openR_ok huB ho
  obtain ⟨at_, is, hsk, hpl⟩ := seek_built (key := key) hp1 hu hr hgood
  have HSk := Lib.hid (fun W g (hf : FilR W g (fileC 8 true p (ss.map keyCi))) (hW : Ext w W) => seekC_any g (fileC 8 true p (ss.map keyCi)) A2 n2 c2 key W hf hok (hy.ext hW) hu2)
  rw [hsk] at HSk
  unfold SeekPost at HSk
  have hmem := hpl.mem hr
  have hple := hpl.le
  rw [hl] at hple hmem hr
  have Hpl := Lib.hid hpl
  have Hmem := Lib.hid hmem
  have HFc := Lib.hid (fun W g (hf : FilR W g (fileC 8 true p (ss.map keyCi))) => (show ∃ (q : Nat) (Ab : Option Addr) (cb : Nat) (vf : Value), FilC W g 8 true (n : Int) (p : Int) (.slice Ab q cb) vf from by
    obtain ⟨Ab, cb, vf, h⟩ := hf.c
    have e1 : (fileC 8 true p (ss.map keyCi)).rows = n := by rw [← hl]; exact List.length_map ..
    have := h 0
    rw [e1] at this
    exact ⟨_, Ab, cb, vf, this⟩))
  have Hx := Lib.hid hx
  have Hl := Lib.hid hl
  have Hlen := Lib.hid hlen
  have Hy := Lib.hid hy
  have hn4 : n ≤ 4096 := by omega
  obtain ⟨f, hf⟩ : ∃ f, f = fileC 8 true p (ss.map keyCi) := ⟨_, rfl⟩
  rw [← hf] at HSk HFc Ho
  obtain ⟨T, hT⟩ : ∃ T, T = bodies ss := ⟨_, rfl⟩
  rw [← hT] at Hpl Hmem
  have HT := Lib.hid hT
  have hat1 : ¬ (at_ : Int) < 0 := by omega
  have hat2 : ¬ (n : Int) < (at_ : Int) := by omega
  have hat4 : decide (n < at_) = false := decide_eq_false (by omega)
  have hat5 : decide ((n : Int) < (at_ : Int)) = false := decide_eq_false hat2
  clear hat2
  have hat3 : decide ((at_ : Int) < 0) = false := decide_eq_false hat1
  clear hat1
  clear h0 hB hnB ho huB hok hsk hpl hmem hr hx hy hlen hu hgood hf hT hn hl hl4 hple
  go_enter Tryz.func6, Tryz.ntmps6
  go_wp2_with fail
  refine (alive15 _).mono ?_
  rintro e w1 ⟨rfl, he1⟩
  go_wp2_with fail
  refine (HB.out _ he1).mono ?_
  rintro e w2 ⟨A3, c3, rfl, ho2, he2⟩
  have hE2 := he1.trans he2
  have hcp2 := ho2.cap
  rw [HnB.out] at hcp2
  have hop := HO.out w2 A3 c3 (ho2.rd' HnB.out) ho2.shape hcp2.1 hcp2.2
  clear ho2 hcp2
  go_wp2_with fail
  refine hop.mono ?_
  intro e w3 hp
  obtain ⟨g, rfl, hf, he3⟩ := hp.some Ho.out
  have hE3 := hE2.trans he3
  have hfr := hf.rd
  obtain ⟨q, Ab, cb, vf, hFq⟩ := HFc.out w3 g hfr
  have hsk := HSk.out w3 g hfr hE3
  have r1 := keysC_any g _ _ _ _ Ab _ cb _ w3 hFq
  have r2 := rowsC_any g _ _ _ _ Ab _ cb _ w3 hFq
  clear hp hf hop
  go_wp2_with (first
    | (refine r1.mono ?_; rintro e w5 ⟨rfl, rfl⟩)
    | (refine r2.mono ?_; rintro e w5 ⟨rfl, rfl⟩)
    | fail)
  refine hsk.mono ?_
  rintro e w4 ⟨rfl, he4⟩
  have hE4 := Lib.hid (hE3.trans he4)
  have HB0 := Lib.hid (show (false = true) ↔ ∃ i, i < 0 ∧ T.getD i [] = key from ⟨fun z => (by cases z), fun ⟨i, hi, _⟩ => absurd hi (Nat.not_lt_zero _)⟩)
  clear hsk hFq hfr hE3 he4 r1 r2
  go_wp2_with fail
  go_loopw [16, 17, 18, 87] (fun bv _ _ iv wr => ∃ (j : Nat) (b : Bool), j ≤ n ∧ iv = .int .i64 (j : Int) ∧ bv = .bool b ∧ Hid ((b = true) ↔ ∃ i, i < j ∧ T.getD i [] = key) ∧ Hid (Ext w wr)) (fun _ _ _ iv _ => n - (intOf iv).toNat)
  case atStart => exact ⟨0, false, Nat.zero_le _, rfl, rfl, HB0.out, hE4.out⟩
  case round =>
    clear HB0
    obtain ⟨j, b, hj, rfl, rfl, HI, HE⟩ := hrel
    by_cases hlt : j < n
    · obtain ⟨bk, o, s, rfl, hfs, hcs⟩ := (Hx.out.1.ext HE.out).at_ hlt
      have hsm := List.mem_of_getElem? hfs
      have hrd := ((Hx.out.2 s hsm).ext HE.out).rd
      have hln := Hlen.out s hsm
      have hTj : T.getD j [] = s.body := by rw [HT.out, List.getD_eq_getElem?_getD, bodies_at hfs]; rfl
      obtain ⟨sA, sc, body⟩ := s
      have hcs : wr.cell? ⟨bk, o + j, none⟩ = some (.slice sA body.length sc) := hcs
      simp only at hrd hln hTj
      have HOr := Lib.hid (fun W (hW : Ext wr W) => order_any sA A2 body.length sc n2 c2 body key W (hrd.ext hW) (Hy.out.ext (HE.out.trans hW)) (by omega) (by omega))
      have HSm := Lib.hid (fun W (hW : Ext wr W) => same_any sA A2 body.length sc n2 c2 body key W (hrd.ext hW) (Hy.out.ext (HE.out.trans hW)) (by omega) (by omega))
      have hlo : (ordT body key < 0) ↔ j < at_ := by
        rw [← hTj]
        constructor
        · intro h
          rcases Nat.lt_or_ge j at_ with z | z
          · exact z
          · exact absurd h (Hpl.out.ge j z (by rw [Hl.out]; exact hlt))
        · exact Hpl.out.lt j
      obtain ⟨O, hO⟩ : ∃ O, O = ordT body key := ⟨_, rfl⟩
      rw [← hO] at HOr hlo
      obtain ⟨S, hS⟩ : ∃ S, S = decide (body = key) := ⟨_, rfl⟩
      rw [← hS] at HSm
      have HI2 : Hid (((b || S) = true) ↔ ∃ i, i < j + 1 ∧ T.getD i [] = key) := Lib.hid (by
        rw [Bool.or_eq_true, HI.out, hS, decide_eq_true_iff]
        constructor
        · rintro (⟨i, hi, e⟩ | e)
          · exact ⟨i, by omega, e⟩
          · exact ⟨j, by omega, by rw [hTj]; exact e⟩
        · rintro ⟨i, hi, e⟩
          rcases Nat.lt_or_eq_of_le (Nat.le_of_lt_succ hi) with z | z
          · exact .inl ⟨i, z, e⟩
          · right
            rw [z, hTj] at e
            exact e)
      have hjI : (j : Int) < (n : Int) := by omega
      have hsel : ∃ X : Bool, decide (O < 0) = X ∧ decide ((j : Int) < (at_ : Int)) = X := by
        by_cases z : j < at_
        · exact ⟨true, decide_eq_true (hlo.2 z), decide_eq_true (by omega)⟩
        · exact ⟨false, decide_eq_false (fun y => z (hlo.1 y)), decide_eq_false (by omega)⟩
      clear hO hS hlo hTj hrd hfs hsm HI
      obtain ⟨X, d1, d2⟩ := hsel
      have hxx : (X != X) = false := by cases X <;> rfl
      have hxy : ((!X) == X) = false := by cases X <;> rfl
      have d3 : decide (j < at_) = X := by rw [← d2]; by_cases z : j < at_ <;> simp [z]
      · cases b with
        | true =>
          rw [Bool.true_or] at HI2
          go_wp2_with fail
          refine (HOr.out _ (Ext.refl _)).mono ?_
          rintro e w6 ⟨rfl, q6, rfl⟩
          have hE6 : Ext wr (wr.drewN q6) := (Ext.refl _).drewN _
          have hE6' := HE.out.trans hE6
          go_wp2_with fail
          go_roundw
          case rel => exact ⟨j + 1, true, by omega, by go_num, rfl, ⟨fun _ => (by have := HI2.out; first | exact this.1 rfl | exact this.1 trivial | simpa using this), fun _ => rfl⟩, hE6'⟩
          case measure => simp [intOf]; omega
        | false =>
          rw [Bool.false_or] at HI2
          go_wp2_with fail
          refine (HOr.out _ (Ext.refl _)).mono ?_
          rintro e w6 ⟨rfl, q6, rfl⟩
          have hE6 : Ext wr (wr.drewN q6) := (Ext.refl _).drewN _
          go_wp2_with fail
          refine (HSm.out _ hE6).mono ?_
          rintro e w7 ⟨rfl, q7, rfl⟩
          have hE7 : Ext w (wr.drewN (q6 + q7)) := HE.out.trans ((Ext.refl _).drewN _)
          go_wp2_with fail
          go_roundw
          case rel => exact ⟨j + 1, S, by omega, by go_num, rfl, HI2.out, hE7⟩
          case measure => simp [intOf]; omega
    · obtain rfl : j = n := by omega
      have hbi : is = b := by
        have h1 := Hmem.out.trans HI.out.symm
        cases is <;> cases b <;> simp at h1 ⊢
      subst hbi
      have hbb : (is == is) = true := by simp
      have hjI : ¬ (j : Int) < (j : Int) := by omega
      go_wp2_with fail
      go_ret
      exact ⟨by simp, HE.out⟩
end Go.Proofs.YthibbgmicmfkfaaGreat
