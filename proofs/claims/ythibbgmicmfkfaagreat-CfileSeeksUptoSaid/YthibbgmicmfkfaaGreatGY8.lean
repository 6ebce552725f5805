import Derived.Test.YthibbgmicmfkfaaGreatGY7
namespace Go.Proofs.YthibbgmicmfkfaaGreat
def wfor (n : Nat) : Nat := if n = 0 then 0 else bl (n - 1)
theorem wfor_le {n : Nat} (h : n ≤ 4096) : wfor n ≤ 12 := by
  unfold wfor
  split
  · omega
  · exact bl_le.2 (by have : (2 : Nat) ^ 12 = 4096 := by decide
                      omega)
theorem wfor_wd {n : Nat} {us : List Nat} (h : ∀ u ∈ us, u < n) : Wd (wfor n) us := by
  intro u hu
  have h1 := h u hu
  unfold wfor
  rw [if_neg (by omega)]
  have h2 := bl_le.1 (Nat.le_refl (bl (n - 1)))
  omega
def entB (L : List (List Nat)) : List Nat := (L.map fun s => vput s.length ++ s).flatten
theorem entB_cons (s : List Nat) (r : List (List Nat)) : entB (s :: r) = vput s.length ++ (s ++ entB r) := by simp [entB]
theorem entB_step {L : List (List Nat)} {j : Nat} {s : List Nat} (h : L[j]? = some s) : entB (L.drop j) = vput s.length ++ (s ++ entB (L.drop (j + 1))) := by
  obtain ⟨h1, rfl⟩ := List.getElem?_eq_some_iff.1 h
  rw [List.drop_eq_getElem_cons h1, entB_cons]
theorem entB_len : ∀ (L : List (List Nat)), (∀ s ∈ L, s.length ≤ 200) → (entB L).length ≤ 210 * L.length
  | [], _ => by simp [entB]
  | s :: r, h => by
    have h1 := h s (by simp)
    have h2 := vput_le (u := s.length) (by omega)
    have h3 := entB_len r (fun x hx => h x (by simp [hx]))
    rw [entB_cons, List.length_append, List.length_append, List.length_cons]
    omega
theorem entB_u8 : ∀ (L : List (List Nat)), (∀ s ∈ L, U8 s) → U8 (entB L)
  | [], _ => by intro v hv; cases hv
  | s :: r, h => by
    intro v hv
    rw [entB_cons] at hv
    rcases List.mem_append.1 hv with hv | hv
    · exact vput_u8 _ v hv
    · rcases List.mem_append.1 hv with hv | hv
      · exact h s (by simp) v hv
      · exact entB_u8 r (fun x hx => h x (by simp [hx])) v hv
def dencW (L : List (List Nat)) (ns : List Nat) : List Nat := (vput L.length ++ entB L) ++ (vput ns.length ++ packB (wfor L.length) ns)
def dcodes (ss : List (List Nat)) : List Nat := ss.map fun s => skN s (dents ss)
def denc (ss : List (List Nat)) : List Nat := dencW (dents ss) (dcodes ss)
def dencR (ss : List (List Nat)) : List Nat × Int := if 4096 < ss.length ∨ anyLong ss = true then ([], 4) else (denc ss, 0)
theorem dencR_bad {ss : List (List Nat)} (h : 4096 < ss.length ∨ anyLong ss = true) : dencR ss = ([], 4) := if_pos h
theorem dencR_good {ss : List (List Nat)} (h : ss.length ≤ 4096) (h2 : anyLong ss = false) : dencR ss = (denc ss, 0) := if_neg (fun q => by
  rcases q with q | q
  · omega
  · rw [h2] at q; cases q)
theorem dcodes_len (ss : List (List Nat)) : (dcodes ss).length = ss.length := List.length_map ..
theorem dcodes_lt {ss : List (List Nat)} : ∀ u ∈ dcodes ss, u < (dents ss).length := by
  intro u hu
  obtain ⟨s, hs, rfl⟩ := List.mem_map.1 hu
  exact (List.getElem?_eq_some_iff.1 (skN_at (dents_asc ss) (dents_mem.2 hs))).1
theorem packB_len {wd : Nat} {vs : List Nat} : (packB wd vs).length = (wd * vs.length + 7) / 8 := upk_len ..
theorem denc_len {ss : List (List Nat)} (hn : ss.length ≤ 4096) (h : anyLong ss = false) : (denc ss).length ≤ 1000000 := by
  have h1 := dents_len ss.length ss rfl
  have h2 := entB_len (dents ss) (fun x hx => anyLong_no h x (dents_mem.1 hx))
  have h3 := vput_le (u := (dents ss).length) (by omega)
  have h4 := vput_le (u := (dcodes ss).length) (by rw [dcodes_len]; omega)
  have h5 := wfor_le (n := (dents ss).length) (by omega)
  have h6 : wfor (dents ss).length * (dcodes ss).length ≤ 12 * 4096 := Nat.mul_le_mul h5 (by rw [dcodes_len]; exact hn)
  unfold denc dencW
  rw [List.length_append, List.length_append, List.length_append, packB_len]
  omega
theorem denc_u8 {ss : List (List Nat)} (h : ∀ s ∈ ss, U8 s) : U8 (denc ss) := by
  intro v hv
  unfold denc dencW at hv
  rcases List.mem_append.1 hv with hv | hv
  · rcases List.mem_append.1 hv with hv | hv
    · exact vput_u8 _ v hv
    · exact entB_u8 _ (fun x hx => h x (dents_mem.1 hx)) v hv
  · rcases List.mem_append.1 hv with hv | hv
    · exact vput_u8 _ v hv
    · exact packB_u8 _ _ v hv
theorem pack_good {L : List (List Nat)} {ns : List Nat} (hL : L.length ≤ 4096) (hn : ns.length ≤ 4096) (h : ∀ u ∈ ns, u < L.length) : packE (wfor L.length : Int) ns = 0 ∧ packL (wfor L.length : Int) ns = packB (wfor L.length) ns := by
  have h1 := wfor_le hL
  have h2 := wdt_le.2 (wfor_wd h)
  have hE : packE (wfor L.length : Int) ns = 0 := packE_ok (by omega) (by omega) (by omega)
  refine ⟨hE, ?_⟩
  unfold packL
  rw [if_pos hE, Int.toNat_natCast]
def dtx (bs : List Nat) (a : Int) : List Nat × Int × Int :=
  if (vget bs a).2.2 ≠ 0 then ([], 0, (vget bs a).2.2) else if 200 < (vget bs a).1 then ([], 0, 4) else
  if (bs.length : Int) - (vget bs a).2.1 < (vget bs a).1 then ([], 0, 2) else (cut bs (vget bs a).2.1.toNat (vget bs a).1, (vget bs a).2.1 + ((vget bs a).1 : Int), 0)
section
variable {bs : List Nat} {a n e : Int} {k : Nat}
theorem dtx_err (h : vget bs a = (k, n, e)) (he : e ≠ 0) : dtx bs a = ([], 0, e) := by unfold dtx; rw [h]; exact if_pos he
theorem dtx_long (h : vget bs a = (k, n, 0)) (hk : 200 < k) : dtx bs a = ([], 0, 4) := by unfold dtx; rw [h, if_neg (fun q => q rfl), if_pos hk]
theorem dtx_short (h : vget bs a = (k, n, 0)) (hk : k ≤ 200) (hs : (bs.length : Int) - n < k) : dtx bs a = ([], 0, 2) := by
  unfold dtx; rw [h, if_neg (fun q => q rfl), if_neg (by simp only; omega), if_pos hs]
theorem dtx_yes (h : vget bs a = (k, n, 0)) (hk : k ≤ 200) (hs : (k : Int) ≤ (bs.length : Int) - n) : dtx bs a = (cut bs n.toNat k, n + (k : Int), 0) := by
  unfold dtx; rw [h, if_neg (fun q => q rfl), if_neg (by simp only; omega), if_neg (by simp only; omega)]
end
theorem dtx_ok {bs s : List Nat} {a n : Int} (hb : U8 bs) (h : dtx bs a = (s, n, 0)) : 0 ≤ a ∧ a ≤ n ∧ n ≤ bs.length ∧ s.length ≤ 200 ∧ U8 s ∧ vput s.length ++ s = (bs.drop a.toNat).take (n.toNat - a.toNat) := by
  rcases h1 : vget bs a with ⟨k, n1, e1⟩
  by_cases g1 : e1 = 0
  · subst g1
    by_cases hk : 200 < k
    · rw [dtx_long h1 hk] at h; injection h with _ h; injection h with _ h; exact absurd h (by decide)
    · by_cases hs : (bs.length : Int) - n1 < k
      · rw [dtx_short h1 (by omega) hs] at h; injection h with _ h; injection h with _ h; exact absurd h (by decide)
      · rw [dtx_yes h1 (by omega) (by omega)] at h
        injection h with hs1 h
        injection h with hn1 _
        obtain ⟨a1, a2, a3, a4, a5⟩ := vget_at hb h1
        have hcl : (cut bs n1.toNat k).length = k := cut_len (by omega)
        subst hs1
        refine ⟨a1, by omega, by omega, by omega, cut_u8 hb _ _, ?_⟩
        rw [hcl, a5, ← hn1]
        unfold cut
        have e1 : n1.toNat = a.toNat + (n1.toNat - a.toNat) := by omega
        have e3 : (n1 + (k : Int)).toNat - a.toNat = (n1.toNat - a.toNat) + k := by omega
        rw [e3, List.take_add, List.drop_drop, ← e1]
  · rw [dtx_err h1 g1] at h; injection h with _ h; injection h with _ h; exact absurd h g1
theorem dtx_put (pre s post : List Nat) (hs : s.length ≤ 200) : dtx (pre ++ (vput s.length ++ (s ++ post))) (pre.length : Int) = (s, (pre.length : Int) + ((vput s.length ++ s).length : Int), 0) := by
  have g1 : vget (pre ++ (vput s.length ++ (s ++ post))) (pre.length : Int) = (s.length, (pre.length : Int) + (vsize s.length : Int), 0) := by
    refine vget_ok (by simp) ?_
    rw [List.drop_append_of_le_length (Nat.le_refl _), List.drop_length, List.nil_append]
    exact vgetF_vput (by omega) _
  have hcut : cut (pre ++ (vput s.length ++ (s ++ post))) ((pre.length : Int) + (vsize s.length : Int)).toNat s.length = s := by
    have e2 : ((pre.length : Int) + (vsize s.length : Int)).toNat = (pre ++ vput s.length).length := by rw [List.length_append, vput_len]; omega
    unfold cut
    rw [← List.append_assoc, e2, List.drop_append_of_le_length (Nat.le_refl _), List.drop_length, List.nil_append, List.take_append_of_le_length (Nat.le_refl _), List.take_length]
  rw [dtx_yes g1 hs (by simp only [List.length_append, vput_len]; omega), hcut, List.length_append, vput_len]
  simp only [Prod.mk.injEq, true_and, and_true]
  omega
def dnA (bs : List Nat) : Nat → Int → List (List Nat) → List (List Nat) × Int × Int
  | 0, a, acc => (acc, a, 0)
  | n + 1, a, acc => if (dtx bs a).2.2 ≠ 0 then ([], 0, (dtx bs a).2.2) else if 0 < acc.length ∧ 0 ≤ ordT (acc.getD (acc.length - 1) []) (dtx bs a).1 then ([], 0, 5) else dnA bs n (dtx bs a).2.1 (acc ++ [(dtx bs a).1])
section
variable {bs s : List Nat} {n : Nat} {a m e : Int} {acc : List (List Nat)}
theorem dnA_err (h : dtx bs a = (s, m, e)) (he : e ≠ 0) : dnA bs (n + 1) a acc = ([], 0, e) := by rw [dnA, h]; exact if_pos he
theorem dnA_form (h : dtx bs a = (s, m, 0)) (ho : 0 < acc.length ∧ 0 ≤ ordT (acc.getD (acc.length - 1) []) s) : dnA bs (n + 1) a acc = ([], 0, 5) := by rw [dnA, h, if_neg (fun q => q rfl)]; exact if_pos ho
theorem dnA_next (h : dtx bs a = (s, m, 0)) (ho : ¬ (0 < acc.length ∧ 0 ≤ ordT (acc.getD (acc.length - 1) []) s)) : dnA bs (n + 1) a acc = dnA bs n m (acc ++ [s]) := by rw [dnA, h, if_neg (fun q => q rfl)]; exact if_neg ho
end
theorem asc_snoc {acc : List (List Nat)} {s : List Nat} (h : Asc acc) (ho : ¬ (0 < acc.length ∧ 0 ≤ ordT (acc.getD (acc.length - 1) []) s)) : Asc (acc ++ [s]) := by
  refine List.pairwise_append.2 ⟨h, by simp, fun x hx y hy => ?_⟩
  simp at hy
  subst hy
  obtain ⟨i, hi⟩ := List.getElem?_of_mem hx
  obtain ⟨q1, e1⟩ := List.getElem?_eq_some_iff.1 hi
  have hl : acc.length - 1 < acc.length := by omega
  have hlast : ordT (acc.getD (acc.length - 1) []) y < 0 := by
    rcases Int.lt_or_le (ordT (acc.getD (acc.length - 1) []) y) 0 with h1 | h1
    · exact h1
    · exact absurd ⟨by omega, h1⟩ ho
  have hg : acc.getD (acc.length - 1) [] = acc[acc.length - 1] := by simp [List.getD, hl]
  rw [hg] at hlast
  by_cases hie : i = acc.length - 1
  · subst hie; rw [← e1]; exact hlast
  · have := List.pairwise_iff_getElem.1 h i (acc.length - 1) q1 hl (by omega)
    rw [e1] at this
    exact ordT_trans this hlast
theorem dnA_ok {bs : List Nat} (hb : U8 bs) : ∀ (n : Nat) {a m : Int} {acc L : List (List Nat)}, Asc acc → 0 ≤ a → a ≤ bs.length → dnA bs n a acc = (L, m, 0) →
    ∃ T, L = acc ++ T ∧ T.length = n ∧ 0 ≤ m ∧ a ≤ m ∧ m ≤ bs.length ∧ entB T = (bs.drop a.toNat).take (m.toNat - a.toNat) ∧ Asc L ∧ ∀ s ∈ T, s.length ≤ 200 ∧ U8 s
  | 0, a, m, acc, L, ha, h0, h1, h => by
    injection h with e1 h
    injection h with e2 _
    subst e1 e2
    exact ⟨[], by simp, rfl, h0, Int.le_refl _, h1, by rw [Nat.sub_self]; rfl, ha, fun s hs => by cases hs⟩
  | n + 1, a, m, acc, L, ha, h0, h1, h => by
    rcases hd : dtx bs a with ⟨s, m1, e⟩
    by_cases he : e = 0
    · subst he
      by_cases ho : 0 < acc.length ∧ 0 ≤ ordT (acc.getD (acc.length - 1) []) s
      · rw [dnA_form hd ho] at h; injection h with _ h; injection h with _ h; exact absurd h (by decide)
      · rw [dnA_next hd ho] at h
        obtain ⟨q1, q2, q3, q4, q5, q6⟩ := dtx_ok hb hd
        obtain ⟨T, r1, r2, r3, r4, r5, r6, r7, r8⟩ := dnA_ok hb n (asc_snoc ha ho) (by omega) q3 h
        refine ⟨s :: T, by rw [r1]; simp, by simp [r2], r3, by omega, r5, ?_, r7, ?_⟩
        · have e2 : m.toNat - a.toNat = (m1.toNat - a.toNat) + (m.toNat - m1.toNat) := by omega
          have e3 : a.toNat + (m1.toNat - a.toNat) = m1.toNat := by omega
          rw [entB_cons, ← List.append_assoc, q6, r6, e2, List.take_add, List.drop_drop, e3]
        · intro x hx
          rcases List.mem_cons.1 hx with rfl | hx
          · exact ⟨q4, q5⟩
          · exact r8 x hx
    · rw [dnA_err hd he] at h; injection h with _ h; injection h with _ h; exact absurd h he
theorem dnA_put : ∀ (T acc : List (List Nat)) (bs hd post : List Nat), (∀ s ∈ T, s.length ≤ 200) → bs = hd ++ (entB T ++ post) → Asc (acc ++ T) → dnA bs T.length (hd.length : Int) acc = (acc ++ T, ((hd ++ entB T).length : Int), 0)
  | [], acc, bs, hd, post, _, _, _ => by
    show (acc, (hd.length : Int), (0 : Int)) = _
    simp [entB]
  | s :: r, acc, bs, hd, post, h, hb, ha => by
    have h1 := dtx_put hd s (entB r ++ post) (h s (by simp))
    have e1 : bs = hd ++ (vput s.length ++ (s ++ (entB r ++ post))) := by rw [hb, entB_cons]; simp
    rw [← e1] at h1
    have ho : ¬ (0 < acc.length ∧ 0 ≤ ordT (acc.getD (acc.length - 1) []) s) := by
      rintro ⟨h2, h3⟩
      have hl : acc.length - 1 < acc.length := by omega
      have hm : acc.getD (acc.length - 1) [] ∈ acc := by simp [List.getD, hl]
      have := (List.pairwise_append.1 ha).2.2 _ hm s (by simp)
      omega
    show dnA bs (r.length + 1) _ acc = _
    rw [dnA_next h1 ho, show (hd.length : Int) + ((vput s.length ++ s).length : Int) = (((hd ++ (vput s.length ++ s)).length : Nat) : Int) from by simp only [List.length_append]; omega,
      dnA_put r (acc ++ [s]) bs (hd ++ (vput s.length ++ s)) post (fun x hx => h x (by simp [hx])) (by rw [e1]; simp) (by rw [List.append_assoc]; exact ha)]
    simp [entB_cons]
def meant (us : List Nat) (n : Nat) : Bool := decide (∀ u ∈ us, u < n) && (List.range n).all fun i => decide (i ∈ us)
theorem meant_iff {us : List Nat} {n : Nat} : meant us n = true ↔ (∀ u ∈ us, u < n) ∧ ∀ i, i < n → i ∈ us := by simp [meant]
def txtsOf (L : List (List Nat)) (us : List Nat) : List (List Nat) := us.map fun u => L.getD u []
def ddec (bs : List Nat) : List (List Nat) × Int :=
  if (vget bs 0).2.2 ≠ 0 then ([], (vget bs 0).2.2) else if 4096 < (vget bs 0).1 then ([], 4) else
  if (dnA bs (vget bs 0).1 (vget bs 0).2.1 []).2.2 ≠ 0 then ([], (dnA bs (vget bs 0).1 (vget bs 0).2.1 []).2.2) else
  ddecB bs (dnA bs (vget bs 0).1 (vget bs 0).2.1 []).1 (dnA bs (vget bs 0).1 (vget bs 0).2.1 []).2.1
where
  ddecB (bs : List Nat) (L : List (List Nat)) (a : Int) : List (List Nat) × Int :=
    if (vget bs a).2.2 ≠ 0 then ([], (vget bs a).2.2) else if 4096 < (vget bs a).1 then ([], 4) else
    ddecC L (bs.drop (vget bs a).2.1.toNat) (vget bs a).1
  ddecC (L : List (List Nat)) (r : List Nat) (n : Nat) : List (List Nat) × Int :=
    if unpE (pk 8 r) r.length (wfor L.length : Int) (n : Int) ≠ 0 then ([], unpE (pk 8 r) r.length (wfor L.length : Int) (n : Int)) else
    if meant (unpL (pk 8 r) r.length (wfor L.length : Int) (n : Int)) L.length = false then ([], 5) else (txtsOf L (unpL (pk 8 r) r.length (wfor L.length : Int) (n : Int)), 0)
theorem ddec_e1 {bs : List Nat} {k : Nat} {n e : Int} (h : vget bs 0 = (k, n, e)) (he : e ≠ 0) : ddec bs = ([], e) := by unfold ddec; rw [h]; exact if_pos he
theorem ddec_long {bs : List Nat} {k : Nat} {n : Int} (h : vget bs 0 = (k, n, 0)) (hk : 4096 < k) : ddec bs = ([], 4) := by unfold ddec; rw [h, if_neg (fun q => q rfl), if_pos hk]
theorem ddec_e2 {bs : List Nat} {k : Nat} {n m e : Int} {L : List (List Nat)} (h : vget bs 0 = (k, n, 0)) (hk : k ≤ 4096) (h2 : dnA bs k n [] = (L, m, e)) (he : e ≠ 0) : ddec bs = ([], e) := by
  unfold ddec; rw [h, if_neg (fun q => q rfl), if_neg (by simp only; omega)]; simp only [h2]; rw [if_pos he]
theorem ddec_go {bs : List Nat} {k : Nat} {n m : Int} {L : List (List Nat)} (h : vget bs 0 = (k, n, 0)) (hk : k ≤ 4096) (h2 : dnA bs k n [] = (L, m, 0)) : ddec bs = ddec.ddecB bs L m := by
  unfold ddec; rw [h, if_neg (fun q => q rfl), if_neg (by simp only; omega)]; simp only [h2]; rw [if_neg (fun q => q rfl)]
section
variable {bs : List Nat} {L : List (List Nat)} {a n e : Int} {k : Nat}
theorem ddecB_err (h : vget bs a = (k, n, e)) (he : e ≠ 0) : ddec.ddecB bs L a = ([], e) := by unfold ddec.ddecB; rw [h]; exact if_pos he
theorem ddecB_long (h : vget bs a = (k, n, 0)) (hk : 4096 < k) : ddec.ddecB bs L a = ([], 4) := by unfold ddec.ddecB; rw [h, if_neg (fun q => q rfl), if_pos hk]
theorem ddecB_go (h : vget bs a = (k, n, 0)) (hk : k ≤ 4096) : ddec.ddecB bs L a = ddec.ddecC L (bs.drop n.toNat) k := by unfold ddec.ddecB; rw [h, if_neg (fun q => q rfl), if_neg (by simp only; omega)]
theorem ddecC_err {r : List Nat} (h : unpE (pk 8 r) r.length (wfor L.length : Int) (k : Int) ≠ 0) : ddec.ddecC L r k = ([], unpE (pk 8 r) r.length (wfor L.length : Int) (k : Int)) := if_pos h
theorem ddecC_form {r us : List Nat} (h : unpE (pk 8 r) r.length (wfor L.length : Int) (k : Int) = 0) (h2 : unpL (pk 8 r) r.length (wfor L.length : Int) (k : Int) = us) (hm : meant us L.length = false) : ddec.ddecC L r k = ([], 5) := by
  unfold ddec.ddecC; rw [if_neg (fun q => q h), h2, if_pos hm]
theorem ddecC_yes {r us : List Nat} (h : unpE (pk 8 r) r.length (wfor L.length : Int) (k : Int) = 0) (h2 : unpL (pk 8 r) r.length (wfor L.length : Int) (k : Int) = us) (hm : meant us L.length = true) : ddec.ddecC L r k = (txtsOf L us, 0) := by
  unfold ddec.ddecC; rw [if_neg (fun q => q h), h2, if_neg (by rw [hm]; decide)]
end
theorem skN_of {L : List (List Nat)} {x : List Nat} {i : Nat} (ha : Asc L) (h : L[i]? = some x) : skN x L = i := by
  have h2 := skN_at ha (List.mem_of_getElem? h)
  obtain ⟨q1, e1⟩ := List.getElem?_eq_some_iff.1 h
  obtain ⟨q2, e2⟩ := List.getElem?_eq_some_iff.1 h2
  rcases Nat.lt_trichotomy (skN x L) i with g | g | g
  · have := List.pairwise_iff_getElem.1 ha _ _ q2 q1 g
    rw [e1, e2, ordT_self] at this; omega
  · exact g
  · have := List.pairwise_iff_getElem.1 ha _ _ q1 q2 g
    rw [e1, e2, ordT_self] at this; omega
theorem ddec_put {ss : List (List Nat)} (hn : ss.length ≤ 4096) (h : anyLong ss = false) : ddec (denc ss) = (ss, 0) := by
  have hL := dents_len ss.length ss rfl
  have hs := dents_short h
  have ha := dents_asc ss
  obtain ⟨L, hLe⟩ : ∃ L, L = dents ss := ⟨_, rfl⟩
  have hns : dcodes ss = ss.map (fun s => skN s L) := by rw [hLe]; rfl
  have hlt : ∀ u ∈ dcodes ss, u < L.length := by rw [hLe]; exact dcodes_lt
  have hcl := dcodes_len ss
  have hmem : ∀ x, x ∈ L ↔ x ∈ ss := fun x => by rw [hLe]; exact dents_mem
  have hden : denc ss = dencW L (dcodes ss) := by rw [hLe]; rfl
  rw [← hLe] at hL hs ha
  obtain ⟨ns, hnse⟩ : ∃ ns, ns = dcodes ss := ⟨_, rfl⟩
  rw [← hnse] at hns hlt hcl hden
  rw [hden]
  have hw : dencW L ns = vput L.length ++ (entB L ++ (vput ns.length ++ packB (wfor L.length) ns)) := by unfold dencW; simp
  have g1 : vget (dencW L ns) 0 = (L.length, (vsize L.length : Int), 0) := by
    have := vget_ok (bs := dencW L ns) (a := 0) (u := L.length) (k := vsize L.length) (Nat.zero_le _) (by
      rw [List.drop_zero, hw]
      exact vgetF_vput (by omega) _)
    simpa using this
  have g2 : dnA (dencW L ns) L.length (vsize L.length : Int) [] = (L, ((vput L.length ++ entB L).length : Int), 0) := by
    have := dnA_put L [] (dencW L ns) (vput L.length) (vput ns.length ++ packB (wfor L.length) ns) hs hw ha
    rw [vput_len] at this
    exact this
  have g3 : vget (dencW L ns) ((vput L.length ++ entB L).length : Int) = (ns.length, ((vput L.length ++ entB L).length : Int) + (vsize ns.length : Int), 0) := by
    refine vget_ok (by unfold dencW; simp only [List.length_append]; omega) ?_
    unfold dencW
    rw [List.drop_append_of_le_length (Nat.le_refl _), List.drop_length, List.nil_append]
    exact vgetF_vput (by omega) _
  have g4 : (dencW L ns).drop (((vput L.length ++ entB L).length : Int) + (vsize ns.length : Int)).toNat = packB (wfor L.length) ns := by
    have e : (((vput L.length ++ entB L).length : Int) + (vsize ns.length : Int)).toNat = ((vput L.length ++ entB L) ++ vput ns.length).length := by simp only [List.length_append, vput_len]; omega
    have e2 : dencW L ns = ((vput L.length ++ entB L) ++ vput ns.length) ++ packB (wfor L.length) ns := by unfold dencW; simp
    rw [e, e2, List.drop_append_of_le_length (Nat.le_refl _), List.drop_length, List.nil_append]
  have hwl := wfor_le (n := L.length) (by omega)
  obtain ⟨u1, u2, _⟩ := unp_pack (wd := wfor L.length) (vs := ns) (by omega) (by omega) (wfor_wd hlt)
  have hm : meant ns L.length = true := meant_iff.2 ⟨hlt, fun i hi => by
    have hi2 : L[i]? = some L[i] := List.getElem?_eq_getElem hi
    rw [hns]
    exact List.mem_map.2 ⟨L[i], (hmem _).1 (List.getElem_mem hi), skN_of ha hi2⟩⟩
  rw [ddec_go g1 (by omega) g2, ddecB_go g3 (by omega), g4, ddecC_yes u1 u2 hm]
  congr 1
  unfold txtsOf
  rw [hns, List.map_map]
  conv => rhs; rw [← List.map_id ss]
  refine List.map_congr_left fun x hx => ?_
  have := skN_at ha ((hmem x).2 hx)
  show L.getD (skN x L) [] = x
  simp [List.getD, this]
theorem ddec_ok {bs : List Nat} {ss : List (List Nat)} (hb : U8 bs) (h : ddec bs = (ss, 0)) : denc ss = bs ∧ ss.length ≤ 4096 ∧ anyLong ss = false ∧ ∀ s ∈ ss, U8 s ∧ s.length ≤ 200 := by
  rcases h1 : vget bs 0 with ⟨k, n, e⟩
  by_cases he : e = 0
  · subst he
    by_cases hk : 4096 < k
    · rw [ddec_long h1 hk] at h; injection h with _ h; exact absurd h (by decide)
    · obtain ⟨a1, a2, a3, a4, a5⟩ := vget_at hb h1
      rcases h2 : dnA bs k n [] with ⟨L, m, e2⟩
      by_cases he2 : e2 = 0
      · subst he2
        rw [ddec_go h1 (by omega) h2] at h
        obtain ⟨T, r1, r2, r3, r4, r5, r6, r7, r8⟩ := dnA_ok hb k (acc := []) List.Pairwise.nil (by omega) a3 h2
        rw [List.nil_append] at r1
        subst r1
        rcases h3 : vget bs m with ⟨k2, n2, e3⟩
        by_cases he3 : e3 = 0
        · subst he3
          by_cases hk2 : 4096 < k2
          · rw [ddecB_long h3 hk2] at h; injection h with _ h; exact absurd h (by decide)
          · obtain ⟨b1, b2, b3, b4, b5⟩ := vget_at hb h3
            rw [ddecB_go h3 (by omega)] at h
            obtain ⟨r, hr⟩ : ∃ r, r = bs.drop n2.toNat := ⟨_, rfl⟩
            rw [← hr] at h
            have hru : U8 r := by rw [hr]; exact u8_drop hb _
            by_cases hu : unpE (pk 8 r) r.length (wfor L.length : Int) (k2 : Int) = 0
            · have hus := unp_ok hu
              rw [Int.toNat_natCast, Int.toNat_natCast] at hus
              obtain ⟨us, huse⟩ : ∃ us, us = upk (wfor L.length) k2 (pk 8 r) := ⟨_, rfl⟩
              rw [← huse] at hus
              have hul : us.length = k2 := by rw [huse]; exact upk_len ..
              cases hm : meant us L.length with
              | false => rw [ddecC_form hu hus hm] at h; injection h with _ h; exact absurd h (by decide)
              | true =>
                rw [ddecC_yes hu hus hm] at h
                injection h with h _
                obtain ⟨m1, m2⟩ := meant_iff.1 hm
                have hget : ∀ u, u < L.length → L[u]? = some (L.getD u []) := fun u hu => by simp [List.getD, hu]
                have hmem : ∀ x, x ∈ ss ↔ x ∈ L := fun x => by
                  rw [← h]
                  unfold txtsOf
                  rw [List.mem_map]
                  constructor
                  · rintro ⟨u, hu, rfl⟩; exact List.mem_of_getElem? (hget u (m1 u hu))
                  · intro hx
                    obtain ⟨i, hi⟩ := List.getElem?_of_mem hx
                    have hil := (List.getElem?_eq_some_iff.1 hi).1
                    refine ⟨i, m2 i hil, ?_⟩
                    have := hget i hil
                    rw [hi] at this
                    injection this with this
                    exact this.symm
                have hd : dents ss = L := Asc.ext (dents_asc ss) r7 (fun x => by rw [dents_mem, hmem])
                have hc : dcodes ss = us := by
                  unfold dcodes
                  rw [hd, ← h]
                  unfold txtsOf
                  rw [List.map_map]
                  conv => rhs; rw [← List.map_id us]
                  refine List.map_congr_left fun u hu => ?_
                  exact skN_of r7 (hget u (m1 u hu))
                have hwl := wfor_le (n := L.length) (by omega)
                have hpk := (pack_unp (wd := wfor L.length) (n := k2) (by omega) (by omega) hru hu).2
                rw [← huse] at hpk
                have hpb : packB (wfor L.length) us = r := by rw [← hpk, (pack_good (by omega) (by omega) m1).2]
                have hlen : ss.length = k2 := by rw [← h]; unfold txtsOf; rw [List.length_map, hul]
                refine ⟨?_, by omega, ?_, fun s hs => ?_⟩
                · unfold denc
                  rw [hd, hc]
                  unfold dencW
                  rw [hul, hpb, r2, a5, r6, b5, hr]
                  have e1 : (0 : Int).toNat = 0 := rfl
                  rw [e1, List.drop_zero, Nat.sub_zero]
                  have e2 : (bs.take n.toNat) ++ ((bs.drop n.toNat).take (m.toNat - n.toNat)) = bs.take m.toNat := by
                    conv => rhs; rw [show m.toNat = n.toNat + (m.toNat - n.toNat) by omega, List.take_add]
                  have e3 : (bs.drop m.toNat).take (n2.toNat - m.toNat) ++ bs.drop n2.toNat = bs.drop m.toNat := by
                    conv => lhs; rhs; rw [show n2.toNat = m.toNat + (n2.toNat - m.toNat) by omega, ← List.drop_drop]
                    rw [List.take_append_drop]
                  rw [e2, e3, List.take_append_drop]
                · cases q : anyLong ss with
                  | false => rfl
                  | true =>
                    obtain ⟨s, hs, hl⟩ := anyLong_iff.1 q
                    have := (r8 s ((hmem s).1 hs)).1
                    omega
                · exact ⟨(r8 s ((hmem s).1 hs)).2, (r8 s ((hmem s).1 hs)).1⟩
            · rw [ddecC_err hu] at h; injection h with _ h; exact absurd h hu
        · rw [ddecB_err h3 he3] at h; injection h with _ h; exact absurd h he3
      · rw [ddec_e2 h1 (by omega) h2 he2] at h; injection h with _ h; exact absurd h he2
  · rw [ddec_e1 h1 he] at h; injection h with _ h; exact absurd h he
open Go.RowKit
set_option maxRecDepth 100000
variable {w w' w0 : World} {base c n : Nat} {A : Option Addr} {ts ss : List Sl}
theorem TxL.all (h : TxL w A n ss) : ∀ s ∈ ss, U8 s.body ∧ s.body.length ≤ 140737488355328 := fun s hs => ⟨(h.each s hs).u8, (h.each s hs).len⟩
theorem isLong11_any (A : Option Addr) (n c : Nat) (w : World) :
    Calls Tryz.prog 182 #[.slice A n c] w fun e w' => e = .returned (.bool (decide (200 < n))) ∧ w' = w := by
  by_cases h : 200 < n
  · rw [decide_eq_true h]
    go_enter Tryz.func182, Tryz.ntmps182
    go_wp2
    go_ret
    exact ⟨by simp <;> omega, rfl⟩
  · rw [decide_eq_false h]
    go_enter Tryz.func182, Tryz.ntmps182
    go_wp2
    go_ret
    exact ⟨by simp <;> omega, rfl⟩
theorem indexLong11_any (A : Option Addr) (n c : Nat) (ss : List Sl) (w : World) (hx : RdL w A n ss) (hn : n ≤ 140737488355328) :
    Calls Tryz.prog 206 #[.slice A n c, .func (.func 182) #[] #[]] w fun e w' => ∃ r : Int, e = .returned (.int .i64 r) ∧ w' = w ∧ decide (0 ≤ r) = anyLong (bodies ss) := by
  have Hl := Lib.hid hx.1
  obtain ⟨R, hR⟩ : ∃ R, R = anyLong (bodies ss) := ⟨_, rfl⟩
  rw [← hR]
  have HR := Lib.hid hR
  clear hR
  go_enter Tryz.func206, Tryz.ntmps206
  go_wp2
  go_loopw [5, 8] (fun _ i wr => ∃ j : Nat, j ≤ n ∧ i = .int .i64 j ∧ wr = w ∧ Hid (anyLong (bodies (ss.take j)) = false)) (fun _ i _ => n - (intOf i).toNat)
  case atStart => exact ⟨0, Nat.zero_le _, rfl, rfl, rfl⟩
  case round =>
    obtain ⟨j, hj, rfl, rfl, HA⟩ := hrel
    by_cases hlt : j < n
    · obtain ⟨b, o, s, rfl, hf, h1⟩ := hx.at_ hlt
      obtain ⟨sA, sc, body⟩ := s
      simp only at h1
      have e0 : bodies (ss.take (j + 1)) = bodies (ss.take j) ++ [body] := by rw [List.take_add_one, hf]; unfold bodies; rw [List.map_append]; rfl
      by_cases hb : 200 < body.length
      · have hfin := Lib.hid (show true = R by rw [HR.out]; exact (anyLong_iff.2 ⟨body, List.mem_map.2 ⟨_, List.mem_of_getElem? hf, rfl⟩, hb⟩).symm)
        clear e0 hf
        obtain ⟨m, hm⟩ : ∃ m, m = body.length := ⟨_, rfl⟩
        rw [← hm] at h1 hb
        clear hm
        have hd : decide (200 < m) = true := decide_eq_true hb
        go_wp2_with (refine (isLong11_any _ _ _ _).mono ?_; rintro e w1 ⟨rfl, rfl⟩; rw [hd])
        go_ret
        exact ⟨_, rfl, rfl, by rw [← hfin.out]; exact decide_eq_true (by omega)⟩
      · have hN := Lib.hid (show anyLong (bodies (ss.take (j + 1))) = false by rw [e0, anyLong, List.any_append]; simp [anyLong] at HA; simp <;> first | omega | (refine ⟨HA.out, by omega⟩))
        clear e0 hf
        obtain ⟨m, hm⟩ : ∃ m, m = body.length := ⟨_, rfl⟩
        rw [← hm] at h1 hb
        clear hm
        have hd : decide (200 < m) = false := decide_eq_false hb
        go_wp2_with (refine (isLong11_any _ _ _ _).mono ?_; rintro e w1 ⟨rfl, rfl⟩; rw [hd])
        go_roundw
        case rel => exact ⟨j + 1, by omega, by go_num, by first | trivial | rfl, hN⟩
        case measure => simp [intOf]; omega
    · obtain rfl : j = n := by omega
      have hfin := Lib.hid (show false = R by rw [HR.out, ← HA.out, List.take_of_length_le (by rw [Hl.out]; exact Nat.le_refl _)])
      go_wp2
      go_ret
      exact ⟨_, rfl, by first | trivial | rfl, by rw [← hfin.out]; rfl⟩
theorem containsLong11_any (A : Option Addr) (n c : Nat) (ss : List Sl) (w : World) (hx : RdL w A n ss) (hn : n ≤ 140737488355328) :
    Calls Tryz.prog 181 #[.slice A n c, .func (.func 182) #[] #[]] w fun e w' => e = .returned (.bool (anyLong (bodies ss))) ∧ w' = w := by
  have H := Lib.hid (indexLong11_any A n c ss w hx hn)
  clear hx
  go_enter Tryz.func181, Tryz.ntmps181
  go_wp2_with fail
  refine H.out.mono ?_
  rintro e w1 ⟨r, rfl, rfl, hr⟩
  have Hr := Lib.hid hr
  clear hr
  go_wp2
  go_ret
  exact ⟨by rw [← Hr.out]; simp, by first | trivial | rfl⟩
theorem isWhole_any (j : Nat) (w : World) (hj : j ≤ 140737488355328) :
    Calls Tryz.prog 183 #[.int .i64 (j : Int)] w fun e w' => e = .returned (.bool (decide (j % 16 = 0))) ∧ w' = w := by
  by_cases h : j % 16 = 0
  · rw [decide_eq_true h]
    have hd : (((j : Int) % 16 : Int) == 0) = true := by rw [beq_iff_eq]; omega
    go_enter Tryz.func183, Tryz.ntmps183
    go_wp2
    go_ret
    exact ⟨by simp <;> omega, rfl⟩
  · rw [decide_eq_false h]
    go_enter Tryz.func183, Tryz.ntmps183
    go_wp2
    go_ret
    exact ⟨by simp <;> omega, rfl⟩
def pencR (ss : List (List Nat)) : List Nat × Int := if 4096 < ss.length ∨ anyLong ss = true then ([], 4) else (penc ss, 0)
theorem pencR_bad {ss : List (List Nat)} (h : 4096 < ss.length ∨ anyLong ss = true) : pencR ss = ([], 4) := if_pos h
theorem pencR_good {ss : List (List Nat)} (h : ss.length ≤ 4096) (h2 : anyLong ss = false) : pencR ss = (penc ss, 0) := if_neg (fun q => by
  rcases q with q | q
  · omega
  · rw [h2] at q; cases q)
def PEncPost (R : List Nat × Int) (w : World) (e : Ending) (w' : World) : Prop :=
  ∃ A' c', e = .returned (.tuple #[.slice A' R.1.length c', .int .i64 R.2]) ∧ Own .u8 5 w' w.heap.size A' c' R.1 ∧ Ext w w'
theorem PEncPost.bad {w w' : World} (R : List Nat × Int) {E : Int} (h : R = ([], E)) (he : Ext w w') : PEncPost R w (.returned (.tuple #[.slice none 0 0, .int .i64 E])) w' := by
  subst h
  exact ⟨none, 0, rfl, Own.nil .., he⟩
theorem PEncPost.good {w w' : World} (R : List Nat × Int) {xs : List Nat} {A : Option Addr} {m c : Nat} (h : R = (xs, 0)) (hm : xs.length = m) (ho : Own .u8 5 w' w.heap.size A c xs) (he : Ext w w') : PEncPost R w (.returned (.tuple #[.slice A m c, .int .i64 0])) w' := by
  subst h
  subst hm
  exact ⟨A, c, rfl, ho, he⟩
theorem wdt_one (v : Nat) : wdt [v] = bl v := by simp [wdt]
theorem widthFor_any (n : Nat) (w : World) (hn : n ≤ 1000000) :
    Calls Tryz.prog 178 #[.int .i64 (n : Int)] w fun e w' => e = .returned (.int .i64 (wfor n)) ∧ Ext w w' := by
  by_cases h : n = 0
  · subst h
    go_enter Tryz.func178, Tryz.ntmps178
    go_wp2
    go_ret
    exact ⟨rfl, Ext.refl w⟩
  · obtain ⟨m, rfl⟩ : ∃ m, n = m + 1 := ⟨n - 1, by omega⟩
    have HW := Lib.hid (show wfor (m + 1) = bl m by unfold wfor; rw [if_neg h, Nat.add_sub_cancel])
    have hz : (((m : Int) + 1) == 0) = false := by rw [beq_eq_false_iff_ne]; omega
    clear h
    go_enter Tryz.func178, Tryz.ntmps178
    go_wp2_with fail
    refine (width_any _ 1 1 [m] _ (Rd.lit_at .u64 69 w [m] rfl rfl) (by intro v hv; simp at hv; omega) (by omega)).mono ?_
    rintro e w1 ⟨rfl, rfl⟩
    rw [wdt_one, ← HW.out]
    go_wp2_with fail
    go_ret
    exact ⟨rfl, (Ext.refl w).alloc _⟩
set_option maxHeartbeats 400000 in
theorem toPack_any (A : Option Addr) (n c : Nat) (ns : List Nat) (w : World) (hx : Rd .i64 w A n ns) (hn : n ≤ 1000000) (hs : ∀ v ∈ ns, v ≤ 1000000) :
    Calls Tryz.prog 179 #[.slice A n c] w fun e w' => ∃ A' c', e = .returned (.slice A' n c') ∧ Own .u64 69 w' w.heap.size A' c' ns ∧ Ext w w' := by
  have hl := hx.len
  have Hl := Lib.hid hl
  clear hl
  go_enter Tryz.func179, Tryz.ntmps179
  go_wp2_with (first | (at_make; refine wpList_mk .u64 69 rfl _ _ 72 rfl 8 Tryz.underlying72 Tryz.infoU64 _ _ n rfl rfl rfl rfl (by omega) (by omega) ?_; intro w7 hown7 he7) | fail)
  have h0 : Own .u64 69 w7 w.heap.size (some ⟨w.heap.size, 0, none⟩) n (ns.take 0 ++ List.replicate (n - 0) 0) := hown7
  have H0 := Lib.hid h0
  have He7 := Lib.hid he7
  clear hown7 h0 he7
  go_loopw [4, 5, 11] (fun _ _ i wr => ∃ q : Nat, q ≤ n ∧ i = .int .i64 q ∧ Hid (Own .u64 69 wr w.heap.size (some ⟨w.heap.size, 0, none⟩) n (ns.take q ++ List.replicate (n - q) 0)) ∧ Hid (Ext w wr)) (fun _ _ i _ => n - (intOf i).toNat)
  case atStart => exact ⟨0, Nat.zero_le _, rfl, H0.out, He7.out⟩
  case round =>
    clear H0 He7
    obtain ⟨q, hq, rfl, HNs, HE5⟩ := hrel
    by_cases hlt2 : q < n
    · obtain ⟨b, o, rfl, hb, hc⟩ := (hx.ext HE5.out).at_ hlt2
      have hvs : ns[q]? = some (ns.getD q 0) := by simp [List.getD, show q < ns.length by rw [Hl.out]; exact hlt2]
      have hv := hs _ (List.mem_of_getElem? hvs)
      obtain ⟨f, hfv⟩ : ∃ f, f = ns.getD q 0 := ⟨_, rfl⟩
      rw [← hfv] at hc hvs hv
      have hlen7 : (ns.take q ++ List.replicate (n - q) 0).length = n := by rw [List.length_append, List.length_take, List.length_replicate, Hl.out]; omega
      obtain ⟨b2, hb2, hbase, hblt, hcell, hfro, hset⟩ := HNs.out.at_ (j := q) (by rw [hlen7]; exact hlt2)
      injection hb2 with hb2
      injection hb2 with hb2
      subst hb2
      obtain ⟨hs1, hs2⟩ := hset f
      have hstep : (ns.take q ++ List.replicate (n - q) 0).set q f = ns.take (q + 1) ++ List.replicate (n - (q + 1)) 0 := by
        have hlq : (ns.take q).length = q := by rw [List.length_take, Hl.out]; omega
        rw [take_nextG ns q hvs, List.set_append_right _ _ (by omega), hlq, Nat.sub_self, show n - q = (n - (q + 1)) + 1 by omega, List.replicate_succ, List.set_cons_zero, List.append_assoc]
        rfl
      rw [hstep] at hs1
      have Hs1 := Lib.hid hs1
      have HE6 := Lib.hid (HE5.out.setCell (p := ⟨w.heap.size, q, none⟩) (Nat.le_refl _) (.int .u64 (f : Int)))
      obtain ⟨old, hold⟩ : ∃ v, v = Value.int .u64 (((ns.take q ++ List.replicate (n - q) 0).getD q 0 : Nat) : Int) := ⟨_, rfl⟩
      rw [← hold] at hcell
      clear hold hs1 hs2 hset hstep hlen7 hvs hfv hbase
      go_wp2_with fail
      go_roundw
      case rel => exact ⟨q + 1, by omega, by go_num, Hs1.out, HE6.out⟩
      case measure => simp [intOf]; omega
    · obtain rfl : n = q := by omega
      have hN2 := HNs.out
      rw [Nat.sub_self, List.replicate_zero, List.append_nil, List.take_of_length_le (by rw [Hl.out]; exact Nat.le_refl _)] at hN2
      have HNf := Lib.hid hN2
      clear hN2
      go_wp2_with fail
      go_ret
      exact ⟨_, _, rfl, HNf.out, HE5.out⟩
set_option maxHeartbeats 800000 in
theorem putEntries_any (A : Option Addr) (n c : Nat) (us : List Sl) (w : World) (hx : RdL w A n us) (hr : ∀ s ∈ us, Rd .u8 w s.A s.body.length s.body) (hn : n ≤ 4096) (hs : ∀ s ∈ us, s.body.length ≤ 200) :
    Calls Tryz.prog 180 #[.slice A n c] w fun e w' => ∃ A' c', e = .returned (.slice A' (vput n ++ entB (bodies us)).length c') ∧ Own .u8 5 w' w.heap.size A' c' (vput n ++ entB (bodies us)) ∧ Ext w w' := by
  have Hl := Lib.hid hx.1
  have hbl : (bodies us).length = n := by rw [bodies_len, Hl.out]
  have hVl := entB_len (bodies us) (fun x h => by obtain ⟨s, hs2, rfl⟩ := List.mem_map.1 h; exact hs s hs2)
  rw [hbl] at hVl
  obtain ⟨V, hV⟩ : ∃ V, V = vput n ++ entB (bodies us) := ⟨_, rfl⟩
  have hvn := vput_le (u := n) (by omega)
  have hVl2 : V.length ≤ 1000000 := by rw [hV, List.length_append]; omega
  rw [← hV]
  have HV := Lib.hid hV
  have HVl := Lib.hid hVl2
  clear hV hVl hVl2 hbl
  go_enter Tryz.func180, Tryz.ntmps180
  go_wp2_with fail
  refine (put_any n _ (by omega)).mono ?_
  rintro e w2 ⟨A2, c2, rfl, hown2, he2⟩
  have HP0 := Lib.hid (show vput n ++ entB ((bodies us).drop 0) = V by rw [HV.out]; rfl)
  go_wp2_with fail
  go_loopw [3, 5, 12] (fun v _ i wr => ∃ (j : Nat) (P : List Nat) (A' : Option Addr) (c' : Nat), j ≤ n ∧ i = .int .i64 j ∧ v = .slice A' P.length c' ∧ Hid (P ++ entB ((bodies us).drop j) = V) ∧ Own .u8 5 wr w.heap.size A' c' P ∧ Ext w wr) (fun _ _ i _ => n - (intOf i).toNat)
  case atStart => exact ⟨0, _, A2, c2, Nat.zero_le _, rfl, rfl, HP0.out, hown2, he2⟩
  case round =>
    clear HP0 hown2 he2
    obtain ⟨j, P, A', c', hj, rfl, rfl, HP, hown, he⟩ := hrel
    by_cases hlt : j < n
    · obtain ⟨b, o, s, rfl, hf, hc⟩ := (hx.ext he).at_ hlt
      have hst := entB_step (bodies_at hf)
      have hsl := hs s (List.mem_of_getElem? hf)
      have hrs := hr s (List.mem_of_getElem? hf)
      obtain ⟨sA, sc, body⟩ := s
      simp only at hc hsl hst hrs
      have hPl : P.length ≤ 1000000 := by have := HVl.out; rw [← HP.out, List.length_append] at this; omega
      have hN : (P ++ vput body.length ++ body) ++ entB ((bodies us).drop (j + 1)) = V := by
        rw [← HP.out, hst]
        simp
      have HN := Lib.hid hN
      obtain ⟨m, hm⟩ : ∃ m, m = body.length := ⟨_, rfl⟩
      rw [← hm] at hc hsl hrs HN
      have Hm := Lib.hid hm
      have Hrs := Lib.hid hrs
      clear hN hst hf hm hrs HP
      go_wp2_with fail
      refine (put_any m _ (by omega)).mono ?_
      rintro e w4 ⟨A4, c4, rfl, hown4, he4⟩
      have hown3 := hown.ext he4
      have hE4 := he.trans he4
      have hv1 := vput_le (u := m) (by omega)
      have hL5 : (P ++ vput m).length = P.length + (vput m).length := List.length_append
      go_wp2_with (first
        | (at_builtin; refine wpList_pushes .u8 5 rfl _ _ 22 rfl _ 1 Tryz.underlying22 Tryz.infoU8 rfl hown3 P.length rfl rfl rfl hown4.rd (by omega) (by omega) hE4 hE4.size ?_; intro A5 c5 w5 hown5 hb5 hz5)
        | (at_builtin; refine wpList_pushes .u8 5 rfl _ _ 22 rfl _ 1 Tryz.underlying22 Tryz.infoU8 rfl hown5 _ hL5 rfl rfl (Hrs.out.ext hb5) (by omega) (by omega) hb5 hz5 ?_; intro A6 c6 w6 hown6 hb6 hz6)
        | fail)
      go_roundw
      case rel => exact ⟨j + 1, _, A6, c6, by omega, by go_num, by rw [List.length_append, List.length_append, ← Hm.out], HN.out, hown6, hb6⟩
      case measure => simp [intOf]; omega
    · obtain rfl : j = n := by omega
      have hfin := Lib.hid (show P = V by rw [← HP.out, List.drop_of_length_le (by rw [bodies_len, Hl.out]; exact Nat.le_refl _)]; simp [entB])
      go_wp2
      go_ret
      exact ⟨A', c', by rw [hfin.out]; rfl, by rw [← hfin.out]; exact hown, he⟩
set_option maxHeartbeats 1600000 in
theorem dencode_any (A : Option Addr) (n c : Nat) (ss : List Sl) (w : World) (hx : TxL w A n ss) (hn : n ≤ 140737488355328) :
    Calls Tryz.prog 145 #[.slice A n c] w (PEncPost (dencR (bodies ss)) w) := by
  have HI := Lib.hid (pindex_any A n c ss w hx hn)
  have hbl : (bodies ss).length = n := by rw [bodies_len, hx.len]
  by_cases hbad : 4096 < (bodies ss).length ∨ anyLong (bodies ss) = true
  · have HR := Lib.hid (dencR_bad hbad)
    rw [idxR_bad hbad] at HI
    clear hbad hx hbl
    go_enter Tryz.func145, Tryz.ntmps145
    go_wp2_with fail
    refine HI.out.mono ?_
    rintro e w1 ⟨A1, c1, us, B, cB, rfl, hb, _, _, _, he1⟩
    simp only at hb ⊢
    rw [show us.length = 0 by rw [← bodies_len, hb]; rfl, show ([] : List Nat).length = 0 from rfl]
    clear hb
    go_wp2_with fail
    go_ret2
    exact PEncPost.bad _ HR.out he1
  · have hgn : (bodies ss).length ≤ 4096 := by
      rcases Nat.lt_or_ge 4096 (bodies ss).length with q | q
      · exact absurd (.inl q) hbad
      · exact q
    have hgl : anyLong (bodies ss) = false := by
      cases q : anyLong (bodies ss) with
      | true => exact absurd (.inr q) hbad
      | false => rfl
    have HR := Lib.hid (dencR_good hgn hgl)
    rw [idxR_good hgn hgl, show (bodies ss).map (fun s => skN s (dents (bodies ss))) = dcodes (bodies ss) from rfl] at HI
    have hdl := denc_len hgn hgl
    have hLn := dents_len _ (bodies ss) rfl
    have hns := dcodes_lt (ss := bodies ss)
    have hcl := dcodes_len (bodies ss)
    have hshort := dents_short hgl
    obtain ⟨hp1, hp2⟩ := pack_good (by omega) (by omega) hns
    obtain ⟨L, hL⟩ : ∃ L, L = dents (bodies ss) := ⟨_, rfl⟩
    obtain ⟨ns, hnse⟩ : ∃ ns, ns = dcodes (bodies ss) := ⟨_, rfl⟩
    have hden : denc (bodies ss) = (vput L.length ++ entB L) ++ (vput ns.length ++ packB (wfor L.length) ns) := by rw [hL, hnse]; rfl
    rw [← hL] at HI hLn hns hp1 hp2 hshort
    rw [← hnse] at HI hns hp1 hp2 hcl
    obtain ⟨V, hV⟩ : ∃ V, V = denc (bodies ss) := ⟨_, rfl⟩
    rw [← hV] at HR hdl hden
    obtain ⟨m, hm⟩ : ∃ m, m = L.length := ⟨_, rfl⟩
    obtain ⟨k, hk⟩ : ∃ k, k = ns.length := ⟨_, rfl⟩
    rw [← hm] at hns hp1 hp2 hden hLn
    rw [← hk] at hden hcl
    have hcat : ([vput m ++ entB L, vput k, packB (wfor m) ns] : List (List Nat)).flatten = V := by rw [hden]; simp
    have Hcat := Lib.hid hcat
    have Hm := Lib.hid hm
    have Hk := Lib.hid hk
    have Hp1 := Lib.hid hp1
    have Hp2 := Lib.hid hp2
    have Hns := Lib.hid (show ∀ v ∈ ns, v ≤ 1000000 from fun v h => by have := hns v h; omega)
    have HnsU := Lib.hid (show U64 ns from fun v h => by have := hns v h; omega)
    have Hshort := Lib.hid hshort
    have hm4 : m ≤ 4096 := by omega
    have hk4 : k ≤ 4096 := by omega
    clear hbad hx hbl hL hnse hden hV hm hk hcat hp1 hp2 hns hshort hgn hgl hLn hcl
    go_enter Tryz.func145, Tryz.ntmps145
    go_wp2_with fail
    refine HI.out.mono ?_
    rintro e w1 ⟨A1, c1, us, B, cB, rfl, hb, hown, htx, hnum, he1⟩
    simp only at hb hnum ⊢
    have hul : us.length = m := by rw [Hm.out, ← hb, bodies_len]
    have hrd := hown.rdL
    rw [hul] at hrd ⊢
    rw [← Hk.out]
    have hnr := hnum.rd' Hk.out.symm
    have HPe := Lib.hid (fun (W : World) (hW : Ext w1 W) => putEntries_any A1 m c1 us W (hrd.ext hW) (fun s hs => (htx.rd s hs).ext hW) hm4 (fun s hs => Hshort.out _ (by rw [← hb]; exact List.mem_map.2 ⟨s, hs, rfl⟩)))
    rw [hb] at HPe
    clear hb hown htx hul hrd hnum
    go_wp2_with fail
    refine (widthFor_any m _ (by omega)).mono ?_
    rintro e w2 ⟨rfl, he2⟩
    go_wp2_with fail
    refine (toPack_any B k cB ns _ (hnr.ext he2) (by omega) Hns.out).mono ?_
    rintro e w3 ⟨A3, c3, rfl, hown3, he3⟩
    go_wp2_with fail
    refine (pack_any A3 k c3 (wfor m : Int) ns _ (hown3.rd' Hk.out.symm) HnsU.out (by omega)).mono ?_
    rintro e w4 ⟨A4, c4, rfl, hown4, he4⟩
    rw [Hp2.out] at hown4 ⊢
    rw [Hp1.out]
    obtain ⟨pl, hpl⟩ : ∃ pl, (packB (wfor m) ns).length = pl := ⟨_, rfl⟩
    rw [hpl]
    have hE4 : Ext w1 w4 := (he2.trans he3).trans he4
    have hr4 := hown4.rd' hpl
    clear hown3 hown4
    go_wp2_with fail
    refine (HPe.out _ hE4).mono ?_
    rintro e w5 ⟨A5, c5, rfl, hown5, he5⟩
    obtain ⟨el, hel⟩ : ∃ el, (vput m ++ entB L).length = el := ⟨_, rfl⟩
    rw [hel]
    have hr5 := hown5.rd' hel
    clear hown5
    go_wp2_with fail
    refine (put_any k _ (by omega)).mono ?_
    rintro e w6 ⟨A6, c6, rfl, hown6, he6⟩
    have hr6 := hown6.rd
    have hX := (Ext.refl w6).alloc (.cells #[.slice A5 el c5, .slice A6 (vput k).length c6, .slice A4 pl c4] 22)
    go_wp2_with fail
    refine (concat_any _ 3 3 [vput m ++ entB L, vput k, packB (wfor m) ns] _ (RdSS.three 22 w6 rfl (hr5.ext he6) hr6 ((hr4.ext he5).ext he6)) (by rw [Hcat.out]; omega) (by omega)).mono ?_
    rintro e w7 ⟨A7, c7, rfl, hown7, he7⟩
    rw [Hcat.out] at hown7 ⊢
    have hE7 : Ext w w7 := ((((he1.trans hE4).trans he5).trans he6).trans hX).trans he7
    have hb7 := (((he1.trans hE4).trans he5).trans he6).trans hX
    go_wp2_with fail
    go_ret2
    exact PEncPost.good _ HR.out rfl (hown7.mono hb7.size) hE7
def Ci.sb (x : Ci) : Sl := ⟨x.A, x.c, x.txt⟩
def CapX (xs : List Ci) : Prop := ∀ x ∈ xs, x.txt.length ≤ x.c ∧ x.c ≤ 9223372036854775807
theorem wpList_mkS {P : Program} {w : World} {ops : Array Oper} {rest : List Oper} {o : Oper} {a : Act} {Q : Exit → Act → World → Prop} (e : TypeId) (hgd : o.guard = none) (l c : Operand) (t : TypeId)
    (hop : o.op = Op.makeSlice t l c) (bytes : Nat) (ht : P.underlying t = some (.slice e)) (hi : (P.info? e).map (fun i => (i.zero, i.size, i.bytes)) = some (some (.slice none 0 0), 1, bytes))
    (kl kc : IntKind) {L C : Int} (n : Nat) (hl : a.eval l = .int kl L) (hc : a.eval c = .int kc C) (hL : L = (n : Int)) (hC : C = (n : Int)) (hb : bytes * n ≤ 281474976710656) (hn : n ≤ 9223372036854775807)
    (h : ∀ w', OwnG shS e w' w.heap.size (some ⟨w.heap.size, 0, none⟩) n (List.replicate n (⟨none, 0, []⟩ : Sl)) → Ext w w' → wpList P ops Q rest (a.put o.dst (.slice (some ⟨w.heap.size, 0, none⟩) n n)) w') :
    wpList P ops Q (o :: rest) a w := by
  obtain ⟨i, hi0, hz, hsz, hbs⟩ := info_parts hi
  refine wpList_make_full w hgd l c t hop w.heap.size e i (.slice none 0 0) 1 ht hi0 hz hsz kl kc L C n hl hc hL hC (by rw [hbs]; exact hb) (by unfold maxLen; omega) (Nat.le_refl _) ?_
  intro w' h1 h2
  refine h w' ?_ ⟨h2.os, h2.tape, h2.output, h2.size, fun j hj => h2.block j hj (by simp)⟩
  unfold OwnG
  have e1 : (madeCells (Value.slice none 0 0).cells (n * 1)).toList = List.replicate n (Value.slice none 0 0) := by
    rw [Nat.mul_one]; exact toList_madeCells_one _ _
  rw [e1] at h1
  have e2 : shS.all (List.replicate n (⟨none, 0, []⟩ : Sl)) = List.replicate n (Value.slice none 0 0) := by
    simp [Shape.all, shS, Sl.v]
  rw [e2, List.length_replicate]
  exact h1
theorem set_nextS {T : Type} {xs : List T} {n j : Nat} {x z : T} (hl : xs.length = n) (h : j < n) (hx : xs[j]? = some x) : (xs.take j ++ List.replicate (n - j) z).set j x = xs.take (j + 1) ++ List.replicate (n - (j + 1)) z := by
  have h1 : (xs.take j).length = j := by rw [List.length_take]; omega
  rw [List.set_append_right _ _ (by omega), h1, Nat.sub_self, show n - j = (n - (j + 1)) + 1 from by omega, List.replicate_succ, List.set_cons_zero, List.take_add_one, hx]
  simp
set_option maxHeartbeats 2000000 in
theorem toTexts_any (A : Option Addr) (n c : Nat) (xs : List Ci) (w : World) (hx : RdX w A n xs) (hn : n ≤ 4398046511104) :
    Calls Tryz.prog 146 #[.slice A n c] w fun e w' => ∃ A' c', e = .returned (.slice A' n c') ∧ OwnT w' w.heap.size A' c' (xs.map Ci.sb) ∧ Ext w w' := by
  have Hx := Lib.hid hx
  have Hl := Lib.hid hx.1
  have Hml := Lib.hid (show (xs.map Ci.sb).length = n by rw [List.length_map]; exact hx.1)
  clear hx
  go_enter Tryz.func146, Tryz.ntmps146
  go_wp2_with (first | (at_make; refine wpList_mkS 22 rfl _ _ 33 rfl 24 Tryz.underlying33 Tryz.infoS _ _ n rfl rfl rfl rfl (by omega) (by omega) ?_; intro w7 hown7 he7) | fail)
  have hz7 := he7.size
  have hb7 := (hown7.block _ rfl).2
  go_loopw [11] (fun i wr => ∃ j : Nat, j ≤ n ∧ i = .int .i64 (j : Int) ∧ OwnG shS 22 wr w.heap.size (some ⟨w.heap.size, 0, none⟩) n ((xs.map Ci.sb).take j ++ List.replicate (n - j) ⟨none, 0, []⟩) ∧ Ext w wr ∧ w.heap.size < wr.heap.size) (fun i _ => n - (intOf i).toNat)
  case atStart => exact ⟨0, Nat.zero_le _, rfl, by simpa using hown7, he7, hb7⟩
  case round =>
    clear hown7 he7
    obtain ⟨j, hj, rfl, hO, hE, hsz⟩ := hrel
    by_cases hlt : j < n
    · obtain ⟨b, o, x, rfl, hb, hxj, hc0, hc1, hc2, hin⟩ := (Hx.out.ext hE).at_ hlt
      have hsl : (xs.map Ci.sb)[j]? = some x.sb := by rw [List.getElem?_map, hxj]; rfl
      have Hn := Lib.hid (set_nextS (z := (⟨none, 0, []⟩ : Sl)) Hml.out hlt hsl)
      have hg := heap_cell (w := wr) x rfl
      have hO2 := hO.ext ((Ext.refl wr).alloc (.cells #[.bool x.nul, .int .i64 x.num, .slice x.A x.txt.length x.c] 61))
      obtain ⟨b', y, e', hb1, hb2, hy, hcell, hfr, hset⟩ := hO2.at_ (j := j) (by rw [List.length_append, List.length_take, List.length_replicate, Hml.out]; omega)
      injection e' with e'
      injection e' with e1
      subst e1
      have hf0 := hfr j
      have ej : j * shS.sz + 0 = j := by show j * 1 + 0 = j; omega
      have hold : ∃ v, (wr.alloc (.cells #[.bool x.nul, .int .i64 x.num, .slice x.A x.txt.length x.c] 61)).cell? ⟨w.heap.size, j, none⟩ = some v := ⟨y.v, by have := hcell 0 y.v rfl; rwa [ej] at this⟩
      obtain ⟨v0, hold⟩ := hold
      obtain ⟨_, _, e4, _, _, _, _, _, hset4⟩ := hO.at_ (j := j) (by rw [List.length_append, List.length_take, List.length_replicate, Hml.out]; omega)
      injection e4 with e4
      injection e4 with e4
      subst e4
      obtain ⟨hO5, hg5⟩ := hset4 0 x.sb (.slice x.A x.txt.length x.c) (by decide) rfl
      rw [ej] at hO5 hg5
      rw [Hn.out] at hO5
      have HO3 := Lib.hid hO5
      have HE3 := Lib.hid (grownBy_ext hE hg5 (fun x e => by have e2 : w.heap.size = x := Option.some.inj e; omega))
      have hs3 := hg5.size
      obtain ⟨nu, num, xA, xc, xt⟩ := x
      simp only at hc0 hc1 hc2 hg HO3 HE3 hold hf0 hs3 ⊢
      obtain ⟨hg0, hg1, hg2⟩ := hg
      clear hO hO2 hO5 hg5 hset hset4 hcell hfr hin hxj hsl
      go_wp2_with fail
      go_roundw
      case rel => exact ⟨j + 1, hlt, by go_num, HO3.out.ext ((Ext.refl _).alloc _), HE3.out.alloc _, by simp; omega⟩
      case measure => simp [intOf]; omega
    · obtain rfl : j = n := by omega
      rw [List.take_of_length_le (Nat.le_of_eq Hml.out), Nat.sub_self, List.replicate_zero, List.append_nil] at hO
      go_wp2
      go_ret
      exact ⟨_, _, rfl, hO, hE⟩
theorem RdX.txl {w w' : World} {A A' : Option Addr} {n base c' : Nat} {xs : List Ci} (hx : RdX w A n xs) (hc : CapX xs) (ho : OwnT w' base A' c' (xs.map Ci.sb)) (hn : xs.length = n) (he : Ext w w') : TxL w' A' n (xs.map Ci.sb) := by
  have hr := OwnG.rdL ho
  rw [List.length_map, hn] at hr
  refine ⟨hr, fun s hs => ?_⟩
  obtain ⟨x, hxm, rfl⟩ := List.mem_map.1 hs
  obtain ⟨j, hj, e⟩ := List.getElem_of_mem hxm
  obtain ⟨b, o, y, _, _, hy, _, _, _, hin⟩ := hx.at_ (j := j) (by omega)
  rw [List.getElem?_eq_getElem hj, e] at hy
  have hy2 := Option.some.inj hy
  subst hy2
  exact ⟨hin.rd.ext he, hin.u8, (hc x hxm).1, (hc x hxm).2, by have := hin.len; show x.txt.length ≤ _; omega⟩
theorem uindex_any (A : Option Addr) (n c : Nat) (xs : List Nat) (v : Nat) (w : World) (hx : Rd .u64 w A n xs) (hn : n ≤ 281474976710656) :
    Calls Tryz.prog 167 #[.slice A n c, .int .u64 (v : Int)] w fun e w' => (∃ i : Int, e = .returned (.int .i64 i) ∧ (0 ≤ i ↔ v ∈ xs)) ∧ w = w' := by
  have hl := hx.len
  have Hl := Lib.hid hl
  have Hx := Lib.hid hx
  clear hl hx
  go_enter Tryz.func167, Tryz.ntmps167
  go_wp2_with fail
  go_loop [8] (fun i => ∃ j : Nat, j ≤ n ∧ i = .int .i64 (j : Int) ∧ Hid (∀ q, q < j → xs.getD q 0 ≠ v)) (fun i => n - (intOf i).toNat)
  case atStart => exact ⟨0, Nat.zero_le _, rfl, Lib.hid (fun q hq => absurd hq (by omega))⟩
  case round =>
    obtain ⟨j, hj, rfl, HJ⟩ := hrel
    by_cases hlt : j < n
    · obtain ⟨b, o, rfl, hb, hcell⟩ := Hx.out.at_ hlt
      have hmem : xs.getD j 0 ∈ xs := by
        have h2 : j < xs.length := by rw [Hl.out]; exact hlt
        simp only [List.getD, List.getElem?_eq_getElem h2, Option.getD_some]
        exact List.getElem_mem _
      have Hmem := Lib.hid hmem
      obtain ⟨x, hx⟩ : ∃ x, x = xs.getD j 0 := ⟨_, rfl⟩
      rw [← hx] at hcell Hmem
      have HX := Lib.hid hx
      clear hx hmem
      by_cases hv : v = x
      · subst hv
        go_wp2_with fail
        go_ret
        exact ⟨⟨(j : Int), rfl, fun _ => Hmem.out, fun _ => by omega⟩, rfl⟩
      · have hvb : ((v : Int) == (x : Int)) = false := beq_eq_false_iff_ne.2 (by omega)
        go_wp2_with fail
        go_round
        case rel =>
          refine ⟨j + 1, hlt, by go_num, Lib.hid (fun q hq => ?_)⟩
          by_cases h : q < j
          · exact HJ.out q h
          · obtain rfl : q = j := by omega
            rw [← HX.out]; exact fun e => hv e.symm
        case measure => simp [intOf]; omega
    · obtain rfl : j = n := by omega
      go_wp2
      go_ret
      refine ⟨⟨-1, rfl, ?_⟩, rfl⟩
      have hno : ¬ v ∈ xs := fun h => by
        obtain ⟨q, hq, e⟩ := List.getElem_of_mem h
        refine HJ.out q (by rw [← Hl.out]; exact hq) ?_
        simp [List.getD, hq, e]
      exact ⟨fun h => absurd h (by decide), fun h => absurd h hno⟩
theorem ucontains_any (A : Option Addr) (n c : Nat) (xs : List Nat) (v : Nat) (w : World) (hx : Rd .u64 w A n xs) (hn : n ≤ 281474976710656) :
    Calls Tryz.prog 140 #[.slice A n c, .int .u64 (v : Int)] w fun e w' => e = .returned (.bool (decide (v ∈ xs))) ∧ w = w' := by
  have HI := Lib.hid (uindex_any A n c xs v w hx hn)
  clear hx
  go_enter Tryz.func140, Tryz.ntmps140
  go_wp2_with fail
  refine HI.out.mono ?_
  rintro e w1 ⟨⟨i, rfl, hi⟩, rfl⟩
  have Hi := Lib.hid hi
  clear hi
  go_wp2_with fail
  go_ret
  exact ⟨by rw [← decide_eq_decide.2 Hi.out]; rfl, rfl⟩
def nb (xs : List Ci) : List Nat := xs.map fun x => if x.nul then 1 else 0
theorem nb_len (xs : List Ci) : (nb xs).length = xs.length := List.length_map ..
theorem nb_wd (xs : List Ci) : Wd 1 (nb xs) := by
  intro v hv
  obtain ⟨x, _, rfl⟩ := List.mem_map.1 hv
  split <;> decide
theorem nb_u64 (xs : List Ci) : U64 (nb xs) := by
  intro v hv
  have := nb_wd xs v hv
  omega
theorem nb_at {xs : List Ci} {j : Nat} {x : Ci} (h : xs[j]? = some x) : (nb xs)[j]? = some (if x.nul then 1 else 0) := by unfold nb; rw [List.getElem?_map, h]; rfl
def nullsL (xs : List Ci) : List Nat := if 1 ∈ nb xs then 1 :: packB 1 (nb xs) else [0]
theorem nb_pack {xs : List Ci} (h : xs.length ≤ 4096) : packE 1 (nb xs) = 0 := packE_ok (by decide) (by rw [nb_len]; omega) (by have := wdt_le.2 (nb_wd xs); omega)
set_option maxHeartbeats 4000000 in
theorem putNulls_any (A : Option Addr) (n c : Nat) (xs : List Ci) (w : World) (hx : RdX w A n xs) (hn : n ≤ 4096) :
    Calls Tryz.prog 106 #[.slice A n c] w (PEncPost (nullsL xs, 0) w) := by
  have Hx := Lib.hid hx
  have Hl := Lib.hid hx.1
  have Hml := Lib.hid (show (nb xs).length = n by rw [nb_len]; exact hx.1)
  have hpk := nb_pack (xs := xs) (by rw [hx.1]; exact hn)
  have hu := nb_u64 xs
  have hpb : packL 1 (nb xs) = packB 1 (nb xs) := by unfold packL; rw [hpk, if_pos rfl]; rfl
  have Hpk := Lib.hid hpk
  have Hpb := Lib.hid hpb
  clear hx hpk hpb
  go_enter Tryz.func106, Tryz.ntmps106
  go_wp2_with (first | (at_make; refine wpList_mk .u64 69 rfl _ _ 72 rfl 8 Tryz.underlying72 Tryz.infoU64 _ _ n rfl rfl rfl rfl (by omega) (by omega) ?_; intro w7 hown7 he7) | fail)
  have hz7 := he7.size
  have hb7 := (hown7.block _ rfl).2
  go_loopw [14] (fun i wr => ∃ j : Nat, j ≤ n ∧ i = .int .i64 (j : Int) ∧ Own .u64 69 wr w.heap.size (some ⟨w.heap.size, 0, none⟩) n ((nb xs).take j ++ List.replicate (n - j) 0) ∧ Ext w wr ∧ w.heap.size < wr.heap.size) (fun i _ => n - (intOf i).toNat)
  case atStart => exact ⟨0, Nat.zero_le _, rfl, by simpa using hown7, he7, hb7⟩
  case round =>
    clear hown7 he7
    obtain ⟨j, hj, rfl, hO, hE, hsz⟩ := hrel
    by_cases hlt : j < n
    · obtain ⟨b, o, x, rfl, hb, hxj, hc0, hc1, hc2, hin⟩ := (Hx.out.ext hE).at_ hlt
      have hnb := nb_at hxj
      have Hn := Lib.hid (set_nextS (z := (0 : Nat)) Hml.out hlt hnb)
      have hg := heap_cell (w := wr) x rfl
      have hlO : j < ((nb xs).take j ++ List.replicate (n - j) 0).length := by rw [List.length_append, List.length_take, List.length_replicate, Hml.out]; omega
      have hcur : ((nb xs).take j ++ List.replicate (n - j) 0).getD j 0 = 0 := by
        rw [List.getD, List.getElem?_append_right (by rw [List.length_take, Hml.out]; omega), List.length_take, Hml.out, show j - min j n = 0 by omega, List.getElem?_replicate, if_pos (by omega)]; rfl
      have hset0 : ((nb xs).take j ++ List.replicate (n - j) 0).set j 0 = (nb xs).take j ++ List.replicate (n - j) 0 := by
        apply List.ext_getElem?
        intro q
        rw [List.getElem?_set]
        split
        · rename_i e; subst e
          rw [List.getD, List.getElem?_eq_getElem hlO] at hcur
          rw [List.getElem?_eq_getElem hlO]
          exact congrArg some (Eq.symm hcur)
        · rfl
      obtain ⟨b', e', hb1, hb2, hcell, hfr, hset⟩ := (hO.ext ((Ext.refl wr).alloc (.cells #[.bool x.nul, .int .i64 x.num, .slice x.A x.txt.length x.c] 61))).at_ hlO
      injection e' with e'
      injection e' with e1
      subst e1
      obtain ⟨b4, e4, _, _, _, _, hset4⟩ := hO.at_ hlO
      injection e4 with e4
      injection e4 with e4
      subst e4
      rw [hcur] at hcell
      obtain ⟨nu, num, xA, xc, xt⟩ := x
      simp only at hc0 hc1 hc2 hg hcell hfr Hn ⊢
      obtain ⟨hg0, hg1, hg2⟩ := hg
      cases nu with
      | true =>
        obtain ⟨hO5, hg5⟩ := hset4 1
        rw [if_pos rfl] at Hn
        rw [Hn.out] at hO5
        have HO3 := Lib.hid hO5
        have HE3 := Lib.hid (grownBy_ext hE hg5 (fun x e => by have e2 : w.heap.size = x := Option.some.inj e; omega))
        have hs3 := hg5.size
        clear hO hO5 hg5 hset hset4 hin hxj hnb hset0 hcur hlO
        go_wp2_with fail
        go_roundw
        case rel => exact ⟨j + 1, hlt, by go_num, HO3.out.ext ((Ext.refl _).alloc _), HE3.out.alloc _, by simp; omega⟩
        case measure => simp [intOf]; omega
      | false =>
        rw [if_neg (by decide), hset0] at Hn
        have HO3 := Lib.hid hO
        rw [Hn.out] at HO3
        have HE3 := Lib.hid hE
        clear hO hset hset4 hin hxj hnb hset0 hcur hlO hE
        go_wp2_with fail
        go_roundw
        case rel => exact ⟨j + 1, hlt, by go_num, HO3.out.ext ((Ext.refl _).alloc _), HE3.out.alloc _, by simp; omega⟩
        case measure => simp [intOf]; omega
    · obtain rfl : j = n := by omega
      rw [List.take_of_length_le (Nat.le_of_eq Hml.out), Nat.sub_self, List.replicate_zero, List.append_nil] at hO
      have HC := Lib.hid (ucontains_any (some ⟨w.heap.size, 0, none⟩) j j (nb xs) 1 wr (hO.rd' Hml.out) (by omega))
      have HP := Lib.hid (pack_any (some ⟨w.heap.size, 0, none⟩) j j 1 (nb xs) wr (hO.rd' Hml.out) hu (by omega))
      clear hO hu
      by_cases h1 : 1 ∈ nb xs
      · have hN : nullsL xs = 1 :: packB 1 (nb xs) := if_pos h1
        rw [decide_eq_true h1] at HC
        have hP2 := HP.out
        unfold PackPost at hP2
        rw [Hpk.out, Hpb.out] at hP2
        obtain ⟨R, hR⟩ : ∃ R, R = packB 1 (nb xs) := ⟨_, rfl⟩
        rw [← hR] at hP2 hN
        have hRl : R.length ≤ 512 := by rw [hR]; unfold packB; rw [upk_len, Hml.out]; omega
        obtain ⟨L, hL⟩ : ∃ L, L = R.length := ⟨_, rfl⟩
        rw [← hL] at hP2 hRl
        have HN := Lib.hid hN
        have HP2 := Lib.hid hP2
        have HL := Lib.hid hL
        clear hN h1 hP2 hR hL HP
        go_wp2_with fail
        refine HC.out.mono ?_
        rintro e w1 ⟨rfl, rfl⟩
        go_wp2_with fail
        refine HP2.out.mono ?_
        rintro e w2 ⟨A2, c2, rfl, ho2, he2⟩
        go_wp2_with fail
        have hfl : ([[1], R] : List (List Nat)).flatten = 1 :: R := by simp
        have HCc := Lib.hid (concat_any (some ⟨w2.heap.size + 1, 0, none⟩) 2 2 [[1], R] ((w2.alloc (.cells #[.int .u8 1] 5)).alloc (.cells #[.slice (some ⟨w2.heap.size, 0, none⟩) 1 1, .slice A2 L c2] 22)) (RdSS.two 22 _ (by simp) (Rd.lit .u8 5 w2 [1]) ((ho2.rd' HL.out.symm).ext ((Ext.refl _).alloc _))) (by rw [hfl, List.length_cons, ← HL.out]; omega) (by decide))
        rw [hfl, List.length_cons, ← HL.out] at HCc
        refine HCc.out.mono ?_
        rintro e w3 ⟨A3, c3, rfl, ho3, he3⟩
        go_wp2_with fail
        go_ret2
        have hE3 := (hE.trans he2).trans ((((Ext.refl w2).alloc _).alloc _).trans he3)
        have hb3 := ho3.mono ((hE.trans he2).trans (((Ext.refl w2).alloc (.cells #[.int .u8 1] 5)).alloc (.cells #[.slice (some ⟨w2.heap.size, 0, none⟩) 1 1, .slice A2 L c2] 22))).size
        exact ⟨A3, c3, by rw [HN.out, List.length_cons, ← HL.out]; rfl, by rw [HN.out]; exact hb3, hE3⟩
      · have hN : nullsL xs = [0] := if_neg h1
        have HN := Lib.hid hN
        rw [decide_eq_false h1] at HC
        clear hN h1
        go_wp2_with fail
        refine HC.out.mono ?_
        rintro e w1 ⟨rfl, rfl⟩
        go_wp2_with fail
        go_ret2
        exact ⟨_, 1, by rw [HN.out]; rfl, by rw [HN.out]; exact (ownLit wr [0] (by decide)).mono (by omega), hE.alloc _⟩
set_option maxRecDepth 100000 in
theorem step_pushes {w0 w : World} {ops : Array Oper} {o : Oper} {a : Act} {K : Act → World → Prop} {Q : Exit → Act → World → Prop} {E : Prop} (hgd : o.guard = none) (s y : Operand)
    (ho : o.op = .call { callee := .builtin .append, args := #[s, y], argTypes := #[22, 22] })
    {base : Nat} {A A2 : Option Addr} {c m c2 : Nat} {xs ys : List Nat} (hown : Own .u8 5 w base A c xs) (n : Nat) (hn : xs.length = n) (hs : a.eval s = .slice A n c)
    (hy : a.eval y = .slice A2 m c2) (hrd : Rd .u8 w A2 m ys) (hlen : n + m ≤ 180000000000000) (hb : Below base w0 w) (hbase : base ≤ w.heap.size)
    (h : ∀ A' c' w', Own .u8 5 w' base A' c' (xs ++ ys) → w.grownBy w' (Value.slice A n c).ownBlock → Below base w0 w' → base ≤ w'.heap.size → K (a.put o.dst (.slice A' (n + m : Nat) c')) w') :
    if Region.wanted o (yielded ops a.tmps) = true then Oper.wp Tryz.prog o a w K Q else E := by
  have hw : Region.wanted o (yielded ops a.tmps) = true := by simp [Region.wanted, hgd]
  rw [if_pos hw]
  subst hn
  obtain ⟨i, hi0, hz, hsz, hbs⟩ := info_parts Tryz.infoU8
  have hyl := hrd.len
  cases A2 with
  | none =>
    have hm : m = 0 := by
      rcases Nat.eq_zero_or_pos m with h0 | h0
      · exact h0
      · obtain ⟨b, o, he, _⟩ := hrd.2 h0
        cases he
    subst hm
    obtain rfl : ys = [] := List.eq_nil_of_length_eq_zero hyl
    have hrun := run_append_none (P := Tryz.prog) (w := w) 22 o.type i 1 c2 Tryz.underlying22 hi0 _ _ _ hown
    unfold Oper.wp
    simp [execOp, ho, resolve, invoke, builtin, hs, hy, hrun, Result.andThen]
    exact h A c w (by simpa using hown) (World.grownBy.refl _ _) hb hbase
  | some ad =>
    refine wp_append_own_wide w s y 22 ho base 5 i _ 1 1 Tryz.underlying22 hi0 hz hsz hbs rfl (by decide) _ xs.length (xs.map fun x : Nat => Value.int .u8 (x : Int)) hs hown
      ad m c2 (ys.map fun x : Nat => Value.int .u8 (x : Int)) hy (by simp [hyl]) ?_ ?_ (by unfold maxLen; omega) (by omega) hbase ?_
    · intro j u hj
      have hjl : j < ys.length := by
        have := (List.getElem?_eq_some_iff.1 hj).1
        simpa using this
      obtain ⟨b, o', he, hbl, hc⟩ := hrd.at_ (j := j) (by omega)
      injection he with he
      subst he
      have hadd : (⟨b, o', none⟩ : Addr).add j = ⟨b, o' + j, none⟩ := by simp [Addr.add]
      rw [hadd, hc]
      rw [List.getElem?_map, List.getElem?_eq_getElem hjl] at hj
      simp at hj
      simp [← hj, hjl]
    · intro u hu
      obtain ⟨x, _, rfl⟩ := List.mem_map.1 hu
      rfl
    · intro v' w' hown' hg _
      have hform : ∃ A' c', v' = .slice A' (xs.length + m) c' := by
        rcases hown'.2 with ⟨hv, h0⟩ | ⟨g, cap, cur, hv, _⟩
        · exact ⟨none, 0, by rw [hv, h0]⟩
        · exact ⟨_, _, hv⟩
      obtain ⟨A', c', rfl⟩ := hform
      have hb' : Below base w0 w' := Below.grown hb hg hbase (fun g hg' => (hown.lt g hg').1)
      refine h A' c' w' ?_ hg hb' ?_
      · unfold Own
        rw [List.length_append, hyl, List.map_append]
        exact hown'
      · have := hg.size
        omega
theorem wpList_pushes2 {w0 w : World} {ops : Array Oper} {rest : List Oper} {o : Oper} {a : Act} {Q : Exit → Act → World → Prop} (hgd : o.guard = none) (s y : Operand)
    (ho : o.op = .call { callee := .builtin .append, args := #[s, y], argTypes := #[22, 22] })
    {base : Nat} {A A2 : Option Addr} {c m c2 : Nat} {xs ys : List Nat} (hown : Own .u8 5 w base A c xs) (n : Nat) (hn : xs.length = n) (hs : a.eval s = .slice A n c)
    (hy : a.eval y = .slice A2 m c2) (hrd : Rd .u8 w A2 m ys) (hlen : n + m ≤ 180000000000000) (hb : Below base w0 w) (hbase : base ≤ w.heap.size)
    (h : ∀ A' c' w', Own .u8 5 w' base A' c' (xs ++ ys) → w.grownBy w' (Value.slice A n c).ownBlock → Below base w0 w' → base ≤ w'.heap.size → wpList Tryz.prog ops Q rest (a.put o.dst (.slice A' (n + m : Nat) c')) w') :
    wpList Tryz.prog ops Q (o :: rest) a w :=
  wpList_plain hgd fun K hK => by
    have hw : Region.wanted o (yielded ops a.tmps) = true := by simp [Region.wanted, hgd]
    have h0 := step_pushes (K := K) (Q := Q) (ops := ops) (E := True) hgd s y ho hown n hn hs hy hrd hlen hb hbase (fun A' c' w' h1 h2 h3 h4 => hK _ _ (h A' c' w' h1 h2 h3 h4))
    rw [if_pos hw] at h0
    exact h0
def plain1 (k : Int) (x : Ci) : List Nat := if numK k then vput (foldS x.num).toNat else vput x.txt.length ++ x.txt
def plainL (k : Int) (xs : List Ci) : List Nat := (xs.map (plain1 k)).flatten
theorem plainL_take {k : Int} {xs : List Ci} {j : Nat} {x : Ci} (h : xs[j]? = some x) : plainL k (xs.take (j + 1)) = plainL k (xs.take j) ++ plain1 k x := by
  unfold plainL
  rw [List.take_add_one, h, List.map_append, List.flatten_append]; simp
theorem plain1_le {k : Int} {x : Ci} (h0 : -9223372036854775808 ≤ x.num) (h1 : x.num ≤ 9223372036854775807) (h2 : x.txt.length ≤ 200) : (plain1 k x).length ≤ 210 := by
  unfold plain1
  split
  · have hr := fold_range (v := x.num) ⟨h0, h1⟩
    have := vsize_le (u := (foldS x.num).toNat) (by omega)
    rw [vput_len]; omega
  · have := vsize_le (u := x.txt.length) (by omega)
    rw [List.length_append, vput_len]; omega
theorem plain1_u8 {k : Int} {x : Ci} (h : U8 x.txt) : U8 (plain1 k x) := by
  unfold plain1
  split
  · exact vput_u8 _
  · exact u8_append (vput_u8 _) h
set_option maxHeartbeats 4000000 in
theorem putPlain_any (k : Int) (A : Option Addr) (n c : Nat) (xs : List Ci) (w : World) (hx : RdX w A n xs) (hn : n ≤ 4096) (h200 : ∀ x ∈ xs, x.txt.length ≤ 200) :
    Calls Tryz.prog 148 #[.int .i64 k, .slice A n c] w fun e w' => ∃ A' c', e = .returned (.slice A' (plainL k xs).length c') ∧ Own .u8 5 w' w.heap.size A' c' (plainL k xs) ∧ Ext w w' := by
  have Hx := Lib.hid hx
  have Hl := Lib.hid hx.1
  have H2 := Lib.hid h200
  have hnum := fun W => number_any k W
  have hpl : ∀ x, plain1 k x = if numK k then vput (foldS x.num).toNat else vput x.txt.length ++ x.txt := fun x => rfl
  obtain ⟨B, hB⟩ : ∃ B, B = numK k := ⟨_, rfl⟩
  rw [← hB] at hnum hpl
  have HN := Lib.hid hnum
  have Hpl := Lib.hid hpl
  clear hx h200 hnum hB hpl
  go_enter Tryz.func148, Tryz.ntmps148
  go_wp2_with fail
  go_loopw [5, 10] (fun y i wr => ∃ (j m : Nat) (A' : Option Addr) (c' : Nat), j ≤ n ∧ m ≤ 210 * j ∧ i = .int .i64 (j : Int) ∧ y = .slice A' m c' ∧ Hid ((plainL k (xs.take j)).length = m) ∧ Own .u8 5 wr w.heap.size A' c' (plainL k (xs.take j)) ∧ Ext w wr ∧ w.heap.size ≤ wr.heap.size) (fun _ i _ => n - (intOf i).toNat)
  case atStart => exact ⟨0, 0, none, 0, Nat.zero_le _, by omega, rfl, rfl, Lib.hid rfl, Own.nil .., Ext.refl _, Nat.le_refl _⟩
  case round =>
    obtain ⟨j, m, A', c', hj, hm, rfl, rfl, HK, hO, hE, hz⟩ := hrel
    by_cases hlt : j < n
    · have hall : ∀ x, xs[j]? = some x → x.In w := fun x hx => by
        obtain ⟨_, _, y, _, _, hy, _, _, _, h⟩ := Hx.out.at_ hlt
        have e := Option.some.inj (hy.symm.trans hx)
        rw [← e]; exact h
      obtain ⟨b, o, x0, rfl, hb, hxj, hc0, hc1, hc2, hin⟩ := (Hx.out.ext hE).at_ hlt
      have hin0 := hall x0 hxj
      clear hall
      have Ht := Lib.hid (plainL_take (k := k) hxj)
      have h2 := H2.out _ (List.mem_of_getElem? hxj)
      have hp1 := plain1_le (k := k) hin.lo hin.hi h2
      have hg := heap_cell (w := wr) x0 rfl
      have HO := Lib.hid hO
      have hlo := hin.lo
      have hhi := hin.hi
      have hrd := hin.rd
      have hrd0 := hin0.rd
      obtain ⟨nu, num, xA, xc, xt⟩ := x0
      simp only at hc0 hc1 hc2 hg Ht h2 hp1 hlo hhi hrd hrd0 ⊢
      obtain ⟨hg0, hg1, hg2⟩ := hg
      obtain ⟨P, hP⟩ : ∃ P, P = plain1 k ⟨nu, num, xA, xc, xt⟩ := ⟨_, rfl⟩
      have hP2 := Hpl.out ⟨nu, num, xA, xc, xt⟩
      rw [← hP] at Ht hp1 hP2
      obtain ⟨p, hp⟩ : ∃ p, p = P.length := ⟨_, rfl⟩
      rw [← hp] at hp1
      have HP := Lib.hid hp
      have Hrd := Lib.hid hrd
      have Hrd0 := Lib.hid hrd0
      clear hO hin hin0 hxj hrd hrd0 hP hp
      cases B with
      | true =>
        rw [if_pos rfl] at hP2
        have hr := fold_range (v := num) ⟨hlo, hhi⟩
        obtain ⟨u, hu⟩ : ∃ u : Nat, (u : Int) = foldS num := ⟨(foldS num).toNat, by omega⟩
        have hu2 : (foldS num).toNat = u := by omega
        rw [hu2] at hP2
        have hFo : Hid (∀ W, Calls Tryz.prog 174 #[.int .i64 num] W fun e w' => e = .returned (.int .u64 (u : Int)) ∧ W = w') := Lib.hid (fun W => by rw [hu]; exact fold_any num W hlo hhi)
        have hPu : Hid (∀ W, Calls Tryz.prog 110 #[.int .u64 (u : Int)] W fun e w' => ∃ A' c', e = .returned (.slice A' p c') ∧ Own .u8 5 w' W.heap.size A' c' P ∧ Ext W w') := Lib.hid (fun W => by
          have := put_any u W (by omega)
          rw [← hP2, ← HP.out] at this
          exact this)
        clear hP2 hu hu2 hr
        go_wp2_with fail
        refine (HN.out _).mono ?_
        rintro e w1 ⟨rfl, rfl⟩
        go_wp2_with fail
        refine (hFo.out _).mono ?_
        rintro e w1 ⟨rfl, rfl⟩
        go_wp2_with fail
        refine (hPu.out _).mono ?_
        rintro e w3 ⟨A3, c3, rfl, ho3, he3⟩
        have hE3 : Ext w w3 := (hE.alloc _).trans he3
        have hz3 := hE3.size
        go_wp2_with (at_builtin; refine wpList_pushes (w0 := w) (base := w.heap.size) .u8 5 rfl _ _ 22 rfl _ 1 Tryz.underlying22 Tryz.infoU8 rfl ((HO.out.ext ((Ext.refl _).alloc _)).ext he3) m HK.out rfl rfl (ho3.rd' HP.out.symm) (by omega) (by omega) hE3 hz3 ?_; intro A4 c4 w4 hO4 hE4 hz4)
        go_roundw
        case rel => exact ⟨j + 1, m + p, A4, c4, hlt, by omega, by go_num, rfl, Lib.hid (by rw [Ht.out, List.length_append, HK.out, ← HP.out]), by rw [Ht.out]; exact hO4, hE4, hz4⟩
        case measure => simp [intOf]; omega
      | false =>
        rw [if_neg (by decide)] at hP2
        obtain ⟨q, hq⟩ : ∃ q, q = xt.length := ⟨_, rfl⟩
        obtain ⟨V, hV⟩ : ∃ V, V = vput q := ⟨_, rfl⟩
        obtain ⟨v, hv⟩ : ∃ v, v = V.length := ⟨_, rfl⟩
        rw [← hq] at h2 hc2 hg0 hg1 hg2
        rw [← hq, ← hV] at hP2
        have hpv : p = v + q := by rw [HP.out, hP2, List.length_append, ← hv, ← hq]
        have hPu : Hid (∀ W, Calls Tryz.prog 110 #[.int .u64 (q : Int)] W fun e w' => ∃ A' c', e = .returned (.slice A' v c') ∧ Own .u8 5 w' W.heap.size A' c' V ∧ Ext W w') := Lib.hid (fun W => by
          have := put_any q W (by omega)
          rw [← hV, ← hv] at this
          exact this)
        have Hrq : Hid (Rd .u8 wr xA q xt) := Lib.hid (by rw [hq]; exact Hrd.out)
        have HP2 := Lib.hid hP2
        have Hv := Lib.hid hv
        have Hq := Lib.hid hq
        have hw64 : IntKind.u64.wrap (q : Int) = (q : Int) := IntWalk.u64_in _ (by omega)
        clear hP2 hV hv hq
        go_wp2_with fail
        refine (HN.out _).mono ?_
        rintro e w1 ⟨rfl, rfl⟩
        go_wp2_with fail
        refine (hPu.out _).mono ?_
        rintro e w3 ⟨A3, c3, rfl, ho3, he3⟩
        have hE3 : Ext w w3 := (hE.alloc _).trans he3
        have hz3 := hE3.size
        have hr3 : Hid (Rd .u8 w3 xA q xt) := Lib.hid (Hrq.out.ext (((Ext.refl _).alloc _).trans he3))
        have hs3 := he3.size
        rw [World.size_alloc] at hs3
        have hc23 : w3.cell? ⟨wr.heap.size, 2, none⟩ = some (.slice xA q xc) := (Below.cell he3 (p := ⟨wr.heap.size, 2, none⟩) (by simp)).trans hg2
        have hnb : ∀ a, A' = some a → a.block < wr.heap.size := fun a ha => (HO.out.block a ha).2
        have hownb : (Value.slice A' m c').ownBlock ≠ some wr.heap.size := by
          cases hA : A' with
          | none => simp [Value.ownBlock]
          | some a => have := hnb a hA; simp [Value.ownBlock]; intro h; omega
        have Hq0 : Hid (Rd .u8 w xA q xt) := Lib.hid (by rw [Hq.out]; exact Hrd0.out)
        go_wp2_with (first
          | (at_builtin; refine wpList_pushes2 (w0 := w) (base := w.heap.size) rfl _ _ rfl ((HO.out.ext ((Ext.refl _).alloc _)).ext he3) m HK.out rfl rfl (ho3.rd' Hv.out.symm) (by omega) hE3 hz3 ?_; intro A4 c4 w4 hO4 hg4 hE4 hz4; have hc24 : w4.cell? ⟨wr.heap.size, 2, none⟩ = some (.slice xA q xc) := (World.cell?_of_block (a := ⟨wr.heap.size, 2, none⟩) (hg4.block wr.heap.size (by omega) (fun e => hownb e.symm))).trans hc23)
          | (at_builtin; refine wpList_pushes2 (w0 := w) (base := w.heap.size) rfl _ _ rfl hO4 (m + v) (by rw [List.length_append, HK.out, ← Hv.out]) rfl rfl (Hq0.out.ext hE4) (by omega) hE4 hz4 ?_; intro A5 c5 w5 hO5 _ hE5 hz5)
          | fail)
        go_roundw
        case rel => exact ⟨j + 1, m + v + q, A5, c5, hlt, by omega, by go_num, rfl, Lib.hid (by rw [Ht.out, List.length_append, HK.out, ← HP.out]; omega), by rw [Ht.out, HP2.out, ← List.append_assoc]; exact hO5, hE5, hz5⟩
        case measure => simp [intOf]; omega
    · obtain rfl : j = n := by omega
      rw [List.take_of_length_le (Nat.le_of_eq Hl.out)] at hO
      have Hk2 : Hid ((plainL k xs).length = m) := Lib.hid (by have := HK.out; rwa [List.take_of_length_le (Nat.le_of_eq Hl.out)] at this)
      go_wp2
      go_ret
      exact ⟨A', c', by rw [Hk2.out]; rfl, hO, hE⟩
end Go.Proofs.YthibbgmicmfkfaaGreat
