/-
  Layer 10's mathematics: texts as entries and numbers, written and read.
-/
import Derived.Test.YtpdppldkebfikaaM10
import Derived.Test.YtpdppldkebfikaaPU
namespace Go.Proofs.Ytpdppldkebfikaa

/-- The width of the numbers of n entries. -/
def wfor (n : Nat) : Nat := if n = 0 then 0 else bl (n - 1)
theorem wfor_le {n : Nat} (h : n ≤ 4096) : wfor n ≤ 12 := by
  unfold wfor
  split
  · omega
  · exact bl_le.2 (by have : (2 : Nat) ^ 12 = 4096 := by decide
                      omega)
theorem wfor_wd {n : Nat} {us : List Nat} (h : ∀ u ∈ us, u < n) : Wd (wfor n) us := by
  intro u hu
  have h1 := h u hu
  unfold wfor
  rw [if_neg (by omega)]
  have h2 := bl_le.1 (Nat.le_refl (bl (n - 1)))
  omega

/-- The entries written. -/
def entB (L : List (List Nat)) : List Nat := (L.map fun s => vput s.length ++ s).flatten
theorem entB_cons (s : List Nat) (r : List (List Nat)) : entB (s :: r) = vput s.length ++ (s ++ entB r) := by simp [entB]
theorem entB_step {L : List (List Nat)} {j : Nat} {s : List Nat} (h : L[j]? = some s) : entB (L.drop j) = vput s.length ++ (s ++ entB (L.drop (j + 1))) := by
  obtain ⟨h1, rfl⟩ := List.getElem?_eq_some_iff.1 h
  rw [List.drop_eq_getElem_cons h1, entB_cons]
theorem entB_len : ∀ (L : List (List Nat)), (∀ s ∈ L, s.length ≤ 200) → (entB L).length ≤ 210 * L.length
  | [], _ => by simp [entB]
  | s :: r, h => by
    have h1 := h s (by simp)
    have h2 := vput_le (u := s.length) (by omega)
    have h3 := entB_len r (fun x hx => h x (by simp [hx]))
    rw [entB_cons, List.length_append, List.length_append, List.length_cons]
    omega
theorem entB_u8 : ∀ (L : List (List Nat)), (∀ s ∈ L, U8 s) → U8 (entB L)
  | [], _ => by intro v hv; cases hv
  | s :: r, h => by
    intro v hv
    rw [entB_cons] at hv
    rcases List.mem_append.1 hv with hv | hv
    · exact vput_u8 _ v hv
    · rcases List.mem_append.1 hv with hv | hv
      · exact h s (by simp) v hv
      · exact entB_u8 r (fun x hx => h x (by simp [hx])) v hv

/-- Entries and numbers written. -/
def dencW (L : List (List Nat)) (ns : List Nat) : List Nat := (vput L.length ++ entB L) ++ (vput ns.length ++ packB (wfor L.length) ns)
def dcodes (ss : List (List Nat)) : List Nat := ss.map fun s => skN s (dents ss)
def denc (ss : List (List Nat)) : List Nat := dencW (dents ss) (dcodes ss)
/-- What Encode answers. -/
def dencR (ss : List (List Nat)) : List Nat × Int := if 4096 < ss.length ∨ anyLong ss = true then ([], 4) else (denc ss, 0)
theorem dencR_bad {ss : List (List Nat)} (h : 4096 < ss.length ∨ anyLong ss = true) : dencR ss = ([], 4) := if_pos h
theorem dencR_good {ss : List (List Nat)} (h : ss.length ≤ 4096) (h2 : anyLong ss = false) : dencR ss = (denc ss, 0) := if_neg (fun q => by
  rcases q with q | q
  · omega
  · rw [h2] at q; cases q)
theorem dcodes_len (ss : List (List Nat)) : (dcodes ss).length = ss.length := List.length_map ..
theorem dcodes_lt {ss : List (List Nat)} : ∀ u ∈ dcodes ss, u < (dents ss).length := by
  intro u hu
  obtain ⟨s, hs, rfl⟩ := List.mem_map.1 hu
  exact (List.getElem?_eq_some_iff.1 (skN_at (dents_asc ss) (dents_mem.2 hs))).1
theorem packB_len {wd : Nat} {vs : List Nat} : (packB wd vs).length = (wd * vs.length + 7) / 8 := upk_len ..
theorem denc_len {ss : List (List Nat)} (hn : ss.length ≤ 4096) (h : anyLong ss = false) : (denc ss).length ≤ 1000000 := by
  have h1 := dents_len ss.length ss rfl
  have h2 := entB_len (dents ss) (fun x hx => anyLong_no h x (dents_mem.1 hx))
  have h3 := vput_le (u := (dents ss).length) (by omega)
  have h4 := vput_le (u := (dcodes ss).length) (by rw [dcodes_len]; omega)
  have h5 := wfor_le (n := (dents ss).length) (by omega)
  have h6 : wfor (dents ss).length * (dcodes ss).length ≤ 12 * 4096 := Nat.mul_le_mul h5 (by rw [dcodes_len]; exact hn)
  unfold denc dencW
  rw [List.length_append, List.length_append, List.length_append, packB_len]
  omega
theorem denc_u8 {ss : List (List Nat)} (h : ∀ s ∈ ss, U8 s) : U8 (denc ss) := by
  intro v hv
  unfold denc dencW at hv
  rcases List.mem_append.1 hv with hv | hv
  · rcases List.mem_append.1 hv with hv | hv
    · exact vput_u8 _ v hv
    · exact entB_u8 _ (fun x hx => h x (dents_mem.1 hx)) v hv
  · rcases List.mem_append.1 hv with hv | hv
    · exact vput_u8 _ v hv
    · exact packB_u8 _ _ v hv
/-- The numbers are packed. -/
theorem pack_good {L : List (List Nat)} {ns : List Nat} (hL : L.length ≤ 4096) (hn : ns.length ≤ 4096) (h : ∀ u ∈ ns, u < L.length) : packE (wfor L.length : Int) ns = 0 ∧ packL (wfor L.length : Int) ns = packB (wfor L.length) ns := by
  have h1 := wfor_le hL
  have h2 := wdt_le.2 (wfor_wd h)
  have hE : packE (wfor L.length : Int) ns = 0 := packE_ok (by omega) (by omega) (by omega)
  refine ⟨hE, ?_⟩
  unfold packL
  rw [if_pos hE, Int.toNat_natCast]

/-- A text with its length read from place a on. -/
def dtx (bs : List Nat) (a : Int) : List Nat × Int × Int :=
  if (vget bs a).2.2 ≠ 0 then ([], 0, (vget bs a).2.2) else if 200 < (vget bs a).1 then ([], 0, 4) else
  if (bs.length : Int) - (vget bs a).2.1 < (vget bs a).1 then ([], 0, 2) else (cut bs (vget bs a).2.1.toNat (vget bs a).1, (vget bs a).2.1 + ((vget bs a).1 : Int), 0)
section
variable {bs : List Nat} {a n e : Int} {k : Nat}
theorem dtx_err (h : vget bs a = (k, n, e)) (he : e ≠ 0) : dtx bs a = ([], 0, e) := by unfold dtx; rw [h]; exact if_pos he
theorem dtx_long (h : vget bs a = (k, n, 0)) (hk : 200 < k) : dtx bs a = ([], 0, 4) := by unfold dtx; rw [h, if_neg (fun q => q rfl), if_pos hk]
theorem dtx_short (h : vget bs a = (k, n, 0)) (hk : k ≤ 200) (hs : (bs.length : Int) - n < k) : dtx bs a = ([], 0, 2) := by
  unfold dtx; rw [h, if_neg (fun q => q rfl), if_neg (by simp only; omega), if_pos hs]
theorem dtx_yes (h : vget bs a = (k, n, 0)) (hk : k ≤ 200) (hs : (k : Int) ≤ (bs.length : Int) - n) : dtx bs a = (cut bs n.toNat k, n + (k : Int), 0) := by
  unfold dtx; rw [h, if_neg (fun q => q rfl), if_neg (by simp only; omega), if_neg (by simp only; omega)]
end
theorem dtx_ok {bs s : List Nat} {a n : Int} (hb : U8 bs) (h : dtx bs a = (s, n, 0)) : 0 ≤ a ∧ a ≤ n ∧ n ≤ bs.length ∧ s.length ≤ 200 ∧ U8 s ∧ vput s.length ++ s = (bs.drop a.toNat).take (n.toNat - a.toNat) := by
  rcases h1 : vget bs a with ⟨k, n1, e1⟩
  by_cases g1 : e1 = 0
  · subst g1
    by_cases hk : 200 < k
    · rw [dtx_long h1 hk] at h; injection h with _ h; injection h with _ h; exact absurd h (by decide)
    · by_cases hs : (bs.length : Int) - n1 < k
      · rw [dtx_short h1 (by omega) hs] at h; injection h with _ h; injection h with _ h; exact absurd h (by decide)
      · rw [dtx_yes h1 (by omega) (by omega)] at h
        injection h with hs1 h
        injection h with hn1 _
        obtain ⟨a1, a2, a3, a4, a5⟩ := vget_at hb h1
        have hcl : (cut bs n1.toNat k).length = k := cut_len (by omega)
        subst hs1
        refine ⟨a1, by omega, by omega, by omega, cut_u8 hb _ _, ?_⟩
        rw [hcl, a5, ← hn1]
        unfold cut
        have e1 : n1.toNat = a.toNat + (n1.toNat - a.toNat) := by omega
        have e3 : (n1 + (k : Int)).toNat - a.toNat = (n1.toNat - a.toNat) + k := by omega
        rw [e3, List.take_add, List.drop_drop, ← e1]
  · rw [dtx_err h1 g1] at h; injection h with _ h; injection h with _ h; exact absurd h g1
theorem dtx_put (pre s post : List Nat) (hs : s.length ≤ 200) : dtx (pre ++ (vput s.length ++ (s ++ post))) (pre.length : Int) = (s, (pre.length : Int) + ((vput s.length ++ s).length : Int), 0) := by
  have g1 : vget (pre ++ (vput s.length ++ (s ++ post))) (pre.length : Int) = (s.length, (pre.length : Int) + (vsize s.length : Int), 0) := by
    refine vget_ok (by simp) ?_
    rw [List.drop_append_of_le_length (Nat.le_refl _), List.drop_length, List.nil_append]
    exact vgetF_vput (by omega) _
  have hcut : cut (pre ++ (vput s.length ++ (s ++ post))) ((pre.length : Int) + (vsize s.length : Int)).toNat s.length = s := by
    have e2 : ((pre.length : Int) + (vsize s.length : Int)).toNat = (pre ++ vput s.length).length := by rw [List.length_append, vput_len]; omega
    unfold cut
    rw [← List.append_assoc, e2, List.drop_append_of_le_length (Nat.le_refl _), List.drop_length, List.nil_append, List.take_append_of_le_length (Nat.le_refl _), List.take_length]
  rw [dtx_yes g1 hs (by simp only [List.length_append, vput_len]; omega), hcut, List.length_append, vput_len]
  simp only [Prod.mk.injEq, true_and, and_true]
  omega

/-- Entries read one behind the other, each behind the one ahead. -/
def dnA (bs : List Nat) : Nat → Int → List (List Nat) → List (List Nat) × Int × Int
  | 0, a, acc => (acc, a, 0)
  | n + 1, a, acc => if (dtx bs a).2.2 ≠ 0 then ([], 0, (dtx bs a).2.2) else if 0 < acc.length ∧ 0 ≤ ordT (acc.getD (acc.length - 1) []) (dtx bs a).1 then ([], 0, 5) else dnA bs n (dtx bs a).2.1 (acc ++ [(dtx bs a).1])
section
variable {bs s : List Nat} {n : Nat} {a m e : Int} {acc : List (List Nat)}
theorem dnA_err (h : dtx bs a = (s, m, e)) (he : e ≠ 0) : dnA bs (n + 1) a acc = ([], 0, e) := by rw [dnA, h]; exact if_pos he
theorem dnA_form (h : dtx bs a = (s, m, 0)) (ho : 0 < acc.length ∧ 0 ≤ ordT (acc.getD (acc.length - 1) []) s) : dnA bs (n + 1) a acc = ([], 0, 5) := by rw [dnA, h, if_neg (fun q => q rfl)]; exact if_pos ho
theorem dnA_next (h : dtx bs a = (s, m, 0)) (ho : ¬ (0 < acc.length ∧ 0 ≤ ordT (acc.getD (acc.length - 1) []) s)) : dnA bs (n + 1) a acc = dnA bs n m (acc ++ [s]) := by rw [dnA, h, if_neg (fun q => q rfl)]; exact if_neg ho
end
theorem asc_snoc {acc : List (List Nat)} {s : List Nat} (h : Asc acc) (ho : ¬ (0 < acc.length ∧ 0 ≤ ordT (acc.getD (acc.length - 1) []) s)) : Asc (acc ++ [s]) := by
  refine List.pairwise_append.2 ⟨h, by simp, fun x hx y hy => ?_⟩
  simp at hy
  subst hy
  obtain ⟨i, hi⟩ := List.getElem?_of_mem hx
  obtain ⟨q1, e1⟩ := List.getElem?_eq_some_iff.1 hi
  have hl : acc.length - 1 < acc.length := by omega
  have hlast : ordT (acc.getD (acc.length - 1) []) y < 0 := by
    rcases Int.lt_or_le (ordT (acc.getD (acc.length - 1) []) y) 0 with h1 | h1
    · exact h1
    · exact absurd ⟨by omega, h1⟩ ho
  have hg : acc.getD (acc.length - 1) [] = acc[acc.length - 1] := by simp [List.getD, hl]
  rw [hg] at hlast
  by_cases hie : i = acc.length - 1
  · subst hie; rw [← e1]; exact hlast
  · have := List.pairwise_iff_getElem.1 h i (acc.length - 1) q1 hl (by omega)
    rw [e1] at this
    exact ordT_trans this hlast
theorem dnA_ok {bs : List Nat} (hb : U8 bs) : ∀ (n : Nat) {a m : Int} {acc L : List (List Nat)}, Asc acc → 0 ≤ a → a ≤ bs.length → dnA bs n a acc = (L, m, 0) →
    ∃ T, L = acc ++ T ∧ T.length = n ∧ 0 ≤ m ∧ a ≤ m ∧ m ≤ bs.length ∧ entB T = (bs.drop a.toNat).take (m.toNat - a.toNat) ∧ Asc L ∧ ∀ s ∈ T, s.length ≤ 200 ∧ U8 s
  | 0, a, m, acc, L, ha, h0, h1, h => by
    injection h with e1 h
    injection h with e2 _
    subst e1 e2
    exact ⟨[], by simp, rfl, h0, Int.le_refl _, h1, by rw [Nat.sub_self]; rfl, ha, fun s hs => by cases hs⟩
  | n + 1, a, m, acc, L, ha, h0, h1, h => by
    rcases hd : dtx bs a with ⟨s, m1, e⟩
    by_cases he : e = 0
    · subst he
      by_cases ho : 0 < acc.length ∧ 0 ≤ ordT (acc.getD (acc.length - 1) []) s
      · rw [dnA_form hd ho] at h; injection h with _ h; injection h with _ h; exact absurd h (by decide)
      · rw [dnA_next hd ho] at h
        obtain ⟨q1, q2, q3, q4, q5, q6⟩ := dtx_ok hb hd
        obtain ⟨T, r1, r2, r3, r4, r5, r6, r7, r8⟩ := dnA_ok hb n (asc_snoc ha ho) (by omega) q3 h
        refine ⟨s :: T, by rw [r1]; simp, by simp [r2], r3, by omega, r5, ?_, r7, ?_⟩
        · have e2 : m.toNat - a.toNat = (m1.toNat - a.toNat) + (m.toNat - m1.toNat) := by omega
          have e3 : a.toNat + (m1.toNat - a.toNat) = m1.toNat := by omega
          rw [entB_cons, ← List.append_assoc, q6, r6, e2, List.take_add, List.drop_drop, e3]
        · intro x hx
          rcases List.mem_cons.1 hx with rfl | hx
          · exact ⟨q4, q5⟩
          · exact r8 x hx
    · rw [dnA_err hd he] at h; injection h with _ h; injection h with _ h; exact absurd h he
theorem dnA_no {bs : List Nat} : ∀ (n : Nat) {a m e : Int} {acc L : List (List Nat)}, dnA bs n a acc = (L, m, e) → e ≠ 0 → L = [] ∧ m = 0
  | 0, a, m, e, acc, L, h, he => by injection h with _ h; injection h with _ h; exact absurd h.symm he
  | n + 1, a, m, e, acc, L, h, he => by
    unfold dnA at h
    split at h
    · injection h with h1 h; injection h with h2 _; exact ⟨h1.symm, h2.symm⟩
    · split at h
      · injection h with h1 h; injection h with h2 _; exact ⟨h1.symm, h2.symm⟩
      · exact dnA_no n h he
theorem dnA_put : ∀ (T acc : List (List Nat)) (bs hd post : List Nat), (∀ s ∈ T, s.length ≤ 200) → bs = hd ++ (entB T ++ post) → Asc (acc ++ T) → dnA bs T.length (hd.length : Int) acc = (acc ++ T, ((hd ++ entB T).length : Int), 0)
  | [], acc, bs, hd, post, _, _, _ => by
    show (acc, (hd.length : Int), (0 : Int)) = _
    simp [entB]
  | s :: r, acc, bs, hd, post, h, hb, ha => by
    have h1 := dtx_put hd s (entB r ++ post) (h s (by simp))
    have e1 : bs = hd ++ (vput s.length ++ (s ++ (entB r ++ post))) := by rw [hb, entB_cons]; simp
    rw [← e1] at h1
    have ho : ¬ (0 < acc.length ∧ 0 ≤ ordT (acc.getD (acc.length - 1) []) s) := by
      rintro ⟨h2, h3⟩
      have hl : acc.length - 1 < acc.length := by omega
      have hm : acc.getD (acc.length - 1) [] ∈ acc := by simp [List.getD, hl]
      have := (List.pairwise_append.1 ha).2.2 _ hm s (by simp)
      omega
    show dnA bs (r.length + 1) _ acc = _
    rw [dnA_next h1 ho, show (hd.length : Int) + ((vput s.length ++ s).length : Int) = (((hd ++ (vput s.length ++ s)).length : Nat) : Int) from by simp only [List.length_append]; omega,
      dnA_put r (acc ++ [s]) bs (hd ++ (vput s.length ++ s)) post (fun x hx => h x (by simp [hx])) (by rw [e1]; simp) (by rw [List.append_assoc]; exact ha)]
    simp [entB_cons]

/-- Each number is an entry's, and each entry's number is there. -/
def meant (us : List Nat) (n : Nat) : Bool := decide (∀ u ∈ us, u < n) && (List.range n).all fun i => decide (i ∈ us)
theorem meant_iff {us : List Nat} {n : Nat} : meant us n = true ↔ (∀ u ∈ us, u < n) ∧ ∀ i, i < n → i ∈ us := by simp [meant]
/-- The texts of numbers. -/
def txtsOf (L : List (List Nat)) (us : List Nat) : List (List Nat) := us.map fun u => L.getD u []

/-- What Decode answers. -/
def ddec (bs : List Nat) : List (List Nat) × Int :=
  if (vget bs 0).2.2 ≠ 0 then ([], (vget bs 0).2.2) else if 4096 < (vget bs 0).1 then ([], 4) else
  if (dnA bs (vget bs 0).1 (vget bs 0).2.1 []).2.2 ≠ 0 then ([], (dnA bs (vget bs 0).1 (vget bs 0).2.1 []).2.2) else
  ddecB bs (dnA bs (vget bs 0).1 (vget bs 0).2.1 []).1 (dnA bs (vget bs 0).1 (vget bs 0).2.1 []).2.1
where
  ddecB (bs : List Nat) (L : List (List Nat)) (a : Int) : List (List Nat) × Int :=
    if (vget bs a).2.2 ≠ 0 then ([], (vget bs a).2.2) else if 4096 < (vget bs a).1 then ([], 4) else
    ddecC L (bs.drop (vget bs a).2.1.toNat) (vget bs a).1
  ddecC (L : List (List Nat)) (r : List Nat) (n : Nat) : List (List Nat) × Int :=
    if unpE (pk 8 r) r.length (wfor L.length : Int) (n : Int) ≠ 0 then ([], unpE (pk 8 r) r.length (wfor L.length : Int) (n : Int)) else
    if meant (unpL (pk 8 r) r.length (wfor L.length : Int) (n : Int)) L.length = false then ([], 5) else (txtsOf L (unpL (pk 8 r) r.length (wfor L.length : Int) (n : Int)), 0)

theorem ddec_e1 {bs : List Nat} {k : Nat} {n e : Int} (h : vget bs 0 = (k, n, e)) (he : e ≠ 0) : ddec bs = ([], e) := by unfold ddec; rw [h]; exact if_pos he
theorem ddec_long {bs : List Nat} {k : Nat} {n : Int} (h : vget bs 0 = (k, n, 0)) (hk : 4096 < k) : ddec bs = ([], 4) := by unfold ddec; rw [h, if_neg (fun q => q rfl), if_pos hk]
theorem ddec_e2 {bs : List Nat} {k : Nat} {n m e : Int} {L : List (List Nat)} (h : vget bs 0 = (k, n, 0)) (hk : k ≤ 4096) (h2 : dnA bs k n [] = (L, m, e)) (he : e ≠ 0) : ddec bs = ([], e) := by
  unfold ddec; rw [h, if_neg (fun q => q rfl), if_neg (by simp only; omega)]; simp only [h2]; rw [if_pos he]
theorem ddec_go {bs : List Nat} {k : Nat} {n m : Int} {L : List (List Nat)} (h : vget bs 0 = (k, n, 0)) (hk : k ≤ 4096) (h2 : dnA bs k n [] = (L, m, 0)) : ddec bs = ddec.ddecB bs L m := by
  unfold ddec; rw [h, if_neg (fun q => q rfl), if_neg (by simp only; omega)]; simp only [h2]; rw [if_neg (fun q => q rfl)]
section
variable {bs : List Nat} {L : List (List Nat)} {a n e : Int} {k : Nat}
theorem ddecB_err (h : vget bs a = (k, n, e)) (he : e ≠ 0) : ddec.ddecB bs L a = ([], e) := by unfold ddec.ddecB; rw [h]; exact if_pos he
theorem ddecB_long (h : vget bs a = (k, n, 0)) (hk : 4096 < k) : ddec.ddecB bs L a = ([], 4) := by unfold ddec.ddecB; rw [h, if_neg (fun q => q rfl), if_pos hk]
theorem ddecB_go (h : vget bs a = (k, n, 0)) (hk : k ≤ 4096) : ddec.ddecB bs L a = ddec.ddecC L (bs.drop n.toNat) k := by unfold ddec.ddecB; rw [h, if_neg (fun q => q rfl), if_neg (by simp only; omega)]
theorem ddecC_err {r : List Nat} (h : unpE (pk 8 r) r.length (wfor L.length : Int) (k : Int) ≠ 0) : ddec.ddecC L r k = ([], unpE (pk 8 r) r.length (wfor L.length : Int) (k : Int)) := if_pos h
theorem ddecC_form {r us : List Nat} (h : unpE (pk 8 r) r.length (wfor L.length : Int) (k : Int) = 0) (h2 : unpL (pk 8 r) r.length (wfor L.length : Int) (k : Int) = us) (hm : meant us L.length = false) : ddec.ddecC L r k = ([], 5) := by
  unfold ddec.ddecC; rw [if_neg (fun q => q h), h2, if_pos hm]
theorem ddecC_yes {r us : List Nat} (h : unpE (pk 8 r) r.length (wfor L.length : Int) (k : Int) = 0) (h2 : unpL (pk 8 r) r.length (wfor L.length : Int) (k : Int) = us) (hm : meant us L.length = true) : ddec.ddecC L r k = (txtsOf L us, 0) := by
  unfold ddec.ddecC; rw [if_neg (fun q => q h), h2, if_neg (by rw [hm]; decide)]
end
theorem ddecC_no {L : List (List Nat)} {r : List Nat} {k : Nat} {e : Int} {ss : List (List Nat)} (h : ddec.ddecC L r k = (ss, e)) (he : e ≠ 0) : ss = [] := by
  unfold ddec.ddecC at h
  split at h
  · injection h with h _; exact h.symm
  · split at h
    · injection h with h _; exact h.symm
    · injection h with _ h; exact absurd h.symm he
theorem ddec_no {bs : List Nat} {e : Int} {ss : List (List Nat)} (h : ddec bs = (ss, e)) (he : e ≠ 0) : ss = [] := by
  unfold ddec at h
  split at h
  · injection h with h _; exact h.symm
  · split at h
    · injection h with h _; exact h.symm
    · split at h
      · injection h with h _; exact h.symm
      · unfold ddec.ddecB at h
        split at h
        · injection h with h _; exact h.symm
        · split at h
          · injection h with h _; exact h.symm
          · exact ddecC_no h he

theorem skN_of {L : List (List Nat)} {x : List Nat} {i : Nat} (ha : Asc L) (h : L[i]? = some x) : skN x L = i := by
  have h2 := skN_at ha (List.mem_of_getElem? h)
  obtain ⟨q1, e1⟩ := List.getElem?_eq_some_iff.1 h
  obtain ⟨q2, e2⟩ := List.getElem?_eq_some_iff.1 h2
  rcases Nat.lt_trichotomy (skN x L) i with g | g | g
  · have := List.pairwise_iff_getElem.1 ha _ _ q2 q1 g
    rw [e1, e2, ordT_self] at this; omega
  · exact g
  · have := List.pairwise_iff_getElem.1 ha _ _ q1 q2 g
    rw [e1, e2, ordT_self] at this; omega

/-- What is encoded is decoded again. -/
theorem ddec_put {ss : List (List Nat)} (hn : ss.length ≤ 4096) (h : anyLong ss = false) : ddec (denc ss) = (ss, 0) := by
  have hL := dents_len ss.length ss rfl
  have hs := dents_short h
  have ha := dents_asc ss
  obtain ⟨L, hLe⟩ : ∃ L, L = dents ss := ⟨_, rfl⟩
  have hns : dcodes ss = ss.map (fun s => skN s L) := by rw [hLe]; rfl
  have hlt : ∀ u ∈ dcodes ss, u < L.length := by rw [hLe]; exact dcodes_lt
  have hcl := dcodes_len ss
  have hmem : ∀ x, x ∈ L ↔ x ∈ ss := fun x => by rw [hLe]; exact dents_mem
  have hden : denc ss = dencW L (dcodes ss) := by rw [hLe]; rfl
  rw [← hLe] at hL hs ha
  obtain ⟨ns, hnse⟩ : ∃ ns, ns = dcodes ss := ⟨_, rfl⟩
  rw [← hnse] at hns hlt hcl hden
  rw [hden]
  have hw : dencW L ns = vput L.length ++ (entB L ++ (vput ns.length ++ packB (wfor L.length) ns)) := by unfold dencW; simp
  have g1 : vget (dencW L ns) 0 = (L.length, (vsize L.length : Int), 0) := by
    have := vget_ok (bs := dencW L ns) (a := 0) (u := L.length) (k := vsize L.length) (Nat.zero_le _) (by
      rw [List.drop_zero, hw]
      exact vgetF_vput (by omega) _)
    simpa using this
  have g2 : dnA (dencW L ns) L.length (vsize L.length : Int) [] = (L, ((vput L.length ++ entB L).length : Int), 0) := by
    have := dnA_put L [] (dencW L ns) (vput L.length) (vput ns.length ++ packB (wfor L.length) ns) hs hw ha
    rw [vput_len] at this
    exact this
  have g3 : vget (dencW L ns) ((vput L.length ++ entB L).length : Int) = (ns.length, ((vput L.length ++ entB L).length : Int) + (vsize ns.length : Int), 0) := by
    refine vget_ok (by unfold dencW; simp only [List.length_append]; omega) ?_
    unfold dencW
    rw [List.drop_append_of_le_length (Nat.le_refl _), List.drop_length, List.nil_append]
    exact vgetF_vput (by omega) _
  have g4 : (dencW L ns).drop (((vput L.length ++ entB L).length : Int) + (vsize ns.length : Int)).toNat = packB (wfor L.length) ns := by
    have e : (((vput L.length ++ entB L).length : Int) + (vsize ns.length : Int)).toNat = ((vput L.length ++ entB L) ++ vput ns.length).length := by simp only [List.length_append, vput_len]; omega
    have e2 : dencW L ns = ((vput L.length ++ entB L) ++ vput ns.length) ++ packB (wfor L.length) ns := by unfold dencW; simp
    rw [e, e2, List.drop_append_of_le_length (Nat.le_refl _), List.drop_length, List.nil_append]
  have hwl := wfor_le (n := L.length) (by omega)
  obtain ⟨u1, u2, _⟩ := unp_pack (wd := wfor L.length) (vs := ns) (by omega) (by omega) (wfor_wd hlt)
  have hm : meant ns L.length = true := meant_iff.2 ⟨hlt, fun i hi => by
    have hi2 : L[i]? = some L[i] := List.getElem?_eq_getElem hi
    rw [hns]
    exact List.mem_map.2 ⟨L[i], (hmem _).1 (List.getElem_mem hi), skN_of ha hi2⟩⟩
  rw [ddec_go g1 (by omega) g2, ddecB_go g3 (by omega), g4, ddecC_yes u1 u2 hm]
  congr 1
  unfold txtsOf
  rw [hns, List.map_map]
  conv => rhs; rw [← List.map_id ss]
  refine List.map_congr_left fun x hx => ?_
  have := skN_at ha ((hmem x).2 hx)
  show L.getD (skN x L) [] = x
  simp [List.getD, this]

/-- Bytes that are decoded are the only ones of their texts. -/
theorem ddec_ok {bs : List Nat} {ss : List (List Nat)} (hb : U8 bs) (h : ddec bs = (ss, 0)) : denc ss = bs ∧ ss.length ≤ 4096 ∧ anyLong ss = false ∧ ∀ s ∈ ss, U8 s ∧ s.length ≤ 200 := by
  rcases h1 : vget bs 0 with ⟨k, n, e⟩
  by_cases he : e = 0
  · subst he
    by_cases hk : 4096 < k
    · rw [ddec_long h1 hk] at h; injection h with _ h; exact absurd h (by decide)
    · obtain ⟨a1, a2, a3, a4, a5⟩ := vget_at hb h1
      rcases h2 : dnA bs k n [] with ⟨L, m, e2⟩
      by_cases he2 : e2 = 0
      · subst he2
        rw [ddec_go h1 (by omega) h2] at h
        obtain ⟨T, r1, r2, r3, r4, r5, r6, r7, r8⟩ := dnA_ok hb k (acc := []) List.Pairwise.nil (by omega) a3 h2
        rw [List.nil_append] at r1
        subst r1
        rcases h3 : vget bs m with ⟨k2, n2, e3⟩
        by_cases he3 : e3 = 0
        · subst he3
          by_cases hk2 : 4096 < k2
          · rw [ddecB_long h3 hk2] at h; injection h with _ h; exact absurd h (by decide)
          · obtain ⟨b1, b2, b3, b4, b5⟩ := vget_at hb h3
            rw [ddecB_go h3 (by omega)] at h
            obtain ⟨r, hr⟩ : ∃ r, r = bs.drop n2.toNat := ⟨_, rfl⟩
            rw [← hr] at h
            have hru : U8 r := by rw [hr]; exact u8_drop hb _
            by_cases hu : unpE (pk 8 r) r.length (wfor L.length : Int) (k2 : Int) = 0
            · have hus := unp_ok hu
              rw [Int.toNat_natCast, Int.toNat_natCast] at hus
              obtain ⟨us, huse⟩ : ∃ us, us = upk (wfor L.length) k2 (pk 8 r) := ⟨_, rfl⟩
              rw [← huse] at hus
              have hul : us.length = k2 := by rw [huse]; exact upk_len ..
              cases hm : meant us L.length with
              | false => rw [ddecC_form hu hus hm] at h; injection h with _ h; exact absurd h (by decide)
              | true =>
                rw [ddecC_yes hu hus hm] at h
                injection h with h _
                obtain ⟨m1, m2⟩ := meant_iff.1 hm
                have hget : ∀ u, u < L.length → L[u]? = some (L.getD u []) := fun u hu => by simp [List.getD, hu]
                have hmem : ∀ x, x ∈ ss ↔ x ∈ L := fun x => by
                  rw [← h]
                  unfold txtsOf
                  rw [List.mem_map]
                  constructor
                  · rintro ⟨u, hu, rfl⟩; exact List.mem_of_getElem? (hget u (m1 u hu))
                  · intro hx
                    obtain ⟨i, hi⟩ := List.getElem?_of_mem hx
                    have hil := (List.getElem?_eq_some_iff.1 hi).1
                    refine ⟨i, m2 i hil, ?_⟩
                    have := hget i hil
                    rw [hi] at this
                    injection this with this
                    exact this.symm
                have hd : dents ss = L := Asc.ext (dents_asc ss) r7 (fun x => by rw [dents_mem, hmem])
                have hc : dcodes ss = us := by
                  unfold dcodes
                  rw [hd, ← h]
                  unfold txtsOf
                  rw [List.map_map]
                  conv => rhs; rw [← List.map_id us]
                  refine List.map_congr_left fun u hu => ?_
                  exact skN_of r7 (hget u (m1 u hu))
                have hwl := wfor_le (n := L.length) (by omega)
                have hpk := (pack_unp (wd := wfor L.length) (n := k2) (by omega) (by omega) hru hu).2
                rw [← huse] at hpk
                have hpb : packB (wfor L.length) us = r := by rw [← hpk, (pack_good (by omega) (by omega) m1).2]
                have hlen : ss.length = k2 := by rw [← h]; unfold txtsOf; rw [List.length_map, hul]
                refine ⟨?_, by omega, ?_, fun s hs => ?_⟩
                · unfold denc
                  rw [hd, hc]
                  unfold dencW
                  rw [hul, hpb, r2, a5, r6, b5, hr]
                  have e1 : (0 : Int).toNat = 0 := rfl
                  rw [e1, List.drop_zero, Nat.sub_zero]
                  have e2 : (bs.take n.toNat) ++ ((bs.drop n.toNat).take (m.toNat - n.toNat)) = bs.take m.toNat := by
                    conv => rhs; rw [show m.toNat = n.toNat + (m.toNat - n.toNat) by omega, List.take_add]
                  have e3 : (bs.drop m.toNat).take (n2.toNat - m.toNat) ++ bs.drop n2.toNat = bs.drop m.toNat := by
                    conv => lhs; rhs; rw [show n2.toNat = m.toNat + (n2.toNat - m.toNat) by omega, ← List.drop_drop]
                    rw [List.take_append_drop]
                  rw [e2, e3, List.take_append_drop]
                · cases q : anyLong ss with
                  | false => rfl
                  | true =>
                    obtain ⟨s, hs, hl⟩ := anyLong_iff.1 q
                    have := (r8 s ((hmem s).1 hs)).1
                    omega
                · exact ⟨(r8 s ((hmem s).1 hs)).2, (r8 s ((hmem s).1 hs)).1⟩
            · rw [ddecC_err hu] at h; injection h with _ h; exact absurd h hu
        · rw [ddecB_err h3 he3] at h; injection h with _ h; exact absurd h he3
      · rw [ddec_e2 h1 (by omega) h2 he2] at h; injection h with _ h; exact absurd h he2
  · rw [ddec_e1 h1 he] at h; injection h with _ h; exact absurd h he

end Go.Proofs.Ytpdppldkebfikaa
