/-
  Layer 11's mathematics: texts of which each begins as the one ahead does.
-/
import Derived.Test.YtpdppldkebfikaaV3s
import Derived.Test.YtpdppldkebfikaaOT
namespace Go.Proofs.Ytpdppldkebfikaa

/-- How many first bytes two texts share. -/
def cp : List Nat → List Nat → Nat
  | x :: r, y :: s => if x = y then cp r s + 1 else 0
  | [], _ => 0
  | _ :: _, [] => 0

theorem cp_nil (b : List Nat) : cp [] b = 0 := rfl
theorem cp_le : ∀ (a b : List Nat), cp a b ≤ a.length ∧ cp a b ≤ b.length
  | [], b => by simp [cp]
  | x :: r, [] => by simp [cp]
  | x :: r, y :: s => by
    have := cp_le r s
    unfold cp
    split <;> simp <;> omega
theorem cp_take : ∀ (a b : List Nat), a.take (cp a b) = b.take (cp a b)
  | [], b => by simp [cp]
  | x :: r, [] => by simp [cp]
  | x :: r, y :: s => by
    unfold cp
    split
    · rename_i h
      rw [List.take_succ_cons, List.take_succ_cons, cp_take r s, h]
    · simp
theorem cp_ge : ∀ (k : Nat) (a b : List Nat), k ≤ a.length → k ≤ b.length → a.take k = b.take k → k ≤ cp a b
  | 0, _, _, _, _, _ => Nat.zero_le _
  | k + 1, [], _, h, _, _ => by simp at h
  | k + 1, _ :: _, [], _, h, _ => by simp at h
  | k + 1, x :: r, y :: s, h1, h2, h3 => by
    rw [List.take_succ_cons, List.take_succ_cons] at h3
    injection h3 with e1 e2
    have := cp_ge k r s (by simpa using h1) (by simpa using h2) e2
    unfold cp
    rw [if_pos e1]
    omega
theorem cp_get : ∀ (a b : List Nat) (i : Nat), i < cp a b → a.getD i 0 = b.getD i 0
  | [], _, _, h => by simp [cp] at h
  | _ :: _, [], _, h => by simp [cp] at h
  | x :: r, y :: s, i, h => by
    unfold cp at h
    split at h
    · rename_i e
      cases i with
      | zero => simpa using e
      | succ i => simpa using cp_get r s i (by omega)
    · omega
theorem cp_ne : ∀ (a b : List Nat), cp a b < a.length → cp a b < b.length → a.getD (cp a b) 0 ≠ b.getD (cp a b) 0
  | [], _, h, _ => by simp at h
  | _ :: _, [], _, h => by simp at h
  | x :: r, y :: s, h1, h2 => by
    unfold cp at h1 h2 ⊢
    split at h1
    · rename_i e
      simp only [if_pos e] at h2 ⊢
      simp at h1 h2
      simpa using cp_ne r s (by omega) (by omega)
    · rename_i e
      simp only [if_neg e] at h2 ⊢
      simpa using e
theorem cp_step {a b : List Nat} {j : Nat} (h : j ≤ cp a b) (h1 : j < a.length) (h2 : j < b.length) (e : a.getD j 0 = b.getD j 0) : j + 1 ≤ cp a b := by
  rcases Nat.lt_or_ge j (cp a b) with hl | hg
  · exact hl
  · obtain rfl : j = cp a b := by omega
    exact absurd e (cp_ne a b h1 h2)
theorem cp_stop {a b : List Nat} {j : Nat} (h : j ≤ cp a b) (h1 : a.length ≤ j ∨ b.length ≤ j ∨ a.getD j 0 ≠ b.getD j 0) : cp a b = j := by
  rcases Nat.lt_or_ge j (cp a b) with hl | hg
  · have := cp_le a b
    have := cp_get a b j hl
    rcases h1 with h1 | h1 | h1
    · omega
    · omega
    · exact absurd this h1
  · omega

/-- What stands ahead of the next text, where it is to begin like that. -/
def ahead (acc : List (List Nat)) : List Nat := if acc.length % 16 = 0 then [] else acc.getD (acc.length - 1) []
theorem ahead_whole {acc : List (List Nat)} (h : acc.length % 16 = 0) : ahead acc = [] := if_pos h
theorem ahead_not {acc : List (List Nat)} (h : ¬ acc.length % 16 = 0) : ahead acc = acc.getD (acc.length - 1) [] := if_neg h

/-- A text behind another one, written. -/
def ptext (last s : List Nat) : List Nat := vput (cp last s) ++ (vput (s.length - cp last s) ++ s.drop (cp last s))
def pencA : List (List Nat) → List (List Nat) → List Nat
  | _, [] => []
  | acc, s :: r => ptext (ahead acc) s ++ pencA (acc ++ [s]) r
def penc (ss : List (List Nat)) : List Nat := vput ss.length ++ pencA [] ss

theorem vput_le {u : Nat} (h : u < 18446744073709551616) : (vput u).length ≤ 10 := by rw [vput_len]; exact vsize_le h
theorem ptext_len {last s : List Nat} (h : s.length ≤ 200) : (ptext last s).length ≤ 220 := by
  have h1 := cp_le last s
  have h2 := vput_le (u := cp last s) (by omega)
  have h3 := vput_le (u := s.length - cp last s) (by omega)
  simp only [ptext, List.length_append, List.length_drop]
  omega
theorem ptext_u8 {last s : List Nat} (h : U8 s) : U8 (ptext last s) := by
  intro v hv
  simp only [ptext, List.mem_append] at hv
  rcases hv with hv | hv | hv
  · exact vput_u8 _ v hv
  · exact vput_u8 _ v hv
  · exact h v (List.mem_of_mem_drop hv)
theorem pencA_len : ∀ (acc ss : List (List Nat)), (∀ s ∈ ss, s.length ≤ 200) → (pencA acc ss).length ≤ 220 * ss.length
  | _, [], _ => by simp [pencA]
  | acc, s :: r, h => by
    have h1 := ptext_len (last := ahead acc) (h s (by simp))
    have h2 := pencA_len (acc ++ [s]) r (fun x hx => h x (by simp [hx]))
    simp only [pencA, List.length_append, List.length_cons]
    omega
theorem pencA_u8 : ∀ (acc ss : List (List Nat)), (∀ s ∈ ss, U8 s) → U8 (pencA acc ss)
  | _, [], _ => by intro v hv; cases hv
  | acc, s :: r, h => by
    intro v hv
    rcases List.mem_append.1 hv with hv | hv
    · exact ptext_u8 (h s (by simp)) v hv
    · exact pencA_u8 (acc ++ [s]) r (fun x hx => h x (by simp [hx])) v hv
theorem penc_u8 {ss : List (List Nat)} (h : ∀ s ∈ ss, U8 s) : U8 (penc ss) := by
  intro v hv
  rcases List.mem_append.1 hv with hv | hv
  · exact vput_u8 _ v hv
  · exact pencA_u8 [] ss h v hv
theorem penc_len {ss : List (List Nat)} (hn : ss.length ≤ 4096) (h : ∀ s ∈ ss, s.length ≤ 200) : (penc ss).length ≤ 1000000 := by
  have h1 := vput_le (u := ss.length) (by omega)
  have h2 := pencA_len [] ss h
  simp only [penc, List.length_append]
  omega
/-- The next text is written. -/
theorem pencA_step {ss : List (List Nat)} {j : Nat} {s : List Nat} (h : ss[j]? = some s) : pencA (ss.take j) (ss.drop j) = ptext (ahead (ss.take j)) s ++ pencA (ss.take (j + 1)) (ss.drop (j + 1)) := by
  obtain ⟨h1, rfl⟩ := List.getElem?_eq_some_iff.1 h
  rw [List.drop_eq_getElem_cons h1, pencA, List.take_succ_eq_append_getElem h1]
theorem ahead_take {ss : List (List Nat)} {j : Nat} (hj : j ≤ ss.length) : ahead (ss.take j) = if j % 16 = 0 then [] else ss.getD (j - 1) [] := by
  unfold ahead
  have e : (ss.take j).length = j := by simp; omega
  rw [e]
  by_cases h : j % 16 = 0
  · rw [if_pos h, if_pos h]
  · rw [if_neg h, if_neg h]
    have h0 : 0 < j := by
      rcases Nat.eq_zero_or_pos j with rfl | h0
      · simp at h
      · exact h0
    simp [List.getD, show j - 1 < j from by omega]

/-- A text read from place a on, behind another one: the text, the place behind it, the error's number. -/
def ptx (bs : List Nat) (a : Int) (last : List Nat) : List Nat × Int × Int :=
  if (vget bs a).2.2 ≠ 0 then ([], 0, (vget bs a).2.2) else
  if (vget bs (vget bs a).2.1).2.2 ≠ 0 then ([], 0, (vget bs (vget bs a).2.1).2.2) else
  if last.length < (vget bs a).1 then ([], 0, 5) else
  if 200 < (vget bs (vget bs a).2.1).1 + (vget bs a).1 then ([], 0, 4) else
  if (bs.length : Int) - (vget bs (vget bs a).2.1).2.1 < (vget bs (vget bs a).2.1).1 then ([], 0, 2) else
  if (vget bs a).1 < cp last (last.take (vget bs a).1 ++ cut bs (vget bs (vget bs a).2.1).2.1.toNat (vget bs (vget bs a).2.1).1) then ([], 0, 5) else
  (last.take (vget bs a).1 ++ cut bs (vget bs (vget bs a).2.1).2.1.toNat (vget bs (vget bs a).2.1).1, (vget bs (vget bs a).2.1).2.1 + ((vget bs (vget bs a).2.1).1 : Int), 0)

section
variable {bs last : List Nat} {a n m e : Int} {k r : Nat}
theorem ptx_e1 (h : vget bs a = (k, n, e)) (he : e ≠ 0) : ptx bs a last = ([], 0, e) := by unfold ptx; rw [h]; exact if_pos he
theorem ptx_e2 (h : vget bs a = (k, n, 0)) (h2 : vget bs n = (r, m, e)) (he : e ≠ 0) : ptx bs a last = ([], 0, e) := by
  unfold ptx; rw [h]; simp only; rw [if_neg (by decide), h2]; exact if_pos he
theorem ptx_form (h : vget bs a = (k, n, 0)) (h2 : vget bs n = (r, m, 0)) (hk : last.length < k) : ptx bs a last = ([], 0, 5) := by
  unfold ptx; rw [h]; simp only; rw [if_neg (by decide), h2, if_neg (fun q => q rfl), if_pos hk]
theorem ptx_long (h : vget bs a = (k, n, 0)) (h2 : vget bs n = (r, m, 0)) (hk : k ≤ last.length) (hr : 200 < r + k) : ptx bs a last = ([], 0, 4) := by
  unfold ptx; rw [h]; simp only; rw [if_neg (by decide), h2, if_neg (fun q => q rfl), if_neg (by omega), if_pos hr]
theorem ptx_short (h : vget bs a = (k, n, 0)) (h2 : vget bs n = (r, m, 0)) (hk : k ≤ last.length) (hr : r + k ≤ 200) (hs : (bs.length : Int) - m < r) : ptx bs a last = ([], 0, 2) := by
  unfold ptx; rw [h]; simp only; rw [if_neg (by decide), h2, if_neg (fun q => q rfl), if_neg (by omega)]; simp only; rw [if_neg (by omega), if_pos hs]
theorem ptx_more (h : vget bs a = (k, n, 0)) (h2 : vget bs n = (r, m, 0)) (hk : k ≤ last.length) (hr : r + k ≤ 200) (hs : (r : Int) ≤ (bs.length : Int) - m) (hc : k < cp last (last.take k ++ cut bs m.toNat r)) : ptx bs a last = ([], 0, 5) := by
  unfold ptx; rw [h]; simp only; rw [if_neg (by decide), h2, if_neg (fun q => q rfl), if_neg (by omega)]; simp only; rw [if_neg (by omega), if_neg (by omega), if_pos hc]
theorem ptx_yes (h : vget bs a = (k, n, 0)) (h2 : vget bs n = (r, m, 0)) (hk : k ≤ last.length) (hr : r + k ≤ 200) (hs : (r : Int) ≤ (bs.length : Int) - m) (hc : cp last (last.take k ++ cut bs m.toNat r) ≤ k) : ptx bs a last = (last.take k ++ cut bs m.toNat r, m + (r : Int), 0) := by
  unfold ptx; rw [h]; simp only; rw [if_neg (by decide), h2, if_neg (fun q => q rfl), if_neg (by omega)]; simp only; rw [if_neg (by omega), if_neg (by omega), if_neg (by omega)]
end

/-- A text that was read: where it stands, and as what. -/
theorem ptx_ok {bs last s : List Nat} {a n : Int} (hb : U8 bs) (hl : U8 last) (h : ptx bs a last = (s, n, 0)) :
    0 ≤ a ∧ a ≤ n ∧ n ≤ bs.length ∧ s.length ≤ 200 ∧ U8 s ∧ ptext last s = (bs.drop a.toNat).take (n.toNat - a.toNat) := by
  rcases h1 : vget bs a with ⟨k, n1, e1⟩
  by_cases g1 : e1 = 0
  · subst g1
    rcases h2 : vget bs n1 with ⟨r, m, e2⟩
    by_cases g2 : e2 = 0
    · subst g2
      by_cases hk : last.length < k
      · rw [ptx_form h1 h2 hk] at h; injection h with _ h; injection h with _ h; exact absurd h (by decide)
      · by_cases hr : 200 < r + k
        · rw [ptx_long h1 h2 (by omega) hr] at h; injection h with _ h; injection h with _ h; exact absurd h (by decide)
        · by_cases hs : (bs.length : Int) - m < r
          · rw [ptx_short h1 h2 (by omega) (by omega) hs] at h; injection h with _ h; injection h with _ h; exact absurd h (by decide)
          · by_cases hc : k < cp last (last.take k ++ cut bs m.toNat r)
            · rw [ptx_more h1 h2 (by omega) (by omega) (by omega) hc] at h; injection h with _ h; injection h with _ h; exact absurd h (by decide)
            · rw [ptx_yes h1 h2 (by omega) (by omega) (by omega) (by omega)] at h
              injection h with hs1 h
              injection h with hn1 _
              obtain ⟨a1, a2, a3, a4, a5⟩ := vget_at hb h1
              obtain ⟨b1, b2, b3, b4, b5⟩ := vget_at hb h2
              have hcl : (cut bs m.toNat r).length = r := cut_len (by omega)
              have htl : (last.take k).length = k := by simp; omega
              have hsl : s.length = k + r := by rw [← hs1, List.length_append, htl, hcl]
              have hpre : s.take k = last.take k := by rw [← hs1, List.take_append_of_le_length (by omega), List.take_of_length_le (by omega)]
              have hcp : cp last s = k := by
                have := cp_ge k last s (by omega) (by omega) hpre.symm
                rw [hs1] at hc
                omega
              refine ⟨a1, by omega, by omega, by omega, ?_, ?_⟩
              · intro v hv
                rw [← hs1] at hv
                rcases List.mem_append.1 hv with hv | hv
                · exact hl v (List.mem_of_mem_take hv)
                · exact cut_u8 hb _ _ v hv
              · have hd : s.drop k = cut bs m.toNat r := by rw [← hs1, List.drop_append_of_le_length (by omega), List.drop_of_length_le (by omega), List.nil_append]
                unfold ptext
                rw [hcp, hd, show s.length - k = r from by omega, a5, b5, ← hn1]
                unfold cut
                have e1 : n1.toNat = a.toNat + (n1.toNat - a.toNat) := by omega
                have e2 : m.toNat = n1.toNat + (m.toNat - n1.toNat) := by omega
                have e3 : (m + (r : Int)).toNat - a.toNat = (n1.toNat - a.toNat) + ((m.toNat - n1.toNat) + r) := by omega
                rw [e3, List.take_add, List.take_add, List.drop_drop, List.drop_drop, ← e1, ← e2]
    · rw [ptx_e2 h1 h2 g2] at h; injection h with _ h; injection h with _ h; exact absurd h g2
  · rw [ptx_e1 h1 g1] at h; injection h with _ h; injection h with _ h; exact absurd h g1

/-- A text that is not read answers nothing. -/
theorem ptx_no {bs last s : List Nat} {a n e : Int} (h : ptx bs a last = (s, n, e)) (he : e ≠ 0) : s = [] ∧ n = 0 := by
  unfold ptx at h
  split at h
  · injection h with h1 h; injection h with h2 _; exact ⟨h1.symm, h2.symm⟩
  · split at h
    · injection h with h1 h; injection h with h2 _; exact ⟨h1.symm, h2.symm⟩
    · split at h
      · injection h with h1 h; injection h with h2 _; exact ⟨h1.symm, h2.symm⟩
      · split at h
        · injection h with h1 h; injection h with h2 _; exact ⟨h1.symm, h2.symm⟩
        · split at h
          · injection h with h1 h; injection h with h2 _; exact ⟨h1.symm, h2.symm⟩
          · split at h
            · injection h with h1 h; injection h with h2 _; exact ⟨h1.symm, h2.symm⟩
            · injection h with _ h; injection h with _ h; exact absurd h.symm he

/-- A text that was written is read. -/
theorem ptx_put (pre last s post : List Nat) (hs : s.length ≤ 200) : ptx (pre ++ (ptext last s ++ post)) (pre.length : Int) last = (s, (pre.length : Int) + ((ptext last s).length : Int), 0) := by
  obtain ⟨h1, h2⟩ := cp_le last s
  have h3 := cp_take last s
  obtain ⟨k, hk⟩ : ∃ k, k = cp last s := ⟨_, rfl⟩
  have hpt : ptext last s = vput k ++ (vput (s.length - k) ++ s.drop k) := by rw [hk]; rfl
  rw [← hk] at h1 h2 h3
  have g1 : vget (pre ++ (ptext last s ++ post)) (pre.length : Int) = (k, (pre.length : Int) + (vsize k : Int), 0) := by
    refine vget_ok (by simp) ?_
    rw [List.drop_append_of_le_length (Nat.le_refl _), List.drop_length, List.nil_append, hpt, List.append_assoc]
    exact vgetF_vput (by omega) _
  have g2 : vget (pre ++ (ptext last s ++ post)) ((pre.length : Int) + (vsize k : Int)) = (s.length - k, (pre.length : Int) + (vsize k : Int) + (vsize (s.length - k) : Int), 0) := by
    have e : pre ++ (ptext last s ++ post) = (pre ++ vput k) ++ (vput (s.length - k) ++ (s.drop k ++ post)) := by rw [hpt]; simp
    have e2 : (pre.length : Int) + (vsize k : Int) = (((pre ++ vput k).length : Nat) : Int) := by rw [List.length_append, vput_len]; omega
    rw [e, e2]
    refine vget_ok (by simp) ?_
    rw [List.drop_append_of_le_length (Nat.le_refl _), List.drop_length, List.nil_append]
    exact vgetF_vput (by omega) _
  have hcut : cut (pre ++ (ptext last s ++ post)) ((pre.length : Int) + (vsize k : Int) + (vsize (s.length - k) : Int)).toNat (s.length - k) = s.drop k := by
    have e : pre ++ (ptext last s ++ post) = (pre ++ (vput k ++ vput (s.length - k))) ++ (s.drop k ++ post) := by rw [hpt]; simp
    have e2 : ((pre.length : Int) + (vsize k : Int) + (vsize (s.length - k) : Int)).toNat = (pre ++ (vput k ++ vput (s.length - k))).length := by rw [List.length_append, List.length_append, vput_len, vput_len]; omega
    unfold cut
    rw [e, e2, List.drop_append_of_le_length (Nat.le_refl _), List.drop_length, List.nil_append, List.take_append_of_le_length (by simp), List.take_of_length_le (by simp)]
  have hss : last.take k ++ s.drop k = s := by rw [h3, List.take_append_drop]
  have hL : (ptext last s).length = vsize k + (vsize (s.length - k) + (s.length - k)) := by rw [hpt]; simp [vput_len]
  rw [ptx_yes g1 g2 h1 (by omega) (by rw [List.length_append, List.length_append, hL]; omega) (by rw [hcut, hss]; omega), hcut, hss, hL]
  simp only [Prod.mk.injEq, true_and, and_true]
  omega

/-- Texts read one behind the other. -/
def pdA (bs : List Nat) : Nat → Int → List (List Nat) → List (List Nat) × Int
  | 0, a, acc => if a < bs.length then ([], 3) else (acc, 0)
  | n + 1, a, acc => if (ptx bs a (ahead acc)).2.2 ≠ 0 then ([], (ptx bs a (ahead acc)).2.2) else pdA bs n (ptx bs a (ahead acc)).2.1 (acc ++ [(ptx bs a (ahead acc)).1])
theorem pdA_err {bs : List Nat} {n : Nat} {a m e : Int} {acc : List (List Nat)} {s : List Nat} (h : ptx bs a (ahead acc) = (s, m, e)) (he : e ≠ 0) : pdA bs (n + 1) a acc = ([], e) := by rw [pdA, h]; exact if_pos he
theorem pdA_next {bs : List Nat} {n : Nat} {a m : Int} {acc : List (List Nat)} {s : List Nat} (h : ptx bs a (ahead acc) = (s, m, 0)) : pdA bs (n + 1) a acc = pdA bs n m (acc ++ [s]) := by rw [pdA, h]; exact if_neg (fun q => q rfl)
theorem pdA_trail {bs : List Nat} {a : Int} {acc : List (List Nat)} (h : a < bs.length) : pdA bs 0 a acc = ([], 3) := if_pos h
theorem pdA_end {bs : List Nat} {a : Int} {acc : List (List Nat)} (h : (bs.length : Int) ≤ a) : pdA bs 0 a acc = (acc, 0) := if_neg (by omega)

def pdec (bs : List Nat) : List (List Nat) × Int :=
  if (vget bs 0).2.2 ≠ 0 then ([], (vget bs 0).2.2) else if 4096 < (vget bs 0).1 then ([], 4) else pdA bs (vget bs 0).1 (vget bs 0).2.1 []
theorem pdec_err {bs : List Nat} {n e : Int} {k : Nat} (h : vget bs 0 = (k, n, e)) (he : e ≠ 0) : pdec bs = ([], e) := by unfold pdec; rw [h]; exact if_pos he
theorem pdec_long {bs : List Nat} {n : Int} {k : Nat} (h : vget bs 0 = (k, n, 0)) (hk : 4096 < k) : pdec bs = ([], 4) := by unfold pdec; rw [h]; simp only; rw [if_neg (by decide), if_pos hk]
theorem pdec_go {bs : List Nat} {n : Int} {k : Nat} (h : vget bs 0 = (k, n, 0)) (hk : k ≤ 4096) : pdec bs = pdA bs k n [] := by unfold pdec; rw [h]; simp only; rw [if_neg (by decide), if_neg (by omega)]

theorem ahead_u8 {acc : List (List Nat)} (h : ∀ s ∈ acc, U8 s) : U8 (ahead acc) := by
  unfold ahead
  split
  · intro v hv; cases hv
  · by_cases hj : acc.length - 1 < acc.length
    · have := h _ (List.getElem_mem hj)
      simpa [List.getD, hj] using this
    · simp [List.getD, hj]; intro v hv; cases hv

theorem pdA_ok {bs : List Nat} (hb : U8 bs) : ∀ (n : Nat) {a : Int} {acc ss : List (List Nat)}, (∀ s ∈ acc, U8 s) → 0 ≤ a → a ≤ bs.length → pdA bs n a acc = (ss, 0) →
    ∃ tt, ss = acc ++ tt ∧ tt.length = n ∧ pencA acc tt = bs.drop a.toNat ∧ ∀ s ∈ tt, s.length ≤ 200 ∧ U8 s
  | 0, a, acc, ss, _, h0, h1, h => by
    by_cases hl : a < bs.length
    · rw [pdA_trail hl] at h; injection h with _ h; exact absurd h (by decide)
    · rw [pdA_end (by omega)] at h
      injection h with h _
      exact ⟨[], by rw [← h]; simp, rfl, by rw [List.drop_of_length_le (by omega)]; rfl, by intro s hs; cases hs⟩
  | n + 1, a, acc, ss, hacc, h0, h1, h => by
    rcases hp : ptx bs a (ahead acc) with ⟨s, m, e⟩
    by_cases he : e = 0
    · subst he
      rw [pdA_next hp] at h
      obtain ⟨q1, q2, q3, q4, q5, q6⟩ := ptx_ok hb (ahead_u8 hacc) hp
      obtain ⟨tt, r1, r2, r3, r4⟩ := pdA_ok hb n (acc := acc ++ [s]) (by
        intro x hx
        rcases List.mem_append.1 hx with hx | hx
        · exact hacc x hx
        · simp at hx; subst hx; exact q5) (by omega) q3 h
      refine ⟨s :: tt, by rw [r1]; simp, by simp [r2], ?_, ?_⟩
      · rw [pencA, q6, r3, show m.toNat = a.toNat + (m.toNat - a.toNat) from by omega, ← List.drop_drop, show a.toNat + (m.toNat - a.toNat) - a.toNat = m.toNat - a.toNat from by omega, List.take_append_drop]
      · intro x hx
        rcases List.mem_cons.1 hx with rfl | hx
        · exact ⟨q4, q5⟩
        · exact r4 x hx
    · rw [pdA_err hp he] at h
      injection h with _ h
      exact absurd h he

theorem pdA_no {bs : List Nat} : ∀ (n : Nat) {a e : Int} {acc ss : List (List Nat)}, pdA bs n a acc = (ss, e) → e ≠ 0 → ss = []
  | 0, a, e, acc, ss, h, he => by
    unfold pdA at h
    split at h
    · injection h with h _; exact h.symm
    · injection h with _ h; exact absurd h.symm he
  | n + 1, a, e, acc, ss, h, he => by
    unfold pdA at h
    split at h
    · injection h with h _; exact h.symm
    · exact pdA_no n h he
theorem pdec_no {bs : List Nat} {e : Int} {ss : List (List Nat)} (h : pdec bs = (ss, e)) (he : e ≠ 0) : ss = [] := by
  unfold pdec at h
  split at h
  · injection h with h _; exact h.symm
  · split at h
    · injection h with h _; exact h.symm
    · exact pdA_no _ h he

/-- Bytes that are decoded are the only ones of their texts. -/
theorem pdec_ok {bs : List Nat} {ss : List (List Nat)} (hb : U8 bs) (h : pdec bs = (ss, 0)) : penc ss = bs ∧ ss.length ≤ 4096 ∧ ∀ s ∈ ss, s.length ≤ 200 ∧ U8 s := by
  rcases h1 : vget bs 0 with ⟨k, n, e⟩
  by_cases he : e = 0
  · subst he
    by_cases hk : 4096 < k
    · rw [pdec_long h1 hk] at h; injection h with _ h; exact absurd h (by decide)
    · rw [pdec_go h1 (by omega)] at h
      obtain ⟨a1, a2, a3, a4, a5⟩ := vget_at hb h1
      obtain ⟨tt, r1, r2, r3, r4⟩ := pdA_ok hb k (acc := []) (by intro s hs; cases hs) (by omega) a3 h
      rw [List.nil_append] at r1
      subst r1
      refine ⟨?_, by omega, r4⟩
      unfold penc
      rw [r2, a5, r3]
      simp
  · rw [pdec_err h1 he] at h; injection h with _ h; exact absurd h he

theorem pdA_put : ∀ (tt pre acc : List (List Nat)) (bs hd post : List Nat), (∀ s ∈ tt, s.length ≤ 200) → bs = hd ++ (pencA acc tt ++ post) → pre = acc ++ tt →
    pdA bs tt.length (hd.length : Int) acc = if post.length = 0 then (pre, 0) else ([], 3)
  | [], pre, acc, bs, hd, post, _, hb, hp => by
    have hl : bs.length = hd.length + post.length := by rw [hb]; simp [pencA]
    by_cases h0 : post.length = 0
    · rw [if_pos h0]
      show pdA bs 0 _ acc = _
      rw [pdA_end (by omega), hp]
      simp
    · rw [if_neg h0]
      show pdA bs 0 _ acc = _
      rw [pdA_trail (by omega)]
  | s :: r, pre, acc, bs, hd, post, h, hb, hp => by
    have h1 := ptx_put hd (ahead acc) s (pencA (acc ++ [s]) r ++ post) (h s (by simp))
    have e1 : bs = hd ++ (ptext (ahead acc) s ++ (pencA (acc ++ [s]) r ++ post)) := by rw [hb, pencA]; simp
    rw [← e1] at h1
    show pdA bs (r.length + 1) _ acc = _
    rw [pdA_next h1, show (hd.length : Int) + ((ptext (ahead acc) s).length : Int) = (((hd ++ ptext (ahead acc) s).length : Nat) : Int) from by rw [List.length_append]; omega]
    exact pdA_put r pre (acc ++ [s]) bs (hd ++ ptext (ahead acc) s) post (fun x hx => h x (by simp [hx])) (by rw [e1]; simp) (by rw [hp]; simp)

/-- What is encoded is decoded again; with something behind it, it is not. -/
theorem pdec_put (ss : List (List Nat)) (post : List Nat) (hn : ss.length ≤ 4096) (h : ∀ s ∈ ss, s.length ≤ 200) : pdec (penc ss ++ post) = if post.length = 0 then (ss, 0) else ([], 3) := by
  have g : vget (penc ss ++ post) 0 = (ss.length, (vsize ss.length : Int), 0) := by
    have := vget_ok (bs := penc ss ++ post) (a := 0) (u := ss.length) (k := vsize ss.length) (Nat.zero_le _) (by
      rw [List.drop_zero, penc, List.append_assoc]
      exact vgetF_vput (by omega) _)
    simpa using this
  rw [pdec_go g (by omega), ← vput_len]
  exact pdA_put ss ss [] _ (vput ss.length) post h (by rw [penc]; simp) (by simp)

/-- Is one of the texts too long? -/
def anyLong (ss : List (List Nat)) : Bool := ss.any fun s => decide (200 < s.length)
theorem anyLong_iff {ss : List (List Nat)} : anyLong ss = true ↔ ∃ s ∈ ss, 200 < s.length := by simp [anyLong]
theorem anyLong_no {ss : List (List Nat)} (h : anyLong ss = false) : ∀ s ∈ ss, s.length ≤ 200 := by
  intro s hs
  rcases Nat.lt_or_ge 200 s.length with h1 | h1
  · rw [anyLong_iff.2 ⟨s, hs, h1⟩] at h; cases h
  · exact h1

/-- How many texts stand ahead of t, up to the first that doesn't. -/
def skN (t : List Nat) : List (List Nat) → Nat
  | [] => 0
  | s :: r => if ordT s t < 0 then skN t r + 1 else 0

end Go.Proofs.Ytpdppldkebfikaa
