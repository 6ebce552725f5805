import Derived.Test.YthibbgmicmfkfaaGreatGW2
import Derived.Test.YthibbgmicmfkfaaGreatRows
import Derived.JoinedCond
import Derived.Deep.CondSized
import Derived.Lib.SmallJoins
import Derived.Deep.Slices
import Derived.Lib.SlBytesConst
import Derived.Laws.BytesArg
import Derived.Laws.IdiomStrings
namespace Go.Proofs.YthibbgmicmfkfaaGreat
def cp : List Nat → List Nat → Nat
 | x :: r, y :: s => if x = y then cp r s + 1 else 0
 | [], _ => 0
 | _ :: _, [] => 0
theorem cp_le : ∀ (a b : List Nat), cp a b ≤ a.length ∧ cp a b ≤ b.length
 | [], b => by simp [cp]
 | x :: r, [] => by simp [cp]
 | x :: r, y :: s => by
   have := cp_le r s
   unfold cp
   split <;> simp <;> omega
theorem cp_take : ∀ (a b : List Nat), a.take (cp a b) = b.take (cp a b)
 | [], b => by simp [cp]
 | x :: r, [] => by simp [cp]
 | x :: r, y :: s => by
   unfold cp
   split
   · rename_i h
     rw [List.take_succ_cons, List.take_succ_cons, cp_take r s, h]
   · simp
theorem cp_ge : ∀ (k : Nat) (a b : List Nat), k ≤ a.length → k ≤ b.length → a.take k = b.take k → k ≤ cp a b
 | 0, _, _, _, _, _ => Nat.zero_le _
 | k + 1, [], _, h, _, _ => by simp at h
 | k + 1, _ :: _, [], _, h, _ => by simp at h
 | k + 1, x :: r, y :: s, h1, h2, h3 => by
   rw [List.take_succ_cons, List.take_succ_cons] at h3
   injection h3 with e1 e2
   have := cp_ge k r s (by simpa using h1) (by simpa using h2) e2
   unfold cp
   rw [if_pos e1]
   omega
theorem cp_get : ∀ (a b : List Nat) (i : Nat), i < cp a b → a.getD i 0 = b.getD i 0
 | [], _, _, h => by simp [cp] at h
 | _ :: _, [], _, h => by simp [cp] at h
 | x :: r, y :: s, i, h => by
   unfold cp at h
   split at h
   · rename_i e
     cases i with
     | zero => simpa using e
     | succ i => simpa using cp_get r s i (by omega)
   · omega
theorem cp_ne : ∀ (a b : List Nat), cp a b < a.length → cp a b < b.length → a.getD (cp a b) 0 ≠ b.getD (cp a b) 0
 | [], _, h, _ => by simp at h
 | _ :: _, [], _, h => by simp at h
 | x :: r, y :: s, h1, h2 => by
   unfold cp at h1 h2 ⊢
   split at h1
   · rename_i e
     simp only [if_pos e] at h2 ⊢
     simp at h1 h2
     simpa using cp_ne r s (by omega) (by omega)
   · rename_i e
     simp only [if_neg e] at h2 ⊢
     simpa using e
theorem cp_step {a b : List Nat} {j : Nat} (h : j ≤ cp a b) (h1 : j < a.length) (h2 : j < b.length) (e : a.getD j 0 = b.getD j 0) : j + 1 ≤ cp a b := by
 rcases Nat.lt_or_ge j (cp a b) with hl | hg
 · exact hl
 · obtain rfl : j = cp a b := by omega
   exact absurd e (cp_ne a b h1 h2)
theorem cp_stop {a b : List Nat} {j : Nat} (h : j ≤ cp a b) (h1 : a.length ≤ j ∨ b.length ≤ j ∨ a.getD j 0 ≠ b.getD j 0) : cp a b = j := by
 rcases Nat.lt_or_ge j (cp a b) with hl | hg
 · have := cp_le a b
   have := cp_get a b j hl
   rcases h1 with h1 | h1 | h1
   · omega
   · omega
   · exact absurd this h1
 · omega
def ahead (acc : List (List Nat)) : List Nat := if acc.length % 16 = 0 then [] else acc.getD (acc.length - 1) []
theorem ahead_whole {acc : List (List Nat)} (h : acc.length % 16 = 0) : ahead acc = [] := if_pos h
theorem ahead_not {acc : List (List Nat)} (h : ¬ acc.length % 16 = 0) : ahead acc = acc.getD (acc.length - 1) [] := if_neg h
def ptext (last s : List Nat) : List Nat := vput (cp last s) ++ (vput (s.length - cp last s) ++ s.drop (cp last s))
def pencA : List (List Nat) → List (List Nat) → List Nat
 | _, [] => []
 | acc, s :: r => ptext (ahead acc) s ++ pencA (acc ++ [s]) r
def penc (ss : List (List Nat)) : List Nat := vput ss.length ++ pencA [] ss
theorem vput_le {u : Nat} (h : u < 18446744073709551616) : (vput u).length ≤ 10 := by rw [vput_len]; exact vsize_le h
theorem ptext_len {last s : List Nat} (h : s.length ≤ 200) : (ptext last s).length ≤ 220 := by
 have h1 := cp_le last s
 have h2 := vput_le (u := cp last s) (by omega)
 have h3 := vput_le (u := s.length - cp last s) (by omega)
 simp only [ptext, List.length_append, List.length_drop]
 omega
theorem ptext_u8 {last s : List Nat} (h : U8 s) : U8 (ptext last s) := by
 intro v hv
 simp only [ptext, List.mem_append] at hv
 rcases hv with hv | hv | hv
 · exact vput_u8 _ v hv
 · exact vput_u8 _ v hv
 · exact h v (List.mem_of_mem_drop hv)
theorem pencA_len : ∀ (acc ss : List (List Nat)), (∀ s ∈ ss, s.length ≤ 200) → (pencA acc ss).length ≤ 220 * ss.length
 | _, [], _ => by simp [pencA]
 | acc, s :: r, h => by
   have h1 := ptext_len (last := ahead acc) (h s (by simp))
   have h2 := pencA_len (acc ++ [s]) r (fun x hx => h x (by simp [hx]))
   simp only [pencA, List.length_append, List.length_cons]
   omega
theorem pencA_u8 : ∀ (acc ss : List (List Nat)), (∀ s ∈ ss, U8 s) → U8 (pencA acc ss)
 | _, [], _ => by intro v hv; cases hv
 | acc, s :: r, h => by
   intro v hv
   rcases List.mem_append.1 hv with hv | hv
   · exact ptext_u8 (h s (by simp)) v hv
   · exact pencA_u8 (acc ++ [s]) r (fun x hx => h x (by simp [hx])) v hv
theorem penc_u8 {ss : List (List Nat)} (h : ∀ s ∈ ss, U8 s) : U8 (penc ss) := by
 intro v hv
 rcases List.mem_append.1 hv with hv | hv
 · exact vput_u8 _ v hv
 · exact pencA_u8 [] ss h v hv
theorem penc_len {ss : List (List Nat)} (hn : ss.length ≤ 4096) (h : ∀ s ∈ ss, s.length ≤ 200) : (penc ss).length ≤ 1000000 := by
 have h1 := vput_le (u := ss.length) (by omega)
 have h2 := pencA_len [] ss h
 simp only [penc, List.length_append]
 omega
theorem pencA_step {ss : List (List Nat)} {j : Nat} {s : List Nat} (h : ss[j]? = some s) : pencA (ss.take j) (ss.drop j) = ptext (ahead (ss.take j)) s ++ pencA (ss.take (j + 1)) (ss.drop (j + 1)) := by
 obtain ⟨h1, rfl⟩ := List.getElem?_eq_some_iff.1 h
 rw [List.drop_eq_getElem_cons h1, pencA, List.take_succ_eq_append_getElem h1]
theorem ahead_take {ss : List (List Nat)} {j : Nat} (hj : j ≤ ss.length) : ahead (ss.take j) = if j % 16 = 0 then [] else ss.getD (j - 1) [] := by
 unfold ahead
 have e : (ss.take j).length = j := by simp; omega
 rw [e]
 by_cases h : j % 16 = 0
 · rw [if_pos h, if_pos h]
 · rw [if_neg h, if_neg h]
   have h0 : 0 < j := by
     rcases Nat.eq_zero_or_pos j with rfl | h0
     · simp at h
     · exact h0
   simp [List.getD, show j - 1 < j from by omega]
def ptx (bs : List Nat) (a : Int) (last : List Nat) : List Nat × Int × Int :=
 if (vget bs a).2.2 ≠ 0 then ([], 0, (vget bs a).2.2) else
 if (vget bs (vget bs a).2.1).2.2 ≠ 0 then ([], 0, (vget bs (vget bs a).2.1).2.2) else
 if last.length < (vget bs a).1 then ([], 0, 5) else
 if 200 < (vget bs (vget bs a).2.1).1 + (vget bs a).1 then ([], 0, 4) else
 if (bs.length : Int) - (vget bs (vget bs a).2.1).2.1 < (vget bs (vget bs a).2.1).1 then ([], 0, 2) else
 if (vget bs a).1 < cp last (last.take (vget bs a).1 ++ cut bs (vget bs (vget bs a).2.1).2.1.toNat (vget bs (vget bs a).2.1).1) then ([], 0, 5) else
 (last.take (vget bs a).1 ++ cut bs (vget bs (vget bs a).2.1).2.1.toNat (vget bs (vget bs a).2.1).1, (vget bs (vget bs a).2.1).2.1 + ((vget bs (vget bs a).2.1).1 : Int), 0)
section
variable {bs last : List Nat} {a n m e : Int} {k r : Nat}
theorem ptx_e1 (h : vget bs a = (k, n, e)) (he : e ≠ 0) : ptx bs a last = ([], 0, e) := by unfold ptx; rw [h]; exact if_pos he
theorem ptx_e2 (h : vget bs a = (k, n, 0)) (h2 : vget bs n = (r, m, e)) (he : e ≠ 0) : ptx bs a last = ([], 0, e) := by
 unfold ptx; rw [h]; simp only; rw [if_neg (by decide), h2]; exact if_pos he
theorem ptx_form (h : vget bs a = (k, n, 0)) (h2 : vget bs n = (r, m, 0)) (hk : last.length < k) : ptx bs a last = ([], 0, 5) := by
 unfold ptx; rw [h]; simp only; rw [if_neg (by decide), h2, if_neg (fun q => q rfl), if_pos hk]
theorem ptx_long (h : vget bs a = (k, n, 0)) (h2 : vget bs n = (r, m, 0)) (hk : k ≤ last.length) (hr : 200 < r + k) : ptx bs a last = ([], 0, 4) := by
 unfold ptx; rw [h]; simp only; rw [if_neg (by decide), h2, if_neg (fun q => q rfl), if_neg (by omega), if_pos hr]
theorem ptx_short (h : vget bs a = (k, n, 0)) (h2 : vget bs n = (r, m, 0)) (hk : k ≤ last.length) (hr : r + k ≤ 200) (hs : (bs.length : Int) - m < r) : ptx bs a last = ([], 0, 2) := by
 unfold ptx; rw [h]; simp only; rw [if_neg (by decide), h2, if_neg (fun q => q rfl), if_neg (by omega)]; simp only; rw [if_neg (by omega), if_pos hs]
theorem ptx_more (h : vget bs a = (k, n, 0)) (h2 : vget bs n = (r, m, 0)) (hk : k ≤ last.length) (hr : r + k ≤ 200) (hs : (r : Int) ≤ (bs.length : Int) - m) (hc : k < cp last (last.take k ++ cut bs m.toNat r)) : ptx bs a last = ([], 0, 5) := by
 unfold ptx; rw [h]; simp only; rw [if_neg (by decide), h2, if_neg (fun q => q rfl), if_neg (by omega)]; simp only; rw [if_neg (by omega), if_neg (by omega), if_pos hc]
theorem ptx_yes (h : vget bs a = (k, n, 0)) (h2 : vget bs n = (r, m, 0)) (hk : k ≤ last.length) (hr : r + k ≤ 200) (hs : (r : Int) ≤ (bs.length : Int) - m) (hc : cp last (last.take k ++ cut bs m.toNat r) ≤ k) : ptx bs a last = (last.take k ++ cut bs m.toNat r, m + (r : Int), 0) := by
 unfold ptx; rw [h]; simp only; rw [if_neg (by decide), h2, if_neg (fun q => q rfl), if_neg (by omega)]; simp only; rw [if_neg (by omega), if_neg (by omega), if_neg (by omega)]
end
theorem ptx_ok {bs last s : List Nat} {a n : Int} (hb : U8 bs) (hl : U8 last) (h : ptx bs a last = (s, n, 0)) :
   0 ≤ a ∧ a ≤ n ∧ n ≤ bs.length ∧ s.length ≤ 200 ∧ U8 s ∧ ptext last s = (bs.drop a.toNat).take (n.toNat - a.toNat) := by
 rcases h1 : vget bs a with ⟨k, n1, e1⟩
 by_cases g1 : e1 = 0
 · subst g1
   rcases h2 : vget bs n1 with ⟨r, m, e2⟩
   by_cases g2 : e2 = 0
   · subst g2
     by_cases hk : last.length < k
     · rw [ptx_form h1 h2 hk] at h; injection h with _ h; injection h with _ h; exact absurd h (by decide)
     · by_cases hr : 200 < r + k
       · rw [ptx_long h1 h2 (by omega) hr] at h; injection h with _ h; injection h with _ h; exact absurd h (by decide)
       · by_cases hs : (bs.length : Int) - m < r
         · rw [ptx_short h1 h2 (by omega) (by omega) hs] at h; injection h with _ h; injection h with _ h; exact absurd h (by decide)
         · by_cases hc : k < cp last (last.take k ++ cut bs m.toNat r)
           · rw [ptx_more h1 h2 (by omega) (by omega) (by omega) hc] at h; injection h with _ h; injection h with _ h; exact absurd h (by decide)
           · rw [ptx_yes h1 h2 (by omega) (by omega) (by omega) (by omega)] at h
             injection h with hs1 h
             injection h with hn1 _
             obtain ⟨a1, a2, a3, a4, a5⟩ := vget_at hb h1
             obtain ⟨b1, b2, b3, b4, b5⟩ := vget_at hb h2
             have hcl : (cut bs m.toNat r).length = r := cut_len (by omega)
             have htl : (last.take k).length = k := by simp; omega
             have hsl : s.length = k + r := by rw [← hs1, List.length_append, htl, hcl]
             have hpre : s.take k = last.take k := by rw [← hs1, List.take_append_of_le_length (by omega), List.take_of_length_le (by omega)]
             have hcp : cp last s = k := by
               have := cp_ge k last s (by omega) (by omega) hpre.symm
               rw [hs1] at hc
               omega
             refine ⟨a1, by omega, by omega, by omega, ?_, ?_⟩
             · intro v hv
               rw [← hs1] at hv
               rcases List.mem_append.1 hv with hv | hv
               · exact hl v (List.mem_of_mem_take hv)
               · exact cut_u8 hb _ _ v hv
             · have hd : s.drop k = cut bs m.toNat r := by rw [← hs1, List.drop_append_of_le_length (by omega), List.drop_of_length_le (by omega), List.nil_append]
               unfold ptext
               rw [hcp, hd, show s.length - k = r from by omega, a5, b5, ← hn1]
               unfold cut
               have e1 : n1.toNat = a.toNat + (n1.toNat - a.toNat) := by omega
               have e2 : m.toNat = n1.toNat + (m.toNat - n1.toNat) := by omega
               have e3 : (m + (r : Int)).toNat - a.toNat = (n1.toNat - a.toNat) + ((m.toNat - n1.toNat) + r) := by omega
               rw [e3, List.take_add, List.take_add, List.drop_drop, List.drop_drop, ← e1, ← e2]
   · rw [ptx_e2 h1 h2 g2] at h; injection h with _ h; injection h with _ h; exact absurd h g2
 · rw [ptx_e1 h1 g1] at h; injection h with _ h; injection h with _ h; exact absurd h g1
theorem ptx_put (pre last s post : List Nat) (hs : s.length ≤ 200) : ptx (pre ++ (ptext last s ++ post)) (pre.length : Int) last = (s, (pre.length : Int) + ((ptext last s).length : Int), 0) := by
 obtain ⟨h1, h2⟩ := cp_le last s
 have h3 := cp_take last s
 obtain ⟨k, hk⟩ : ∃ k, k = cp last s := ⟨_, rfl⟩
 have hpt : ptext last s = vput k ++ (vput (s.length - k) ++ s.drop k) := by rw [hk]; rfl
 rw [← hk] at h1 h2 h3
 have g1 : vget (pre ++ (ptext last s ++ post)) (pre.length : Int) = (k, (pre.length : Int) + (vsize k : Int), 0) := by
   refine vget_ok (by simp) ?_
   rw [List.drop_append_of_le_length (Nat.le_refl _), List.drop_length, List.nil_append, hpt, List.append_assoc]
   exact vgetF_vput (by omega) _
 have g2 : vget (pre ++ (ptext last s ++ post)) ((pre.length : Int) + (vsize k : Int)) = (s.length - k, (pre.length : Int) + (vsize k : Int) + (vsize (s.length - k) : Int), 0) := by
   have e : pre ++ (ptext last s ++ post) = (pre ++ vput k) ++ (vput (s.length - k) ++ (s.drop k ++ post)) := by rw [hpt]; simp
   have e2 : (pre.length : Int) + (vsize k : Int) = (((pre ++ vput k).length : Nat) : Int) := by rw [List.length_append, vput_len]; omega
   rw [e, e2]
   refine vget_ok (by simp) ?_
   rw [List.drop_append_of_le_length (Nat.le_refl _), List.drop_length, List.nil_append]
   exact vgetF_vput (by omega) _
 have hcut : cut (pre ++ (ptext last s ++ post)) ((pre.length : Int) + (vsize k : Int) + (vsize (s.length - k) : Int)).toNat (s.length - k) = s.drop k := by
   have e : pre ++ (ptext last s ++ post) = (pre ++ (vput k ++ vput (s.length - k))) ++ (s.drop k ++ post) := by rw [hpt]; simp
   have e2 : ((pre.length : Int) + (vsize k : Int) + (vsize (s.length - k) : Int)).toNat = (pre ++ (vput k ++ vput (s.length - k))).length := by rw [List.length_append, List.length_append, vput_len, vput_len]; omega
   unfold cut
   rw [e, e2, List.drop_append_of_le_length (Nat.le_refl _), List.drop_length, List.nil_append, List.take_append_of_le_length (by simp), List.take_of_length_le (by simp)]
 have hss : last.take k ++ s.drop k = s := by rw [h3, List.take_append_drop]
 have hL : (ptext last s).length = vsize k + (vsize (s.length - k) + (s.length - k)) := by rw [hpt]; simp [vput_len]
 rw [ptx_yes g1 g2 h1 (by omega) (by rw [List.length_append, List.length_append, hL]; omega) (by rw [hcut, hss]; omega), hcut, hss, hL]
 simp only [Prod.mk.injEq, true_and, and_true]
 omega
def pdA (bs : List Nat) : Nat → Int → List (List Nat) → List (List Nat) × Int
 | 0, a, acc => if a < bs.length then ([], 3) else (acc, 0)
 | n + 1, a, acc => if (ptx bs a (ahead acc)).2.2 ≠ 0 then ([], (ptx bs a (ahead acc)).2.2) else pdA bs n (ptx bs a (ahead acc)).2.1 (acc ++ [(ptx bs a (ahead acc)).1])
theorem pdA_err {bs : List Nat} {n : Nat} {a m e : Int} {acc : List (List Nat)} {s : List Nat} (h : ptx bs a (ahead acc) = (s, m, e)) (he : e ≠ 0) : pdA bs (n + 1) a acc = ([], e) := by rw [pdA, h]; exact if_pos he
theorem pdA_next {bs : List Nat} {n : Nat} {a m : Int} {acc : List (List Nat)} {s : List Nat} (h : ptx bs a (ahead acc) = (s, m, 0)) : pdA bs (n + 1) a acc = pdA bs n m (acc ++ [s]) := by rw [pdA, h]; exact if_neg (fun q => q rfl)
theorem pdA_trail {bs : List Nat} {a : Int} {acc : List (List Nat)} (h : a < bs.length) : pdA bs 0 a acc = ([], 3) := if_pos h
theorem pdA_end {bs : List Nat} {a : Int} {acc : List (List Nat)} (h : (bs.length : Int) ≤ a) : pdA bs 0 a acc = (acc, 0) := if_neg (by omega)
def pdec (bs : List Nat) : List (List Nat) × Int :=
 if (vget bs 0).2.2 ≠ 0 then ([], (vget bs 0).2.2) else if 4096 < (vget bs 0).1 then ([], 4) else pdA bs (vget bs 0).1 (vget bs 0).2.1 []
theorem pdec_err {bs : List Nat} {n e : Int} {k : Nat} (h : vget bs 0 = (k, n, e)) (he : e ≠ 0) : pdec bs = ([], e) := by unfold pdec; rw [h]; exact if_pos he
theorem pdec_long {bs : List Nat} {n : Int} {k : Nat} (h : vget bs 0 = (k, n, 0)) (hk : 4096 < k) : pdec bs = ([], 4) := by unfold pdec; rw [h]; simp only; rw [if_neg (by decide), if_pos hk]
theorem pdec_go {bs : List Nat} {n : Int} {k : Nat} (h : vget bs 0 = (k, n, 0)) (hk : k ≤ 4096) : pdec bs = pdA bs k n [] := by unfold pdec; rw [h]; simp only; rw [if_neg (by decide), if_neg (by omega)]
theorem ahead_u8 {acc : List (List Nat)} (h : ∀ s ∈ acc, U8 s) : U8 (ahead acc) := by
 unfold ahead
 split
 · intro v hv; cases hv
 · by_cases hj : acc.length - 1 < acc.length
   · have := h _ (List.getElem_mem hj)
     simpa [List.getD, hj] using this
   · simp [List.getD, hj]; intro v hv; cases hv
theorem pdA_ok {bs : List Nat} (hb : U8 bs) : ∀ (n : Nat) {a : Int} {acc ss : List (List Nat)}, (∀ s ∈ acc, U8 s) → 0 ≤ a → a ≤ bs.length → pdA bs n a acc = (ss, 0) →
   ∃ tt, ss = acc ++ tt ∧ tt.length = n ∧ pencA acc tt = bs.drop a.toNat ∧ ∀ s ∈ tt, s.length ≤ 200 ∧ U8 s
 | 0, a, acc, ss, _, h0, h1, h => by
   by_cases hl : a < bs.length
   · rw [pdA_trail hl] at h; injection h with _ h; exact absurd h (by decide)
   · rw [pdA_end (by omega)] at h
     injection h with h _
     exact ⟨[], by rw [← h]; simp, rfl, by rw [List.drop_of_length_le (by omega)]; rfl, by intro s hs; cases hs⟩
 | n + 1, a, acc, ss, hacc, h0, h1, h => by
   rcases hp : ptx bs a (ahead acc) with ⟨s, m, e⟩
   by_cases he : e = 0
   · subst he
     rw [pdA_next hp] at h
     obtain ⟨q1, q2, q3, q4, q5, q6⟩ := ptx_ok hb (ahead_u8 hacc) hp
     obtain ⟨tt, r1, r2, r3, r4⟩ := pdA_ok hb n (acc := acc ++ [s]) (by
       intro x hx
       rcases List.mem_append.1 hx with hx | hx
       · exact hacc x hx
       · simp at hx; subst hx; exact q5) (by omega) q3 h
     refine ⟨s :: tt, by rw [r1]; simp, by simp [r2], ?_, ?_⟩
     · rw [pencA, q6, r3, show m.toNat = a.toNat + (m.toNat - a.toNat) from by omega, ← List.drop_drop, show a.toNat + (m.toNat - a.toNat) - a.toNat = m.toNat - a.toNat from by omega, List.take_append_drop]
     · intro x hx
       rcases List.mem_cons.1 hx with rfl | hx
       · exact ⟨q4, q5⟩
       · exact r4 x hx
   · rw [pdA_err hp he] at h
     injection h with _ h
     exact absurd h he
theorem pdec_ok {bs : List Nat} {ss : List (List Nat)} (hb : U8 bs) (h : pdec bs = (ss, 0)) : penc ss = bs ∧ ss.length ≤ 4096 ∧ ∀ s ∈ ss, s.length ≤ 200 ∧ U8 s := by
 rcases h1 : vget bs 0 with ⟨k, n, e⟩
 by_cases he : e = 0
 · subst he
   by_cases hk : 4096 < k
   · rw [pdec_long h1 hk] at h; injection h with _ h; exact absurd h (by decide)
   · rw [pdec_go h1 (by omega)] at h
     obtain ⟨a1, a2, a3, a4, a5⟩ := vget_at hb h1
     obtain ⟨tt, r1, r2, r3, r4⟩ := pdA_ok hb k (acc := []) (by intro s hs; cases hs) (by omega) a3 h
     rw [List.nil_append] at r1
     subst r1
     refine ⟨?_, by omega, r4⟩
     unfold penc
     rw [r2, a5, r3]
     simp
 · rw [pdec_err h1 he] at h; injection h with _ h; exact absurd h he
theorem pdA_put : ∀ (tt pre acc : List (List Nat)) (bs hd post : List Nat), (∀ s ∈ tt, s.length ≤ 200) → bs = hd ++ (pencA acc tt ++ post) → pre = acc ++ tt →
   pdA bs tt.length (hd.length : Int) acc = if post.length = 0 then (pre, 0) else ([], 3)
 | [], pre, acc, bs, hd, post, _, hb, hp => by
   have hl : bs.length = hd.length + post.length := by rw [hb]; simp [pencA]
   by_cases h0 : post.length = 0
   · rw [if_pos h0]
     show pdA bs 0 _ acc = _
     rw [pdA_end (by omega), hp]
     simp
   · rw [if_neg h0]
     show pdA bs 0 _ acc = _
     rw [pdA_trail (by omega)]
 | s :: r, pre, acc, bs, hd, post, h, hb, hp => by
   have h1 := ptx_put hd (ahead acc) s (pencA (acc ++ [s]) r ++ post) (h s (by simp))
   have e1 : bs = hd ++ (ptext (ahead acc) s ++ (pencA (acc ++ [s]) r ++ post)) := by rw [hb, pencA]; simp
   rw [← e1] at h1
   show pdA bs (r.length + 1) _ acc = _
   rw [pdA_next h1, show (hd.length : Int) + ((ptext (ahead acc) s).length : Int) = (((hd ++ ptext (ahead acc) s).length : Nat) : Int) from by rw [List.length_append]; omega]
   exact pdA_put r pre (acc ++ [s]) bs (hd ++ ptext (ahead acc) s) post (fun x hx => h x (by simp [hx])) (by rw [e1]; simp) (by rw [hp]; simp)
theorem pdec_put (ss : List (List Nat)) (post : List Nat) (hn : ss.length ≤ 4096) (h : ∀ s ∈ ss, s.length ≤ 200) : pdec (penc ss ++ post) = if post.length = 0 then (ss, 0) else ([], 3) := by
 have g : vget (penc ss ++ post) 0 = (ss.length, (vsize ss.length : Int), 0) := by
   have := vget_ok (bs := penc ss ++ post) (a := 0) (u := ss.length) (k := vsize ss.length) (Nat.zero_le _) (by
     rw [List.drop_zero, penc, List.append_assoc]
     exact vgetF_vput (by omega) _)
   simpa using this
 rw [pdec_go g (by omega), ← vput_len]
 exact pdA_put ss ss [] _ (vput ss.length) post h (by rw [penc]; simp) (by simp)
def anyLong (ss : List (List Nat)) : Bool := ss.any fun s => decide (200 < s.length)
theorem anyLong_iff {ss : List (List Nat)} : anyLong ss = true ↔ ∃ s ∈ ss, 200 < s.length := by simp [anyLong]
theorem anyLong_no {ss : List (List Nat)} (h : anyLong ss = false) : ∀ s ∈ ss, s.length ≤ 200 := by
 intro s hs
 rcases Nat.lt_or_ge 200 s.length with h1 | h1
 · rw [anyLong_iff.2 ⟨s, hs, h1⟩] at h; cases h
 · exact h1
def skN (t : List Nat) : List (List Nat) → Nat
 | [] => 0
 | s :: r => if ordT s t < 0 then skN t r + 1 else 0
open Go.RowKit
set_option maxRecDepth 100000
structure TxI (w : World) (s : Sl) : Prop where
 rd : Rd .u8 w s.A s.body.length s.body
 u8 : U8 s.body
 cap : s.body.length ≤ s.c
 top : s.c ≤ 9223372036854775807
 len : s.body.length ≤ 140737488355328
theorem TxI.ext {w w' : World} {s : Sl} (h : TxI w s) (he : Ext w w') : TxI w' s := ⟨h.rd.ext he, h.u8, h.cap, h.top, h.len⟩
theorem RdL.ext {w w' : World} {A : Option Addr} {n : Nat} {ss : List Sl} (h : RdL w A n ss) (he : Ext w w') : RdL w' A n ss := h.kept ((Kept.refl w []).ext he) (fun _ => by intro s hs; cases hs)
structure TxL (w : World) (A : Option Addr) (n : Nat) (ss : List Sl) : Prop where
 rd : RdL w A n ss
 each : ∀ s ∈ ss, TxI w s
theorem TxL.ext {w w' : World} {A : Option Addr} {n : Nat} {ss : List Sl} (h : TxL w A n ss) (he : Ext w w') : TxL w' A n ss := ⟨h.rd.ext he, fun s hs => (h.each s hs).ext he⟩
theorem TxL.len {w : World} {A : Option Addr} {n : Nat} {ss : List Sl} (h : TxL w A n ss) : ss.length = n := h.rd.1
theorem TxL.at_ {w : World} {A : Option Addr} {n : Nat} {ss : List Sl} (h : TxL w A n ss) {j : Nat} (hj : j < n) :
   ∃ b o s, A = some ⟨b, o, none⟩ ∧ ss[j]? = some s ∧ w.cell? ⟨b, o + j, none⟩ = some (.slice s.A s.body.length s.c) ∧ TxI w s := by
 obtain ⟨b, o, s, e, h1, h2⟩ := h.rd.at_ hj
 exact ⟨b, o, s, e, h1, h2, h.each s (List.mem_of_getElem? h1)⟩
def bodies (ss : List Sl) : List (List Nat) := ss.map Sl.body
theorem bodies_len (ss : List Sl) : (bodies ss).length = ss.length := List.length_map ..
theorem bodies_at {ss : List Sl} {j : Nat} {s : Sl} (h : ss[j]? = some s) : (bodies ss)[j]? = some s.body := by unfold bodies; rw [List.getElem?_map, h]; rfl
theorem bodies_get {ss : List Sl} {j : Nat} {s : Sl} (h : ss[j]? = some s) : (bodies ss).getD j [] = s.body := by unfold List.getD; rw [bodies_at h]; rfl
theorem palike_any (A A2 : Option Addr) (n c n2 c2 : Nat) (xs ys : List Nat) (w : World) (hx : Rd .u8 w A n xs) (hy : Rd .u8 w A2 n2 ys) (hn : n ≤ 140737488355328) (_hn2 : n2 ≤ 140737488355328) :
   Calls Tryz.prog 184 #[.slice A n c, .slice A2 n2 c2] w fun e w' => e = .returned (.int .i64 (cp xs ys)) ∧ ∃ q, w' = w.drewN q := by
 have hl := hx.len
 have hl2 := hy.len
 obtain ⟨R, hR⟩ : ∃ R, R = cp xs ys := ⟨_, rfl⟩
 rw [← hR]
 have HR := Lib.hid hR
 have Hl := Lib.hid hl
 have Hl2 := Lib.hid hl2
 clear hR hl hl2
 go_enter Tryz.func184, Tryz.ntmps184
 go_wp2
 go_loopw [5] (fun i wr => ∃ j q : Nat, j ≤ n ∧ j ≤ n2 ∧ i = .int .i64 j ∧ wr = w.drewN q ∧ Hid (j ≤ R)) (fun i _ => n - (intOf i).toNat)
 case atStart => exact ⟨0, 0, Nat.zero_le _, Nat.zero_le _, rfl, rfl, Nat.zero_le _⟩
 case round =>
   obtain ⟨j, q, hj, hj2, rfl, rfl, Hj⟩ := hrel
   by_cases hlt1 : j < n
   · by_cases hlt2 : j < n2
     · obtain ⟨b, o, rfl, hbl, hc⟩ := hx.at_ hlt1
       obtain ⟨b', o', rfl, hbl', hc'⟩ := hy.at_ hlt2
       have e0 : xs.getD j 0 = ys.getD j 0 → j + 1 ≤ R := fun e => by rw [HR.out]; exact cp_step (by rw [← HR.out]; exact Hj.out) (by rw [Hl.out]; exact hlt1) (by rw [Hl2.out]; exact hlt2) e
       have e1 : xs.getD j 0 ≠ ys.getD j 0 → R = j := fun e => by rw [HR.out]; exact cp_stop (by rw [← HR.out]; exact Hj.out) (.inr (.inr e))
       obtain ⟨u, hu⟩ : ∃ u, u = xs.getD j 0 := ⟨_, rfl⟩
       obtain ⟨v, hv⟩ : ∃ v, v = ys.getD j 0 := ⟨_, rfl⟩
       rw [← hu] at hc e0 e1
       rw [← hv] at hc' e0 e1
       clear hu hv
       have hji : (j : Int) < (n : Int) := by omega
       have hji2 : (j : Int) < (n2 : Int) := by omega
       by_cases huv : u = v
       · subst huv
         have HN := Lib.hid (e0 rfl)
         clear e0 e1
         go_wp2_with fail
         go_quiet (fail)
         go_wp2
         go_roundw
         case rel => exact ⟨j + 1, _, by omega, by omega, by go_num, rfl, HN⟩
         case measure => simp [intOf]; omega
       · have HE := Lib.hid (e1 huv)
         have d1 : ((u : Int) == (v : Int)) = false := by rw [beq_eq_false_iff_ne]; omega
         clear e0 e1 huv
         go_wp2_with fail
         go_quiet (fail)
         go_wp2
         go_ret
         exact ⟨by rw [HE.out]; rfl, _, by first | rfl | exact World.drewN_drewN .. | exact drew3 .. | fail⟩
     · have HE := Lib.hid (show R = j by rw [HR.out]; exact cp_stop (by rw [← HR.out]; exact Hj.out) (.inr (.inl (by rw [Hl2.out]; omega))))
       have d0 : decide (j < n) = true := decide_eq_true hlt1
       have d1 : decide (j < n2) = false := decide_eq_false hlt2
       have d0' : decide ((j : Int) < (n : Int)) = true := decide_eq_true (by omega)
       have d1' : decide ((j : Int) < (n2 : Int)) = false := decide_eq_false (by omega)
       go_wp2_with fail
       go_quiet (fail)
       go_wp2
       go_ret
       exact ⟨by rw [HE.out]; rfl, _, by first | rfl | exact World.drewN_drewN .. | exact drew3 .. | fail⟩
   · have HE := Lib.hid (show R = j by rw [HR.out]; exact cp_stop (by rw [← HR.out]; exact Hj.out) (.inl (by rw [Hl.out]; omega)))
     have d0 : decide (j < n) = false := decide_eq_false hlt1
     have d0' : decide ((j : Int) < (n : Int)) = false := decide_eq_false (by omega)
     go_wp2_with fail
     go_quiet (fail)
     go_wp2
     go_ret
     exact ⟨by rw [HE.out]; rfl, _, by first | rfl | exact World.drewN_drewN .. | exact drew3 .. | fail⟩
theorem refSame11_any (A A2 : Option Addr) (n c n2 c2 : Nat) (xs ys : List Nat) (w : World) (hx : Rd .u8 w A n xs) (hy : Rd .u8 w A2 n2 ys) (hn : n ≤ 140737488355328) (hn2 : n2 ≤ 140737488355328) :
   Calls Tryz.prog 161 #[.slice A n c, .slice A2 n2 c2] w fun e w' => e = .returned (.int .i64 (cp xs ys)) ∧ ∃ q, w' = w.drewN q := by
 have hl := hx.len
 have hl2 := hy.len
 obtain ⟨R, hR⟩ : ∃ R, R = cp xs ys := ⟨_, rfl⟩
 rw [← hR]
 have HR := Lib.hid hR
 have Hl := Lib.hid hl
 have Hl2 := Lib.hid hl2
 clear hR hl hl2
 go_enter Tryz.func161, Tryz.ntmps161
 go_wp2
 go_loopw [5] (fun i wr => ∃ j q : Nat, j ≤ n ∧ j ≤ n2 ∧ i = .int .i64 j ∧ wr = w.drewN q ∧ Hid (j ≤ R)) (fun i _ => n - (intOf i).toNat)
 case atStart => exact ⟨0, 0, Nat.zero_le _, Nat.zero_le _, rfl, rfl, Nat.zero_le _⟩
 case round =>
   obtain ⟨j, q, hj, hj2, rfl, rfl, Hj⟩ := hrel
   by_cases hlt1 : j < n
   · by_cases hlt2 : j < n2
     · obtain ⟨b, o, rfl, hbl, hc⟩ := hx.at_ hlt1
       obtain ⟨b', o', rfl, hbl', hc'⟩ := hy.at_ hlt2
       have e0 : xs.getD j 0 = ys.getD j 0 → j + 1 ≤ R := fun e => by rw [HR.out]; exact cp_step (by rw [← HR.out]; exact Hj.out) (by rw [Hl.out]; exact hlt1) (by rw [Hl2.out]; exact hlt2) e
       have e1 : xs.getD j 0 ≠ ys.getD j 0 → R = j := fun e => by rw [HR.out]; exact cp_stop (by rw [← HR.out]; exact Hj.out) (.inr (.inr e))
       obtain ⟨u, hu⟩ : ∃ u, u = xs.getD j 0 := ⟨_, rfl⟩
       obtain ⟨v, hv⟩ : ∃ v, v = ys.getD j 0 := ⟨_, rfl⟩
       rw [← hu] at hc e0 e1
       rw [← hv] at hc' e0 e1
       clear hu hv
       have hji : (j : Int) < (n : Int) := by omega
       have hji2 : (j : Int) < (n2 : Int) := by omega
       by_cases huv : u = v
       · subst huv
         have HN := Lib.hid (e0 rfl)
         clear e0 e1
         go_wp2_with fail
         go_quiet (fail)
         go_wp2
         go_roundw
         case rel => exact ⟨j + 1, _, by omega, by omega, by go_num, rfl, HN⟩
         case measure => simp [intOf]; omega
       · have HE := Lib.hid (e1 huv)
         have d1 : ((u : Int) == (v : Int)) = false := by rw [beq_eq_false_iff_ne]; omega
         have d2 : ((u : Int) != (v : Int)) = true := by rw [bne_iff_ne]; omega
         clear e0 e1 huv
         go_wp2_with fail
         go_quiet (fail)
         go_wp2
         go_ret
         exact ⟨by rw [HE.out]; rfl, _, by first | rfl | exact World.drewN_drewN .. | exact drew3 .. | fail⟩
     · have HE := Lib.hid (show R = j by rw [HR.out]; exact cp_stop (by rw [← HR.out]; exact Hj.out) (.inr (.inl (by rw [Hl2.out]; omega))))
       have hji : (j : Int) < (n : Int) := by omega
       obtain rfl : j = n2 := by omega
       go_wp2_with fail
       go_quiet (fail)
       go_wp2
       go_ret
       exact ⟨by rw [HE.out]; rfl, _, by first | rfl | exact World.drewN_drewN .. | exact drew3 .. | fail⟩
   · have HE := Lib.hid (show R = j by rw [HR.out]; exact cp_stop (by rw [← HR.out]; exact Hj.out) (.inl (by rw [Hl.out]; omega)))
     have hji : ¬ (j : Int) < (n : Int) := by omega
     obtain rfl : j = n := by omega
     go_wp2
     go_ret
     exact ⟨by rw [HE.out]; rfl, _, by first | rfl | exact World.drewN_drewN .. | exact drew3 .. | fail⟩
structure Shape (T : Type) where
 cells : T → List Value
 sz : Nat
 len : ∀ x, (cells x).length = sz
 one : ∀ x, ∀ u ∈ cells x, u.oneCell' = true
section
variable {T : Type} {s : Shape T}
def Shape.all (s : Shape T) (xs : List T) : List Value := (xs.map s.cells).flatten
theorem Shape.all_cons (x : T) (xs : List T) : s.all (x :: xs) = s.cells x ++ s.all xs := by simp [Shape.all]
theorem Shape.all_snoc (xs : List T) (x : T) : s.all (xs ++ [x]) = s.all xs ++ s.cells x := by simp [Shape.all]
theorem Shape.all_at : ∀ {xs : List T} {j i : Nat} {x : T} {u : Value}, xs[j]? = some x → (s.cells x)[i]? = some u → (s.all xs)[j * s.sz + i]? = some u := by
 intro xs
 induction xs with
 | nil => intro j i x u h; simp at h
 | cons y r ih =>
   intro j i x u h k
   have hi : i < s.sz := by have := (List.getElem?_eq_some_iff.1 k).1; rw [s.len] at this; exact this
   cases j with
   | zero =>
     simp at h; subst h
     rw [Shape.all_cons, Nat.zero_mul, Nat.zero_add, List.getElem?_append_left (by rw [s.len]; exact hi)]
     exact k
   | succ j =>
     have h2 : r[j]? = some x := by simpa using h
     rw [Shape.all_cons, List.getElem?_append_right (by rw [s.len, Nat.succ_mul]; omega), s.len, show (j + 1) * s.sz + i - s.sz = j * s.sz + i from by rw [Nat.succ_mul]; omega]
     exact ih h2 k
theorem Shape.all_set : ∀ {xs : List T} {j i : Nat} {x y : T} {u : Value}, xs[j]? = some x → i < s.sz → s.cells y = (s.cells x).set i u → s.all (xs.set j y) = (s.all xs).set (j * s.sz + i) u := by
 intro xs
 induction xs with
 | nil => intro j i x y u h; simp at h
 | cons z r ih =>
   intro j i x y u h hi k
   cases j with
   | zero =>
     simp at h; subst h
     rw [List.set_cons_zero, Shape.all_cons, Shape.all_cons, k, Nat.zero_mul, Nat.zero_add, List.set_append_left _ _ (by rw [s.len]; exact hi)]
   | succ j =>
     have h2 : r[j]? = some x := by simpa using h
     rw [List.set_cons_succ, Shape.all_cons, Shape.all_cons, ih h2 hi k, List.set_append_right _ _ (by rw [s.len, Nat.succ_mul]; omega), s.len, show (j + 1) * s.sz + i - s.sz = j * s.sz + i from by rw [Nat.succ_mul]; omega]
def RdG (s : Shape T) (w : World) (A : Option Addr) (n : Nat) (xs : List T) : Prop :=
 xs.length = n ∧ (0 < n → ∃ b o, A = some ⟨b, o, none⟩ ∧ b < w.heap.size ∧ ∀ j x, xs[j]? = some x → ∀ i u, (s.cells x)[i]? = some u → w.cell? ⟨b, o + j * s.sz + i, none⟩ = some u)
variable {w w' : World} {A : Option Addr} {n : Nat} {xs : List T}
theorem RdG.len (h : RdG s w A n xs) : xs.length = n := h.1
theorem RdG.ext (h : RdG s w A n xs) (hb : Ext w w') : RdG s w' A n xs :=
 ⟨h.1, fun hn => by
   obtain ⟨b, o, e, hlt, hc⟩ := h.2 hn
   exact ⟨b, o, e, Nat.lt_of_lt_of_le hlt hb.size, fun j x hj i u hu => (Below.cell hb (p := ⟨b, o + j * s.sz + i, none⟩) hlt).trans (hc j x hj i u hu)⟩⟩
theorem RdG.at_ (h : RdG s w A n xs) {j : Nat} (hj : j < n) :
   ∃ b o x, A = some ⟨b, o, none⟩ ∧ b < w.heap.size ∧ xs[j]? = some x ∧ ∀ i u, (s.cells x)[i]? = some u → w.cell? ⟨b, o + j * s.sz + i, none⟩ = some u := by
 obtain ⟨b, o, e, hlt, hc⟩ := h.2 (by omega)
 have hjl : j < xs.length := by rw [h.1]; exact hj
 have hf : xs[j]? = some xs[j] := List.getElem?_eq_getElem hjl
 exact ⟨b, o, _, e, hlt, hf, hc j _ hf⟩
def OwnG (s : Shape T) (e : TypeId) (w : World) (base : Nat) (A : Option Addr) (c : Nat) (xs : List T) : Prop := w.ownsRow base e s.sz (.slice A xs.length c) xs.length (s.all xs)
variable {e : TypeId} {base c : Nat}
theorem OwnG.nil (s : Shape T) (e : TypeId) (w : World) (base : Nat) : OwnG s e w base none 0 [] := World.ownsRow_nil w base e s.sz
theorem OwnG.made (s : Shape T) (e : TypeId) (w : World) (hb : base ≤ w.heap.size) : OwnG s e (w.alloc (.cells #[] e)) base (some ⟨w.heap.size, 0, none⟩) 0 [] :=
 World.ownsRow_made w #[] 0 hb (by simp [maxLen]) (by simp)
theorem OwnG.ext (h : OwnG s e w base A c xs) (hb : Ext w w') : OwnG s e w' base A c xs := by
 refine World.ownsRow.kept (row := none) h ⟨hb.os, hb.tape, hb.output, hb.size, fun i hi _ => hb.block i hi⟩ ?_
 cases hv : (Value.slice A xs.length c).ownBlock <;> simp
theorem OwnG.grown (h : OwnG s e w base A c xs) {row : Option Nat} (hg : w.grownBy w' row) (hne : ∀ a, A = some a → some a.block ≠ row) : OwnG s e w' base A c xs := by
 refine World.ownsRow.kept h hg ?_
 cases A with
 | none => exact Or.inl rfl
 | some a => exact Or.inr (hne a rfl)
theorem OwnG.mono (h : OwnG s e w base A c xs) {base' : Nat} (hb : base' ≤ base) : OwnG s e w base' A c xs := by
 refine ⟨h.1, ?_⟩
 rcases h.2 with hn | ⟨g, cap, cur, hv, hg, r⟩
 · exact Or.inl hn
 · exact Or.inr ⟨g, cap, cur, hv, Nat.le_trans hb hg, r⟩
theorem OwnG.block (h : OwnG s e w base A c xs) : ∀ a, A = some a → base ≤ a.block ∧ a.block < w.heap.size := by
 rintro a rfl
 exact h.lt a.block rfl
theorem OwnG.at_ (h : OwnG s e w base A c xs) {j : Nat} (hj : j < xs.length) :
   ∃ b x, A = some ⟨b, 0, none⟩ ∧ base ≤ b ∧ b < w.heap.size ∧ xs[j]? = some x ∧ (∀ i u, (s.cells x)[i]? = some u → w.cell? ⟨b, j * s.sz + i, none⟩ = some u) ∧ (∀ i, w.frozen? ⟨b, i, none⟩ = false) ∧
     ∀ i y u, i < s.sz → s.cells y = (s.cells x).set i u → OwnG s e (w.setCell ⟨b, j * s.sz + i, none⟩ u) base A c (xs.set j y) ∧ w.grownBy (w.setCell ⟨b, j * s.sz + i, none⟩ u) (some b) := by
 have h0 := h
 have hf : xs[j]? = some xs[j] := List.getElem?_eq_getElem hj
 rcases h.2 with ⟨_, hn⟩ | ⟨g, cap, cur, hv, hg, hh, _⟩
 · omega
 · injection hv with hA hl hc
   subst hA
   subst hc
   have hlt : g < w.heap.size := (Array.getElem?_eq_some_iff.1 hh).1
   refine ⟨g, xs[j], rfl, hg, hlt, hf, fun i u hu => ?_, fun i => World.ownsRow.frozenAt h0 i, fun i y u hi hy => ?_⟩
   · have hi : i < s.sz := by have := (List.getElem?_eq_some_iff.1 hu).1; rw [s.len] at this; exact this
     rw [World.ownsRow.cellAt h0 (j * s.sz + i) ?_]
     · exact Shape.all_at hf hu
     · have : (j + 1) * s.sz ≤ xs.length * s.sz := Nat.mul_le_mul_right _ hj
       rw [Nat.succ_mul] at this
       omega
   · obtain ⟨h1, h2⟩ := World.ownsRow.stored h0 (j * s.sz + i) u
     refine ⟨?_, h2⟩
     unfold OwnG
     rw [List.length_set, Shape.all_set hf hi hy]
     exact h1
theorem OwnG.rd (h : OwnG s e w base A c xs) : RdG s w A xs.length xs := by
 refine ⟨rfl, fun hn => ?_⟩
 obtain ⟨b, x0, hA, _, hlt, _⟩ := h.at_ hn
 refine ⟨b, 0, hA, hlt, fun j x hj i u hu => ?_⟩
 obtain ⟨b', x', hA', _, _, hx', hc, _⟩ := h.at_ (List.getElem?_eq_some_iff.1 hj).1
 rw [hA] at hA'
 injection hA' with hA'
 injection hA' with hb
 subst hb
 rw [hj] at hx'
 injection hx' with hx'
 subst hx'
 rw [Nat.zero_add]
 exact hc i u hu
theorem OwnG.rd' (h : OwnG s e w base A c xs) {n : Nat} (hn : xs.length = n) : RdG s w A n xs := hn ▸ h.rd
theorem wpList_pushG {P : Program} {w0 w : World} {ops : Array Oper} {rest : List Oper} {o : Oper} {a : Act} {Q : Exit → Act → World → Prop} (s : Shape T) (x : T) (e : TypeId) (hgd : o.guard = none) (v y : Operand) (t : TypeId)
   (ho : o.op = .call { callee := .builtin .append, args := #[v, y], argTypes := #[t, t] })
   (z : Value) (bytes : Nat) (ht : P.underlying t = some (.slice e)) (hi : (P.info? e).map (fun i => (i.zero, i.size, i.bytes)) = some (some z, s.sz, bytes)) (hzs : z.cells.size = s.sz) (hs0 : 0 < s.sz)
   {base : Nat} {A : Option Addr} {c : Nat} {xs : List T} (hown : OwnG s e w base A c xs) (n : Nat) (hn : xs.length = n) (hs : a.eval v = .slice A n c)
   {g : Nat} {e' : TypeId} (hy : a.eval y = .slice (some ⟨g, 0, none⟩) 1 1) (hg : w.heap[g]? = some (.cells (s.cells x).toArray e'))
   (hlen : ((n + 1) + (n + 1) / 4 + 192) * bytes ≤ 281474976710656) (hby : 0 < bytes) (hb : Below base w0 w) (hbase : base ≤ w.heap.size)
   (h : ∀ A' c' w', OwnG s e w' base A' c' (xs ++ [x]) → w.grownBy w' (Value.slice A n c).ownBlock → Below base w0 w' → base ≤ w'.heap.size → wpList P ops Q rest (a.put o.dst (.slice A' (n + 1) c')) w') :
   wpList P ops Q (o :: rest) a w := by
 subst hn
 obtain ⟨i, hi0, hz, hsz, hbs⟩ := info_parts hi
 have hle : xs.length + 1 ≤ 281474976710656 := Nat.le_trans (Nat.le_trans (by omega) (Nat.le_mul_of_pos_right ((xs.length + 1) + (xs.length + 1) / 4 + 192) hby)) hlen
 refine wpList_append_own_wide _ hgd v y t ho base e i z s.sz bytes ht hi0 hz hsz hbs hzs hs0 _ xs.length (s.all xs) hs hown
   ⟨g, 0, none⟩ 1 1 (s.cells x) hy (by rw [s.len, Nat.one_mul]) ?_ (s.one x) (by unfold maxLen; omega) hlen hbase ?_
 · intro j u hj
   rw [show (⟨g, 0, none⟩ : Addr).add j = ⟨g, j, none⟩ from by unfold Addr.add; split <;> simp_all]
   rw [cell_of_row w g j _ _ (0, 0) hg, ← hj]
   simp
 · intro v' w' hown' hgr _
   have hform : ∃ A' c', v' = .slice A' (xs.length + 1) c' := by
     rcases hown'.2 with ⟨_, h0⟩ | ⟨g, cap, cur, hv, _⟩
     · omega
     · exact ⟨_, _, hv⟩
   obtain ⟨A', c', rfl⟩ := hform
   have hb' : Below base w0 w' := Below.grown hb hgr hbase (fun g hg' => (hown.lt g hg').1)
   refine h A' c' w' ?_ hgr hb' ?_
   · unfold OwnG
     rw [List.length_append, Shape.all_snoc]
     exact hown'
   · have := hgr.size
     omega
end
def shZ : Shape Int := ⟨fun x => [.int .i64 x], 1, fun _ => rfl, by intro x u hu; simp at hu; subst hu; rfl⟩
def shR : Shape (Int × Int) := ⟨fun x => [.int .i64 x.1, .int .i64 x.2], 2, fun _ => rfl, by intro x u hu; simp at hu; rcases hu with rfl | rfl <;> rfl⟩
theorem shZ.all (xs : List Int) : shZ.all xs = xs.map (Value.int .i64) := by
 induction xs with
 | nil => rfl
 | cons x r ih => rw [Shape.all_cons, ih]; rfl
theorem RdG.atZ {w : World} {A : Option Addr} {n : Nat} {xs : List Int} (h : RdG shZ w A n xs) {j : Nat} (hj : j < n) :
   ∃ b o, A = some ⟨b, o, none⟩ ∧ b < w.heap.size ∧ w.cell? ⟨b, o + j, none⟩ = some (.int .i64 (xs.getD j 0)) := by
 obtain ⟨b, o, x, e, hb, hx, hc⟩ := h.at_ hj
 refine ⟨b, o, e, hb, ?_⟩
 have h1 := hc 0 (.int .i64 x) rfl
 rw [show o + j * shZ.sz + 0 = o + j from by show o + j * 1 + 0 = o + j; omega] at h1
 rw [h1, List.getD, hx]
 rfl
theorem RdG.atR {w : World} {A : Option Addr} {n : Nat} {xs : List (Int × Int)} (h : RdG shR w A n xs) {j : Nat} (hj : j < n) :
   ∃ b o, A = some ⟨b, o, none⟩ ∧ b < w.heap.size ∧ w.cell? ⟨b, o + j * 2, none⟩ = some (.int .i64 (xs.getD j (0, 0)).1) ∧ w.cell? ⟨b, o + j * 2 + 1, none⟩ = some (.int .i64 (xs.getD j (0, 0)).2) := by
 obtain ⟨b, o, x, e, hb, hx, hc⟩ := h.at_ hj
 refine ⟨b, o, e, hb, ?_, ?_⟩
 · have h1 := hc 0 (.int .i64 x.1) rfl
   rw [show o + j * shR.sz + 0 = o + j * 2 from rfl] at h1
   rw [h1, List.getD, hx]
   rfl
 · have h1 := hc 1 (.int .i64 x.2) rfl
   rw [show o + j * shR.sz + 1 = o + j * 2 + 1 from rfl] at h1
   rw [h1, List.getD, hx]
   rfl
theorem take_nextG {T : Type} (xs : List T) (j : Nat) {x : T} (h : xs[j]? = some x) : xs.take (j + 1) = xs.take j ++ [x] := by
 obtain ⟨h1, rfl⟩ := List.getElem?_eq_some_iff.1 h
 rw [List.take_succ_eq_append_getElem h1]
def shS : Shape Sl := ⟨fun s => [s.v], 1, fun _ => rfl, by intro x u hu; simp at hu; subst hu; rfl⟩
abbrev OwnT (w : World) (base : Nat) (A : Option Addr) (c : Nat) (ts : List Sl) : Prop := OwnG shS 22 w base A c ts
theorem RdG.rdL {w : World} {A : Option Addr} {n : Nat} {ts : List Sl} (h : RdG shS w A n ts) : RdL w A n ts :=
 ⟨h.1, fun hn => by
   obtain ⟨b, o, e, hb, hc⟩ := h.2 hn
   refine ⟨b, o, e, hb, fun j s hj => ?_⟩
   have := hc j s hj 0 s.v rfl
   rw [show o + j * shS.sz + 0 = o + j from by show o + j * 1 + 0 = o + j; omega] at this
   exact this⟩
theorem OwnG.rdL {w : World} {base c : Nat} {A : Option Addr} {ts : List Sl} (h : OwnT w base A c ts) : RdL w A ts.length ts := h.rd.rdL
theorem own_neT {w : World} {base base' c c' : Nat} {A A' : Option Addr} {ts : List Sl} {xs : List Nat} (h : OwnT w base A c ts) (k : Own .u8 5 w base' A' c' xs) : ∀ a, A' = some a → some a.block ≠ (Value.slice A ts.length c).ownBlock := by
 rintro a rfl e
 rcases h.2 with ⟨hv, _⟩ | ⟨g, cap, cur, hv, hg, hh, _⟩
 · rw [hv] at e; simp [Value.ownBlock] at e
 · rw [hv] at e
   simp [Value.ownBlock] at e
   rcases k.2 with ⟨hv', _⟩ | ⟨g', cap', cur', hv', _, hh', _⟩
   · cases hv'
   · injection hv' with hA
     injection hA with hA
     subst hA
     simp at e
     subst e
     rw [hh] at hh'
     injection hh' with hh'
     injection hh' with h1 h2 h3
     exact absurd h2 (by decide)
structure Txts (w : World) (base : Nat) (ts : List Sl) : Prop where
 own : ∀ s ∈ ts, Own .u8 5 w base s.A s.c s.body
 apart : ts.Pairwise fun s t => ∀ p q, s.A = some p → t.A = some q → p.block < q.block
variable {w w' : World} {base c : Nat} {A : Option Addr} {ts : List Sl}
theorem Txts.nil (w : World) (base : Nat) : Txts w base [] := ⟨fun s hs => (by cases hs), List.Pairwise.nil⟩
theorem Txts.ext (h : Txts w base ts) (he : Ext w w') : Txts w' base ts := ⟨fun s hs => (h.own s hs).ext he, h.apart⟩
theorem Txts.grown (h : Txts w base ts) {base' : Nat} {us : List Sl} (k : OwnT w base' A c us) (hg : w.grownBy w' (Value.slice A us.length c).ownBlock) : Txts w' base ts :=
 ⟨fun s hs => (h.own s hs).grown hg (own_neT k (h.own s hs)), h.apart⟩
theorem Txts.snoc (h : Txts w base ts) {s : Sl} {base' : Nat} (hs : Own .u8 5 w base' s.A s.c s.body) (hb : base ≤ base') (hl : ∀ t ∈ ts, ∀ p, t.A = some p → p.block < base') : Txts w base (ts ++ [s]) := by
 refine ⟨fun t ht => ?_, ?_⟩
 · rcases List.mem_append.1 ht with h1 | h1
   · exact h.own t h1
   · simp at h1; subst h1; exact hs.mono hb
 · rw [List.pairwise_append]
   refine ⟨h.apart, by simp, fun t ht f' hf' p q hp hq => ?_⟩
   simp at hf'
   subst hf'
   exact Nat.lt_of_lt_of_le (hl t ht p hp) (hs.block q hq).1
theorem Txts.lt (h : Txts w base ts) : ∀ t ∈ ts, ∀ p, t.A = some p → p.block < w.heap.size := fun t ht p hp => ((h.own t ht).block p hp).2
theorem Txts.rd (h : Txts w base ts) : ∀ s ∈ ts, Rd .u8 w s.A s.body.length s.body := fun s hs => (h.own s hs).rd
theorem wpList_pushT {w0 w : World} {ops : Array Oper} {rest : List Oper} {o : Oper} {a : Act} {Q : Exit → Act → World → Prop} (f : Sl) (hgd : o.guard = none) (s y : Operand)
   (ho : o.op = .call { callee := .builtin .append, args := #[s, y], argTypes := #[33, 33] })
   {base : Nat} {A : Option Addr} {c : Nat} {ss : List Sl} (hown : OwnT w base A c ss) (n : Nat) (hn : ss.length = n) (hs : a.eval s = .slice A n c)
   {g : Nat} (hy : a.eval y = .slice (some ⟨g, 0, none⟩) 1 1) (hg : w.heap[g]? = some (.cells #[.slice f.A f.body.length f.c] 22))
   (hlen : n ≤ 6000000000000) (hb : Below base w0 w) (hbase : base ≤ w.heap.size)
   (h : ∀ A' c' w', OwnT w' base A' c' (ss ++ [f]) → w.grownBy w' (Value.slice A n c).ownBlock → Below base w0 w' → base ≤ w'.heap.size → wpList Tryz.prog ops Q rest (a.put o.dst (.slice A' (n + 1) c')) w') :
   wpList Tryz.prog ops Q (o :: rest) a w :=
 wpList_pushG shS f 22 hgd s y 33 ho _ 24 Tryz.underlying33 Tryz.infoS rfl (by decide) hown n hn hs hy hg (by omega) (by omega) hb hbase h
def TxtsPost (R : List (List Nat) × Int) (w : World) (e : Ending) (w' : World) : Prop :=
 ∃ A' c' ts, e = .returned (.tuple #[.slice A' ts.length c', .int .i64 R.2]) ∧ bodies ts = R.1 ∧ OwnT w' w.heap.size A' c' ts ∧ Txts w' w.heap.size ts ∧ Ext w w'
theorem TxtsPost.bad {w w' : World} (R : List (List Nat) × Int) {E : Int} (h : R = ([], E)) (he : Ext w w') : TxtsPost R w (.returned (.tuple #[.slice none 0 0, .int .i64 E])) w' := by
 subst h
 exact ⟨none, 0, [], rfl, rfl, OwnG.nil .., Txts.nil .., he⟩
theorem TxtsPost.good {w w' : World} (R : List (List Nat) × Int) {ts : List Sl} {A : Option Addr} {m c : Nat} (h : R = (bodies ts, 0)) (hm : ts.length = m) (ho : OwnT w' w.heap.size A c ts) (ht : Txts w' w.heap.size ts) (he : Ext w w') : TxtsPost R w (.returned (.tuple #[.slice A m c, .int .i64 0])) w' := by
 subst h
 subst hm
 exact ⟨A, c, ts, rfl, rfl, ho, ht, he⟩
theorem bulk_pos {H : Type} (d : DataW H) : 1 ≤ Rows.uptoBulk d := by
 cases d with
 | lit l => cases l <;> simp [Rows.uptoBulk]
 | _ => simp [Rows.uptoBulk]
theorem bulk_length {H : Type} (l : List (DataW H)) : l.length ≤ Rows.uptoBulkAll l := by
 induction l with
 | nil => simp
 | cons d r ih => have := bulk_pos d; simp only [List.length_cons, Rows.uptoBulkAll]; omega
theorem bulk_len {H : Type} {d : DataW H} {len : Nat} (h : len = 0 ∨ ∃ elems spare, d = .slice elems spare ∧ elems.length = len) : len ≤ Rows.uptoBulk d := by
 rcases h with rfl | ⟨elems, spare, rfl, rfl⟩
 · exact Nat.zero_le _
 · have := bulk_length elems
   simp only [Rows.uptoBulk]
   omega
theorem upto_bulk {H : Type} {ds : List (DataW H)} (h : Rows.uptoSmall H ds = true) : Rows.uptoBulkAll ds ≤ 1048576 := of_decide_eq_true h
open Go.ChangeShapes Go.WideShapes Go.ChangeAt Go.RowKit Go.Deep
def SzG {H : Type} (P : Program) (t : TypeId) (d : DataW H) : Prop := ∀ n ∈ d.weights P t, n ≤ reachBytes
section
variable {H : Type} {P : Program}
theorem sz_topG {ts : List TypeId} {ds : List (DataW H)} (h : (DataW.weightsEach P ts ds).all (· ≤ reachBytes) = true) (j : Nat) {t : TypeId} {d : DataW H} (ht : ts[j]? = some t) (hd : ds[j]? = some d) : SzG P t d := by
 intro n hn
 have := List.all_eq_true.1 h _ (DataW.weights_mem_each ht hd n hn)
 simpa using this
theorem weights_mem_allG {e : TypeId} : ∀ {ds : List (DataW H)} {d : DataW H}, d ∈ ds → ∀ n ∈ d.weights P e, n ∈ DataW.weightsAll P e ds
 | d0 :: r, d, hd, n, hn => by
   simp only [DataW.weightsAll, List.mem_append]
   rcases List.mem_cons.1 hd with rfl | hd
   · exact .inl hn
   · exact .inr (weights_mem_allG hd n hn)
theorem sz_elemG {t e : TypeId} {elems spare : List (DataW H)} (h : SzG P t (.slice elems spare)) (hu : P.underlying t = some (.slice e)) {d : DataW H} (hd : d ∈ elems) : SzG P e d := by
 intro n hn
 refine h n ?_
 simp only [DataW.weights, hu, List.mem_cons, List.mem_append]
 exact .inr (.inl (weights_mem_allG hd n hn))
theorem sz_lenG {t e : TypeId} {elems spare : List (DataW H)} (h : SzG P t (.slice elems spare)) (hu : P.underlying t = some (.slice e)) : (elems.length + spare.length) * P.bytesOf e ≤ reachBytes := by
 refine h _ ?_
 simp [DataW.weights, hu]
end
section
variable {H : Type} {enc : TypeId × Value → H} {W : World}
theorem open_rowsG {t e : TypeId} {k bytes : Nat} {T : Type} {cells : T → List Value} {Q : T → DataW H → Prop} {fuel : Nat} {v : Value} {d : DataW H} {p : List MemPlace} (ht : Tryz.prog.underlying t = some (.slice e)) (hk : Tryz.prog.cellsOf e = k) (hk0 : 0 < k) (hby : Tryz.prog.bytesOf e = bytes)
   (hone : ∀ {n : Nat} {cs : List Value} {x : DataW H × List MemPlace}, DataW.trod enc Tryz.prog W 0 (fun _ => true) true n e cs = some x → SzG Tryz.prog e x.1 → ∃ c : T, cs = cells c ∧ Q c x.1)
   (h : DataW.trod enc Tryz.prog W 0 (fun _ => true) true fuel t [v] = some (d, p)) (hs : SzG Tryz.prog t d) :
   ∃ (a : Option Addr) (cap : Nat) (xs : List T), v = .slice a xs.length cap ∧ xs.length ≤ cap ∧ cap ≤ 9223372036854775807 ∧ xs.length * bytes ≤ 140737488351232 ∧ xs.length ≤ Rows.uptoBulk d ∧
     (∀ c ∈ xs, ∃ dd, Q c dd) ∧ (0 < xs.length → ∃ b o, a = some ⟨b, o, none⟩ ∧ b < W.heap.size ∧ ∀ j c, xs[j]? = some c → ∀ i u, (cells c)[i]? = some u → W.cell? ⟨b, o + j * k + i, none⟩ = some u) := by
 rcases open_slice ht h with ⟨hcs, hx⟩ | ⟨a, l, c, m, n, D, Pl, hcs, _, hl, hcm, hm, hx, hcell⟩
 · injection hcs with hcs
   exact ⟨none, 0, [], hcs, Nat.zero_le _, by decide, by simp, Nat.zero_le _, (by intro c hc; cases hc), fun hn => absurd hn (by simp)⟩
 · injection hcs with hcs
   simp only [Prod.mk.injEq] at hx
   obtain ⟨rfl, _⟩ := hx
   have hmc : m = c := by simpa using hm
   subst hmc
   have hr := sz_lenG hs ht
   rw [hby] at hr
   simp only [List.length_map, List.length_range, reachBytes] at hr
   have each : ∀ i, i < l → ∃ q : T, W.cells? 0 (a.add (i * k)) k = some (cells q) ∧ Q q (D i) := by
     intro i hi
     obtain ⟨cs', h1, h2⟩ := hcell i (by omega)
     rw [hk] at h1
     obtain ⟨q, e1, e2⟩ := hone h2 (sz_elemG hs ht (List.mem_map.2 ⟨i, List.mem_range.2 hi, rfl⟩))
     exact ⟨q, by rw [h1, e1], e2⟩
   by_cases hl0 : l = 0
   · subst hl0
     exact ⟨some a, m, [], hcs, Nat.zero_le _, hcm, by simp, Nat.zero_le _, (by intro c hc; cases hc), fun hn => absurd hn (by simp)⟩
   · obtain ⟨q0, _⟩ := each 0 (by omega)
     have each' : ∀ i, ∃ q : T, i < l → W.cells? 0 (a.add (i * k)) k = some (cells q) ∧ Q q (D i) := by
       intro i
       by_cases hi : i < l
       · obtain ⟨q, hq⟩ := each i hi
         exact ⟨q, fun _ => hq⟩
       · exact ⟨q0, fun h => absurd h hi⟩
     obtain ⟨q, hq⟩ := Classical.axiomOfChoice each'
     have hxl : ((List.range l).map q).length = l := by simp
     refine ⟨some a, m, (List.range l).map q, by rw [hxl]; exact hcs, by rw [hxl]; exact hl, hcm, ?_, ?_, ?_, fun hn => ?_⟩
     · rw [hxl]
       have : l + (m - l) = m := by omega
       rw [this] at hr
       exact Nat.le_trans (Nat.mul_le_mul_right _ hl) hr
     · rw [hxl]
       exact bulk_len (.inr ⟨_, _, rfl, by simp⟩)
     · intro c hc
       obtain ⟨i, hi, rfl⟩ := List.mem_map.1 hc
       exact ⟨_, (hq i (List.mem_range.1 hi)).2⟩
     · obtain ⟨b, o, spot⟩ := a
       have hall : ∀ i, i < l → ∀ r u, (cells (q i))[r]? = some u → W.cell? ((⟨b, o, spot⟩ : Addr).add (i * k) |>.add r) = some u := by
         intro i hi r u hu
         obtain ⟨_, hlen, hc⟩ := World.cells?_some (hq i hi).1
         have hr := (List.getElem?_eq_some_iff.1 hu).1
         rw [hc r (by omega), hu]
       have hl1 : 0 < l := by omega
       obtain ⟨_, hlen0, hc0⟩ := World.cells?_some (hq 0 hl1).1
       have hu0 : (cells (q 0))[0]? = some (cells (q 0))[0] := List.getElem?_eq_getElem (by omega)
       have hz := hall 0 hl1 0 _ hu0
       have hspot : spot = none := by simpa [Addr.add] using World.cell?_spot hz
       subst hspot
       refine ⟨b, o, rfl, ?_, fun j c hj i u hu => ?_⟩
       · have hb := World.block_lt_of_cell? W _ hz
         simpa [Addr.add] using hb
       · rw [List.getElem?_map, Option.map_eq_some_iff] at hj
         obtain ⟨i', hi', rfl⟩ := hj
         obtain ⟨g1, g2⟩ := List.getElem?_eq_some_iff.1 hi'
         simp at g1 g2
         subst g2
         have := hall j g1 i u hu
         rwa [add_plain, add_plain] at this
end
section
variable {H : Type} {enc : TypeId × Value → H} {W : World}
theorem open_textL {fuel : Nat} {cs : List Value} {d : DataW H} {p : List MemPlace}
   (h : DataW.trod enc Tryz.prog W 0 (fun _ => true) true fuel 22 cs = some (d, p)) (hs : SzG Tryz.prog 22 d) : ∃ s : Sl, cs = [s.v] ∧ TxI W s ∧ s.body.length ≤ 140737488351232 := by
 have ht : Tryz.prog.underlying 22 = some (.slice 5) := Tryz.underlying22
 have he : Tryz.prog.underlying 5 = some (.int .u8) := Tryz.underlying5
 have hc : Tryz.prog.cellsOf 5 = 1 := by kernel_rfl
 have hby : Tryz.prog.bytesOf 5 = 1 := by kernel_rfl
 rcases open_ints ht he hc h with ⟨hcs, hx⟩ | ⟨x, l, c, zs, hcs, _, hl, hm, hz, hx, hcell, hwz⟩
 · exact ⟨⟨none, 0, []⟩, hcs, ⟨Rd.nil .., (by intro v hv; cases hv), Nat.zero_le _, by decide, by decide⟩, by decide⟩
 · simp only [Prod.mk.injEq] at hx
   obtain ⟨rfl, _⟩ := hx
   have hzl : zs.length = c := by simpa using hz
   have hr := sz_lenG hs ht
   rw [hby] at hr
   simp only [lits, List.length_map, List.length_take, List.length_drop, reachBytes] at hr
   have hw : ∀ i, i < l → 0 ≤ zs.getD i 0 ∧ zs.getD i 0 < 256 := by
     intro i hi
     have hlt : i < zs.length := by omega
     have := wf_u8 (hwz _ (List.getElem_mem hlt))
     simpa [List.getD, hlt] using this
   have hxl : ((zs.take l).map Int.toNat).length = l := by rw [List.length_map, List.length_take]; omega
   have hm2 : c ≤ 9223372036854775807 := by simpa [maxLen] using hm
   refine ⟨⟨some x, c, (zs.take l).map Int.toNat⟩, by rw [hcs, Sl.v, hxl], ⟨?_, ?_, by rw [hxl]; exact hl, hm2, by rw [hxl]; omega⟩, by rw [hxl]; omega⟩
   · rw [hxl]
     refine ⟨hxl, fun hn => ?_⟩
     have hc0 := hcell 0 (by omega)
     obtain ⟨b, o, spot⟩ := x
     have hspot : spot = none := by simpa [Addr.add] using World.cell?_spot hc0
     subst hspot
     refine ⟨b, o, rfl, ?_, fun i hi => ?_⟩
     · have hb := World.block_lt_of_cell? W _ hc0
       simpa [Addr.add] using hb
     · have h1 := hcell i (by omega)
       rw [add_plain] at h1
       rw [h1]
       have h2 := (hw i hi).1
       have hlt : i < zs.length := by omega
       have h3 : (((zs.take l).map Int.toNat).getD i 0 : Nat) = (zs.getD i 0).toNat := by simp [List.getD, hi, hlt]
       rw [h3, Int.toNat_of_nonneg h2]
   · intro v hv
     obtain ⟨n, hn, rfl⟩ := List.mem_map.1 hv
     have := wf_u8 (hwz _ (List.mem_of_mem_take hn))
     omega
set_option maxRecDepth 100000 in
theorem open_textsL {a : Option Addr} {len cap : Nat} {d : DataW H} {p : List MemPlace} (h : DataW.Trod enc Tryz.prog W 0 (fun _ => true) true 33 (.slice a len cap) d p) (hs : SzG Tryz.prog 33 d) :
   ∃ ss : List Sl, TxL W a len ss ∧ len * 24 ≤ 140737488351232 ∧ len ≤ Rows.uptoBulk d ∧ (∀ s ∈ ss, s.body.length ≤ 140737488351232) := by
 obtain ⟨fuel, hf⟩ := h
 obtain ⟨a', cap', xs, e, h1, h2, h3, h4, h5, h6⟩ := open_rowsG (k := 1) (bytes := 24) (cells := shS.cells) (Q := fun s _ => TxI W s ∧ s.body.length ≤ 140737488351232) (v := .slice a len cap) Tryz.underlying33 (by kernel_rfl) (by decide) (by kernel_rfl) (fun h hs => open_textL h hs) hf hs
 injection e with e1 e2 e3
 subst e1 e2 e3
 exact ⟨xs, ⟨RdG.rdL ⟨rfl, h6⟩, fun s hs => (h5 s hs).elim fun _ h => h.1⟩, h3, h4, fun s hs => (h5 s hs).elim fun _ h => h.2⟩
end
theorem conv_const (W : World) (g : Nat) (C : Array Value) (n c : Nat) (hg : W.heap.size = g) :
   (convert 22 22 (.slice (some ⟨g, 0, none⟩) n c)).run Tryz.prog (W.alloc (.cells C 5)) = .ok (.slice (some ⟨g, 0, none⟩) n c) (W.alloc (.cells C 5 (C.size, C.size + 1))) := by
 subst hg
 exact Lib.run_convert_bytes_const W 22 5 C n c Tryz.underlying22 Tryz.underlying5
theorem Rd.mark_at (k : IntKind) (e : TypeId) (fr : Nat × Nat) (w : World) (xs : List Nat) {b n : Nat} (hb : w.heap.size = b) (hn : xs.length = n) : Rd k (w.alloc (.cells (xs.map fun x : Nat => Value.int k (x : Int)).toArray e fr)) (some ⟨b, 0, none⟩) n xs := by
 subst hb
 subst hn
 refine ⟨rfl, fun hn => ⟨w.heap.size, 0, rfl, by simp, fun j hj => ?_⟩⟩
 rw [cell_of_row _ w.heap.size (0 + j) _ e fr (heap_alloc_new w _)]
 simp [hj]
theorem RdL.of_block {w : World} {g n : Nat} {ss : List Sl} {e : TypeId} (h : w.heap[g]? = some (.cells (ss.map Sl.v).toArray e)) (hn : ss.length = n) : RdL w (some ⟨g, 0, none⟩) n ss := by
 subst hn
 refine ⟨rfl, fun _ => ⟨g, 0, rfl, (Array.getElem?_eq_some_iff.1 h).1, fun j s hj => ?_⟩⟩
 rw [cell_of_row w g (0 + j) _ e (0, 0) h, Nat.zero_add]
 simp [hj]
theorem heap_at {W : World} {o : Obj} {g : Nat} (h : W.heap.size = g) : (W.alloc o).heap[g]? = some o := by subst h; exact heap_alloc_new W o
theorem TxI.of {w : World} {A : Option Addr} {c : Nat} {xs : List Nat} (h : Rd .u8 w A xs.length xs) (hu : U8 xs) (hc : xs.length ≤ c) (ht : c ≤ 9223372036854775807) (hl : xs.length ≤ 140737488355328) : TxI w ⟨A, c, xs⟩ := ⟨h, hu, hc, ht, hl⟩
def sstr (xs : List Nat) : ByteArray := strOfNums (xs.map fun x : Nat => (x : Int))
theorem conv_str {W : World} {A : Option Addr} {n c : Nat} {xs : List Nat} (h : Rd .u8 W A n xs) : (convert 22 9 (.slice A n c)).run Tryz.prog W = .ok (.string (sstr xs)) W := by
 have hl := h.len
 rcases Nat.eq_zero_or_pos n with h0 | h0
 · subst h0
   obtain rfl : xs = [] := List.eq_nil_of_length_eq_zero hl
   cases A with
   | none => exact run_convert_bytes_nil W 22 5 Tryz.underlying22 Tryz.underlying5 0 c _ Tryz.underlying9
   | some a =>
     have hz : (loadCells a 0).run Tryz.prog W = .ok (([] : List Int).map (Value.int .u8)).toArray W := by
       have := run_loadCells_list (P := Tryz.prog) W a [] (fun j v hj => by simp at hj)
       simpa using this
     rw [run_convert_bytes_string W 22 9 5 _ 0 c Tryz.underlying22 Tryz.underlying5 Tryz.underlying9, run_bytesToString W a 0 c [] hz]
     rfl
 · obtain ⟨b, o, rfl, hb, hc⟩ := h.2 h0
   exact run_convert_bytes_arg W 22 5 Tryz.underlying22 Tryz.underlying5 b o n c _ (by simpa using hl) (fun i hi => by
     rw [hc i hi]
     have : i < xs.length := by omega
     simp [List.getD, this]) _ Tryz.underlying9
structure Ci where
 nul : Bool
 num : Int
 A : Option Addr
 c : Nat
 txt : List Nat
def Ci.v (x : Ci) : Value := .agg #[.bool x.nul, .int .i64 x.num, .slice x.A x.txt.length x.c]
structure Ci.In (w : World) (x : Ci) : Prop where
 rd : Rd .u8 w x.A x.txt.length x.txt
 u8 : U8 x.txt
 lo : -9223372036854775808 ≤ x.num
 hi : x.num ≤ 9223372036854775807
 len : x.txt.length * 1 ≤ 140737488351232
theorem Ci.In.ext {w w' : World} {x : Ci} (h : x.In w) (he : Ext w w') : x.In w' := ⟨h.rd.ext he, h.u8, h.lo, h.hi, h.len⟩
def RdX (w : World) (A : Option Addr) (n : Nat) (xs : List Ci) : Prop :=
 xs.length = n ∧ (0 < n → ∃ b o, A = some ⟨b, o, none⟩ ∧ b < w.heap.size ∧ ∀ j x, xs[j]? = some x →
   w.cell? ⟨b, o + j * 3, none⟩ = some (.bool x.nul) ∧ w.cell? ⟨b, o + j * 3 + 1, none⟩ = some (.int .i64 x.num) ∧ w.cell? ⟨b, o + j * 3 + 2, none⟩ = some (.slice x.A x.txt.length x.c) ∧ x.In w)
theorem RdX.ext {w w' : World} {A : Option Addr} {n : Nat} {xs : List Ci} (h : RdX w A n xs) (hb : Ext w w') : RdX w' A n xs :=
 ⟨h.1, fun hn => by
   obtain ⟨b, o, e, hlt, hc⟩ := h.2 hn
   refine ⟨b, o, e, Nat.lt_of_lt_of_le hlt hb.size, fun j f hj => ?_⟩
   obtain ⟨h1, h2, h3, h4⟩ := hc j f hj
   exact ⟨(hb.cells b _ hlt).trans h1, (hb.cells b _ hlt).trans h2, (hb.cells b _ hlt).trans h3, h4.ext hb⟩⟩
theorem RdX.at_ {w : World} {A : Option Addr} {n : Nat} {xs : List Ci} (h : RdX w A n xs) {j : Nat} (hj : j < n) :
   ∃ b o x, A = some ⟨b, o, none⟩ ∧ b < w.heap.size ∧ xs[j]? = some x ∧ w.cell? ⟨b, o + j * 3, none⟩ = some (.bool x.nul) ∧ w.cell? ⟨b, o + j * 3 + 1, none⟩ = some (.int .i64 x.num) ∧ w.cell? ⟨b, o + j * 3 + 2, none⟩ = some (.slice x.A x.txt.length x.c) ∧ x.In w := by
 obtain ⟨b, o, e, hlt, hc⟩ := h.2 (by omega)
 have hjl : j < xs.length := by rw [h.1]; exact hj
 have hf : xs[j]? = some xs[j] := List.getElem?_eq_getElem hjl
 obtain ⟨h1, h2, h3, h4⟩ := hc j _ hf
 exact ⟨b, o, _, e, hlt, hf, h1, h2, h3, h4⟩
def alkC (x y : Ci) : Bool := alk x.nul x.num x.txt y.nul y.num y.txt
def alkF : List Ci → List Ci → Bool
 | x :: r, y :: s => if alkC x y = true then alkF r s else false
 | _, _ => true
def alkR (xs ys : List Ci) : Bool := if xs.length ≠ ys.length then false else alkF xs ys
theorem alkF_at {xs ys : List Ci} {j : Nat} {x y : Ci} (hx : xs[j]? = some x) (hy : ys[j]? = some y) : alkF (xs.drop j) (ys.drop j) = if alkC x y = true then alkF (xs.drop (j + 1)) (ys.drop (j + 1)) else false := by
 obtain ⟨h1, rfl⟩ := List.getElem?_eq_some_iff.1 hx
 obtain ⟨h2, rfl⟩ := List.getElem?_eq_some_iff.1 hy
 rw [List.drop_eq_getElem_cons h1, List.drop_eq_getElem_cons h2]
 rfl
theorem alkF_end {xs ys : List Ci} {j : Nat} (h : xs.length ≤ j) : alkF (xs.drop j) (ys.drop j) = true := by
 rw [List.drop_of_length_le h]
 cases ys.drop j <;> rfl
def Ci.val (x : Ci) : Bool × Int × List Nat := (x.nul, x.num, x.txt)
theorem alkC_iff {x y : Ci} : alkC x y = true ↔ x.val = y.val := by
 unfold alkC Ci.val
 rw [alk_iff]
 simp
theorem alkR_iff {xs ys : List Ci} : alkR xs ys = true ↔ xs.map Ci.val = ys.map Ci.val := by
 induction xs generalizing ys with
 | nil => cases ys <;> simp [alkR, alkF]
 | cons x r ih =>
   cases ys with
   | nil => simp [alkR]
   | cons y s =>
     have ih' := ih (ys := s)
     unfold alkR at ih' ⊢
     by_cases hl : r.length = s.length
     · rw [if_neg (fun q => q hl)] at ih'
       rw [if_neg (fun q => q (by simp [hl]))]
       rw [List.map_cons, List.map_cons, List.cons.injEq, ← ih', ← alkC_iff]
       show (if alkC x y = true then alkF r s else false) = true ↔ _
       split <;> simp_all
     · rw [if_pos (by simpa using hl)]
       simp only [Bool.false_eq_true, false_iff]
       intro q
       have := congrArg List.length q
       simp at this
       exact hl this
set_option maxHeartbeats 3200000 in
set_option maxRecDepth 100000 in
theorem alikeRow_any (A : Option Addr) (n c : Nat) (xs : List Ci) (A2 : Option Addr) (n2 c2 : Nat) (ys : List Ci) (w : World) (hx : RdX w A n xs) (hy : RdX w A2 n2 ys) (hn : n ≤ 140737488355328) (hn2 : n2 ≤ 140737488355328) :
   Calls Tryz.prog 12 #[.slice A n c, .slice A2 n2 c2] w fun e w' => e = .returned (.bool (alkR xs ys)) ∧ Ext w w' := by
 have hl := hx.1
 have hl2 := hy.1
 obtain ⟨R, hR⟩ : ∃ R, R = alkR xs ys := ⟨_, rfl⟩
 rw [← hR]
 unfold alkR at hR
 rw [hl, hl2] at hR
 by_cases heq : n = n2
 · subst heq
   rw [if_neg (fun q => q rfl)] at hR
   have HR := Lib.hid hR
   have Hl := Lib.hid hl
   have b1 : ((n : Int) != (n : Int)) = false := by simp
   clear hR hl hl2
   go_enter Tryz.func12, Tryz.ntmps12
   go_wp2
   go_loopw [5] (fun i wr => ∃ j : Nat, j ≤ n ∧ i = .int .i64 j ∧ Ext w wr ∧ Hid (R = alkF (xs.drop j) (ys.drop j))) (fun i _ => n - (intOf i).toNat)
   case atStart => exact ⟨0, Nat.zero_le _, rfl, Ext.refl w, HR.out⟩
   case round =>
     obtain ⟨j, hj, rfl, hE, HF⟩ := hrel
     by_cases hlt : j < n
     · obtain ⟨b, o, x, rfl, hb, hd, c0, c1, c2', hin⟩ := (hx.ext hE).at_ hlt
       obtain ⟨b2, o2, y, rfl, hb2, hy2, e0, e1, e2, hin2⟩ := (hy.ext hE).at_ hlt
       have hrow := HF.out.trans (alkF_at hd hy2)
       obtain ⟨xn, xi, xA, xc, xt⟩ := x
       obtain ⟨yn, yi, yA, yc, yt⟩ := y
       simp only at c0 c1 c2' e0 e1 e2
       obtain ⟨xr, xu, x0, x1, xl⟩ := hin
       obtain ⟨yr, yu, y0, y1, yl⟩ := hin2
       simp only at xr xu x0 x1 xl yr yu y0 y1 yl
       obtain ⟨n3, hn3⟩ : ∃ n3, n3 = xt.length := ⟨_, rfl⟩
       rw [← hn3] at c2' xr xl
       obtain ⟨n4, hn4⟩ : ∃ n4, n4 = yt.length := ⟨_, rfl⟩
       rw [← hn4] at e2 yr yl
       obtain ⟨q, hq⟩ : ∃ q, q = alk xn xi xt yn yi yt := ⟨_, rfl⟩
       have hqq : alkC ⟨xn, xi, xA, xc, xt⟩ ⟨yn, yi, yA, yc, yt⟩ = q := hq.symm
       rw [hqq] at hrow
       have HC : Hid (∀ W, Ext wr W → Calls Tryz.prog 50 #[.agg #[.bool xn, .int .i64 xi, .slice xA n3 xc], .agg #[.bool yn, .int .i64 yi, .slice yA n4 yc]] W fun e w' => e = .returned (.bool q) ∧ Ext W w') := Lib.hid (fun W hW => by
         rw [hq]; exact alike_any xn xi xA n3 xc xt yn yi yA n4 yc yt W (xr.ext hW) (yr.ext hW) (by omega) (by omega))
       have K : Hid (∀ w', Ext wr w' → w'.cell? ⟨b, o + j * 3, none⟩ = some (.bool xn) ∧ w'.cell? ⟨b, o + j * 3 + 1, none⟩ = some (.int .i64 xi) ∧ w'.cell? ⟨b, o + j * 3 + 2, none⟩ = some (.slice xA n3 xc) ∧ w'.cell? ⟨b2, o2 + j * 3, none⟩ = some (.bool yn) ∧ w'.cell? ⟨b2, o2 + j * 3 + 1, none⟩ = some (.int .i64 yi) ∧ w'.cell? ⟨b2, o2 + j * 3 + 2, none⟩ = some (.slice yA n4 yc)) := Lib.hid (fun w' he =>
         ⟨(he.cells b _ hb).trans c0, (he.cells b _ hb).trans c1, (he.cells b _ hb).trans c2', (he.cells b2 _ hb2).trans e0, (he.cells b2 _ hb2).trans e1, (he.cells b2 _ hb2).trans e2⟩)
       have Hrow := Lib.hid hrow
       have i0 : (0 : Int) ≤ (j : Int) := by omega
       have i1 : (j : Int) < (n : Int) := by omega
       have g8 := K.out _ (Ext.refl wr)
       clear hrow hqq hq hn3 hn4 hd hy2 xr xu x0 x1 xl yr yu y0 y1 yl c0 c1 c2' e0 e1 e2
       go_wp2_with fail
       go_region_held3 (fun w' => w'.cell? ⟨b, o + j * 3, none⟩ = some (.bool xn) ∧ w'.cell? ⟨b, o + j * 3 + 1, none⟩ = some (.int .i64 xi) ∧ w'.cell? ⟨b, o + j * 3 + 2, none⟩ = some (.slice xA n3 xc) ∧ w'.cell? ⟨b2, o2 + j * 3, none⟩ = some (.bool yn) ∧ w'.cell? ⟨b2, o2 + j * 3 + 1, none⟩ = some (.int .i64 yi) ∧ w'.cell? ⟨b2, o2 + j * 3 + 2, none⟩ = some (.slice yA n4 yc))
         (first | exact g8 | (refine K.out _ ?_; (repeat (first | exact Ext.refl _ | (with_reducible refine Ext.trans ?_ he3) | apply Ext.drew | apply Ext.alloc | fail))) | fail)
         (first
           | (go_at_call 50; (with_reducible refine (HC.out _ ?_).mono ?_); (focus ((repeat (first | exact Ext.refl _ | (with_reducible refine Ext.trans ?_ he3) | apply Ext.drew | apply Ext.alloc | fail)); done)); rintro e w3 ⟨rfl, he3⟩)
           | fail)
       have hE3 : Ext w w3 := hE.trans (by (repeat (first | exact Ext.refl _ | (with_reducible refine Ext.trans ?_ he3) | apply Ext.drew | apply Ext.alloc | fail)))
       cases q with
       | true =>
         have HN := Lib.hid (Hrow.out.trans (if_pos rfl))
         go_wp2
         go_roundw
         case rel => exact ⟨j + 1, by omega, by go_num, hE3, HN.out⟩
         case measure => simp [intOf]; omega
       | false =>
         have HN := Lib.hid (Hrow.out.trans (if_neg (by decide)))
         go_wp2
         go_ret
         exact ⟨by rw [HN.out]; rfl, hE3⟩
     · obtain rfl : j = n := by omega
       have HN := Lib.hid (HF.out.trans (alkF_end (Nat.le_of_eq Hl.out)))
       go_wp2
       go_ret
       exact ⟨by rw [HN.out]; rfl, hE⟩
 · rw [if_pos heq] at hR
   have b1 : ((n : Int) != (n2 : Int)) = true := by rw [bne_iff_ne]; omega
   clear heq hl hl2
   subst hR
   go_enter Tryz.func12, Tryz.ntmps12
   go_wp2
   go_ret
   exact ⟨rfl, Ext.refl w⟩
end Go.Proofs.YthibbgmicmfkfaaGreat
