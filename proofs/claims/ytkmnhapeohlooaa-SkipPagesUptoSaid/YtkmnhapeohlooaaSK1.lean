/-
  Layer 18: an arena stands for a list of keys in order, with their values.
-/
import Derived.Test.YtkmnhapeohlooaaSK0
namespace Go.Proofs.Ytkmnhapeohlooaa

/-- The arena's nodes hold just the keys of L, with the values of V. -/
structure Rep (n : Nat) (K : Nat → List Nat) (U : Nat → Int) (L : List (List Nat)) (V : List Int) : Prop where
  asc : Asc L
  len : L.length + 1 = n
  vlen : V.length = L.length
  fwd : ∀ i, 1 ≤ i → i < n → ∃ p : Nat, L[p]? = some (K i) ∧ V[p]? = some (U i)
  bwd : ∀ p, p < L.length → ∃ i, 1 ≤ i ∧ i < n ∧ L[p]? = some (K i) ∧ V[p]? = some (U i)

/-- Node j is the one at place c. -/
def Pos (n : Nat) (K : Nat → List Nat) (U : Nat → Int) (L : List (List Nat)) (V : List Int) (c j : Nat) : Prop :=
  (j = 0 ∧ c = L.length) ∨ (j ≠ 0 ∧ j < n ∧ L[c]? = some (K j) ∧ V[c]? = some (U j))

theorem asc_lt {L : List (List Nat)} (ha : Asc L) {p q : Nat} {x y : List Nat} (hp : L[p]? = some x) (hq : L[q]? = some y) (h : p < q) : ordT x y < 0 := by
  obtain ⟨h1, rfl⟩ := List.getElem?_eq_some_iff.1 hp
  obtain ⟨h2, rfl⟩ := List.getElem?_eq_some_iff.1 hq
  exact List.pairwise_iff_getElem.1 ha p q h1 h2 h
theorem asc_eq {L : List (List Nat)} (ha : Asc L) {p q : Nat} {x : List Nat} (hp : L[p]? = some x) (hq : L[q]? = some x) : p = q := by
  rcases Nat.lt_trichotomy p q with h | h | h
  · exact absurd (asc_lt ha hp hq h) (ordT_irr _)
  · exact h
  · exact absurd (asc_lt ha hq hp h) (ordT_irr _)

section
variable {n : Nat} {K : Nat → List Nat} {U : Nat → Int} {L : List (List Nat)} {V : List Int} (hR : Rep n K U L V)
include hR

theorem fst_pos {t : List Nat} {j : Nat} (hF : Fst n K t j) : Pos n K U L V (skN t L) j := by
  by_cases j0 : j = 0
  · refine .inl ⟨j0, ?_⟩
    have hle := skN_le t L
    by_cases q : skN t L = L.length
    · exact q
    · obtain ⟨i, h1, h2, h3, _⟩ := hR.bwd (skN t L) (by omega)
      have hge := skN_ge hR.asc (Nat.le_refl _) h3
      exact absurd j0 (hF.all i h1 h2 (by omega)).1
  · refine .inr ⟨j0, hF.lt, ?_⟩
    obtain ⟨p, h1, h2⟩ := hR.fwd j (by omega) hF.lt
    have hp := (List.getElem?_eq_some_iff.1 h1).1
    have c1 : ¬ p < skN t L := fun q => hF.ge j0 (skN_lt q h1)
    have c2 : ¬ skN t L < p := fun q => by
      obtain ⟨i, g1, g2, g3, _⟩ := hR.bwd (skN t L) (by omega)
      have hge := skN_ge hR.asc (Nat.le_refl _) g3
      have hlt := asc_lt hR.asc g3 h1 q
      rcases (hF.all i g1 g2 (by omega)).2 with e | e
      · subst e; exact ordT_irr _ hlt
      · exact ordT_asym hlt e
    have e : skN t L = p := by omega
    rw [e]
    exact ⟨h1, h2⟩

theorem next_pos {G : Nat → Nat} {X : Nat → Nat → Nat} {H : Nat} (h : Sk n K G X H) {i c : Nat} (hi : Pos n K U L V c i) (i0 : i ≠ 0) : Pos n K U L V (c + 1) (X i 0) := by
  rcases hi with ⟨e, _⟩ | ⟨_, hin, hc, hv⟩
  · exact absurd e i0
  have hk := h.lk 0 i (by omega) hin (.inr (by have := (h.gr i (by omega) hin).1; omega))
  have hcl := (List.getElem?_eq_some_iff.1 hc).1
  by_cases j0 : X i 0 = 0
  · refine .inl ⟨j0, ?_⟩
    by_cases q : c + 1 = L.length
    · exact q
    · obtain ⟨r, g1, g2, g3, _⟩ := hR.bwd (c + 1) (by omega)
      exact absurd j0 (hk.all r g1 g2 (h.gr r g1 g2).1 (.inr (asc_lt hR.asc hc g3 (by omega)))).1
  · refine .inr ⟨j0, hk.lt, ?_⟩
    obtain ⟨p, h1, h2⟩ := hR.fwd (X i 0) (by omega) hk.lt
    have hp := (List.getElem?_eq_some_iff.1 h1).1
    have hb : ordT (K i) (K (X i 0)) < 0 := by
      rcases (hk.bf j0).2 with e | e
      · exact absurd e i0
      · exact e
    have c1 : ¬ p ≤ c := fun q => by
      rcases Nat.lt_or_eq_of_le q with q | q
      · exact ordT_asym hb (asc_lt hR.asc h1 hc q)
      · subst q
        rw [hc] at h1
        injection h1 with h1
        rw [h1] at hb
        exact ordT_irr _ hb
    have c2 : ¬ c + 1 < p := fun q => by
      obtain ⟨r, g1, g2, g3, _⟩ := hR.bwd (c + 1) (by omega)
      have hlt := asc_lt hR.asc g3 h1 q
      rcases (hk.all r g1 g2 (h.gr r g1 g2).1 (.inr (asc_lt hR.asc hc g3 (by omega)))).2 with e | e
      · subst e; exact ordT_irr _ hlt
      · exact ordT_asym hlt e
    have e : c + 1 = p := by omega
    rw [e]
    exact ⟨h1, h2⟩

omit hR in
/-- Is the first node that isn't ahead of t that of t itself? -/
theorem pos_has {t : List Nat} {j : Nat} (hj : Pos n K U L V (skN t L) j) : (j ≠ 0 ∧ K j = t) ↔ L[skN t L]? = some t := by
  rcases hj with ⟨h1, h2⟩ | ⟨h1, h2, h3, h4⟩
  · constructor
    · rintro ⟨q, _⟩; exact absurd h1 q
    · intro q
      rw [h2, List.getElem?_eq_none (Nat.le_refl _)] at q
      cases q
  · rw [h3]
    constructor
    · rintro ⟨_, q⟩; rw [q]
    · intro q; injection q with q; exact ⟨h1, q⟩
theorem rep_mem {t : List Nat} : (∃ i, 1 ≤ i ∧ i < n ∧ K i = t) ↔ t ∈ L := by
  constructor
  · rintro ⟨i, h1, h2, rfl⟩
    obtain ⟨p, h3, _⟩ := hR.fwd i h1 h2
    exact List.mem_of_getElem? h3
  · intro ht
    obtain ⟨p, hp⟩ := List.getElem?_of_mem ht
    obtain ⟨i, h1, h2, h3, _⟩ := hR.bwd p (List.getElem?_eq_some_iff.1 hp).1
    rw [hp] at h3
    injection h3 with h3
    exact ⟨i, h1, h2, h3.symm⟩

/-- A key's value set anew. -/
theorem rep_set {G : Nat → Nat} {X : Nat → Nat → Nat} {H : Nat} (h : Sk n K G X H) {t : List Nat} {j : Nat} {v : Int} {U' : Nat → Int} (hj : Pos n K U L V (skN t L) j) (j0 : j ≠ 0) (u1 : U' j = v) (u2 : ∀ i, i ≠ j → U' i = U i) : Rep n K U' L (V.set (skN t L) v) := by
  rcases hj with ⟨h1, _⟩ | ⟨_, h2, h3, h4⟩
  · exact absurd h1 j0
  have hvl := (List.getElem?_eq_some_iff.1 h4).1
  refine ⟨hR.asc, hR.len, by rw [List.length_set]; exact hR.vlen, fun i hi1 hi2 => ?_, fun p hp => ?_⟩
  · obtain ⟨p, q1, q2⟩ := hR.fwd i hi1 hi2
    by_cases e2 : i = j
    · subst e2
      exact ⟨_, h3, by rw [u1, List.getElem?_set_self hvl]⟩
    · have e : p ≠ skN t L := fun e => by
        rw [e, h3] at q1
        injection q1 with q1
        exact e2 (h.one i j hi1 hi2 (by omega) h2 q1.symm)
      exact ⟨p, q1, by rw [List.getElem?_set_ne (fun q => e q.symm), u2 i e2]; exact q2⟩
  · obtain ⟨i, g1, g2, g3, g4⟩ := hR.bwd p hp
    by_cases e : p = skN t L
    · exact ⟨j, by omega, h2, by rw [e]; exact h3, by rw [e, u1, List.getElem?_set_self hvl]⟩
    · have e2 : i ≠ j := fun q => by
        subst q
        exact e (asc_eq hR.asc g3 h3)
      exact ⟨i, g1, g2, g3, by rw [List.getElem?_set_ne (fun q => e q.symm), u2 i e2]; exact g4⟩
end

theorem ins_at {α : Type} {L : List α} {p : Nat} (hp : p ≤ L.length) (x : α) (q : Nat) : (L.take p ++ x :: L.drop p)[q]? = if q < p then L[q]? else if q = p then some x else L[q - 1]? := by
  have hl : (L.take p).length = p := by rw [List.length_take]; omega
  by_cases h : q < p
  · rw [if_pos h, List.getElem?_append_left (by omega), List.getElem?_take_of_lt h]
  · rw [if_neg h, List.getElem?_append_right (by omega), hl]
    by_cases h2 : q = p
    · rw [if_pos h2, h2, Nat.sub_self]; rfl
    · rw [if_neg h2, show q - p = (q - p - 1) + 1 by omega, List.getElem?_cons_succ, List.getElem?_drop]
      congr 1
      omega

/-- A new key with its value. -/
theorem rep_put {n : Nat} {K : Nat → List Nat} {U : Nat → Int} {L : List (List Nat)} {V : List Int} (hR : Rep n K U L V) {t : List Nat} {v : Int} (ht : ¬ L[skN t L]? = some t) {K' : Nat → List Nat} {U' : Nat → Int}
    (k1 : K' n = t) (k2 : ∀ i, i < n → K' i = K i) (u1 : U' n = v) (u2 : ∀ i, i < n → U' i = U i) : Rep (n + 1) K' U' (L.take (skN t L) ++ t :: L.drop (skN t L)) (V.take (skN t L) ++ v :: V.drop (skN t L)) := by
  have hle := skN_le t L
  have hvl := hR.vlen
  have hln := hR.len
  have hasc := insL_asc (t := t) hR.asc
  rw [insL_no ht] at hasc
  have lL : (L.take (skN t L) ++ t :: L.drop (skN t L)).length = L.length + 1 := by simp; omega
  have lV : (V.take (skN t L) ++ v :: V.drop (skN t L)).length = V.length + 1 := by simp; omega
  refine ⟨hasc, by omega, by omega, fun i h1 h2 => ?_, fun q hq => ?_⟩
  · by_cases e : i = n
    · subst e
      refine ⟨skN t L, ?_, ?_⟩
      · rw [ins_at hle, if_neg (by omega), if_pos rfl, k1]
      · rw [ins_at (by omega), if_neg (by omega), if_pos rfl, u1]
    · obtain ⟨p, q1, q2⟩ := hR.fwd i h1 (by omega)
      by_cases c : p < skN t L
      · exact ⟨p, by rw [ins_at hle, if_pos c, k2 i (by omega)]; exact q1, by rw [ins_at (by omega), if_pos c, u2 i (by omega)]; exact q2⟩
      · exact ⟨p + 1, by rw [ins_at hle, if_neg (by omega), if_neg (by omega), k2 i (by omega)]; exact q1, by rw [ins_at (by omega), if_neg (by omega), if_neg (by omega), u2 i (by omega)]; exact q2⟩
  · rw [lL] at hq
    by_cases c : q < skN t L
    · obtain ⟨i, g1, g2, g3, g4⟩ := hR.bwd q (by omega)
      exact ⟨i, g1, by omega, by rw [ins_at hle, if_pos c, k2 i g2]; exact g3, by rw [ins_at (by omega), if_pos c, u2 i g2]; exact g4⟩
    · by_cases c2 : q = skN t L
      · exact ⟨n, by omega, by omega, by rw [ins_at hle, if_neg c, if_pos c2, k1], by rw [ins_at (by omega), if_neg c, if_pos c2, u1]⟩
      · obtain ⟨i, g1, g2, g3, g4⟩ := hR.bwd (q - 1) (by omega)
        exact ⟨i, g1, by omega, by rw [ins_at hle, if_neg c, if_neg c2, k2 i g2]; exact g3, by rw [ins_at (by omega), if_neg c, if_neg c2, u2 i g2]; exact g4⟩

theorem rep_new (K : Nat → List Nat) (U : Nat → Int) : Rep 1 K U [] [] := ⟨List.Pairwise.nil, rfl, rfl, fun i h1 h2 => by omega, fun p hp => by simp at hp⟩

end Go.Proofs.Ytkmnhapeohlooaa
