import Derived.Test.YtkmnhapeohlooaaG3
import Derived.Test.YtkmnhapeohlooaaG2
import Derived.Lib.AppendZeros
import Derived.Lib.SliceRun
import Derived.Lib.SlBytesConst
import Derived.Laws.BytesArg
import Derived.Lib.SlicesS
import Derived.Deep.RegionHeld3
import Derived.BigQuiet
import Derived.Laws.Rows

/-
  Layer 18: nodes in an arena: who stands behind whom, on each level.
-/
namespace Go.Proofs.Ytkmnhapeohlooaa

theorem ordT_irr (a : List Nat) : ¬ ordT a a < 0 := by rw [ordT_self]; decide
theorem ordT_asym {a b : List Nat} (h : ordT a b < 0) : ¬ ordT b a < 0 := by rw [ordT_swap a b]; omega
theorem ordT_tri (a b : List Nat) : ordT a b < 0 ∨ a = b ∨ ordT b a < 0 := by
  by_cases h : ordT a b < 0
  · exact .inl h
  · by_cases h0 : ordT a b = 0
    · exact .inr (.inl (ordT_zero h0))
    · exact .inr (.inr (by rw [ordT_swap a b]; omega))
theorem ordT_lt_of_not {a b c : List Nat} (h : ordT a b < 0) (h2 : ¬ ordT c b < 0) : ordT a c < 0 := by
  rcases ordT_tri c b with q | q | q
  · exact absurd q h2
  · subst q; exact h
  · exact ordT_trans h q

/-- Node i stands ahead of node q; the first one ahead of all. -/
def Bf (K : Nat → List Nat) (i q : Nat) : Prop := i = 0 ∨ ordT (K i) (K q) < 0

/-- On level l, j is the next node behind i. -/
structure Lk (n : Nat) (K : Nat → List Nat) (G : Nat → Nat) (l i j : Nat) : Prop where
  lt : j < n
  bf : j ≠ 0 → l < G j ∧ Bf K i j
  all : ∀ q, 1 ≤ q → q < n → l < G q → Bf K i q → j ≠ 0 ∧ (q = j ∨ ordT (K j) (K q) < 0)

/-- A right arena: keys, heights, links, the greatest height. -/
structure Sk (n : Nat) (K : Nat → List Nat) (G : Nat → Nat) (X : Nat → Nat → Nat) (H : Nat) : Prop where
  pos : 0 < n
  gr : ∀ i, 1 ≤ i → i < n → 1 ≤ G i ∧ G i ≤ H
  top : H ≤ 12
  one : ∀ i j, 1 ≤ i → i < n → 1 ≤ j → j < n → K i = K j → i = j
  lk : ∀ l i, l < 12 → i < n → (i = 0 ∨ l < G i) → Lk n K G l i (X i l)

/-- On level l, r is the last node that stands ahead of t. -/
structure At (n : Nat) (K : Nat → List Nat) (G : Nat → Nat) (l : Nat) (t : List Nat) (r : Nat) : Prop where
  lt : r < n
  lv : r = 0 ∨ l < G r
  ah : r = 0 ∨ ordT (K r) t < 0
  all : ∀ q, 1 ≤ q → q < n → l < G q → ordT (K q) t < 0 → r ≠ 0 ∧ (q = r ∨ ordT (K q) (K r) < 0)

/-- The first node that doesn't stand ahead of t. -/
structure Fst (n : Nat) (K : Nat → List Nat) (t : List Nat) (j : Nat) : Prop where
  lt : j < n
  ge : j ≠ 0 → ¬ ordT (K j) t < 0
  all : ∀ q, 1 ≤ q → q < n → ¬ ordT (K q) t < 0 → j ≠ 0 ∧ (q = j ∨ ordT (K j) (K q) < 0)

section
variable {n : Nat} {K : Nat → List Nat} {G : Nat → Nat} {X : Nat → Nat → Nat} {H : Nat} (h : Sk n K G X H)
include h

theorem at_stop {l i : Nat} {t : List Nat} (hl : l < 12) (hi : i < n) (hv : i = 0 ∨ l < G i) (ha : i = 0 ∨ ordT (K i) t < 0) (hj : X i l = 0 ∨ ¬ ordT (K (X i l)) t < 0) : At n K G l t i := by
  have hk := h.lk l i hl hi hv
  refine ⟨hi, hv, ha, fun q q1 q2 q3 q4 => ?_⟩
  have no : ¬ Bf K i q := fun hb => by
    obtain ⟨r1, r2⟩ := hk.all q q1 q2 q3 hb
    rcases hj with hj | hj
    · exact r1 hj
    · rcases r2 with r2 | r2
      · rw [← r2] at hj; exact hj q4
      · exact hj (ordT_trans r2 q4)
  have i0 : i ≠ 0 := fun e => no (.inl e)
  refine ⟨i0, ?_⟩
  rcases ordT_tri (K i) (K q) with q5 | q5 | q5
  · exact absurd (.inr q5) no
  · exact .inl (h.one q i q1 q2 (by omega) hi q5.symm)
  · exact .inr q5

theorem at_none {l : Nat} {t : List Nat} (hl : H ≤ l) : At n K G l t 0 :=
  ⟨h.pos, .inl rfl, .inl rfl, fun q q1 q2 q3 _ => by have := h.gr q q1 q2; omega⟩

theorem at_next {l r : Nat} {t : List Nat} (hl : l < 12) (ha : At n K G l t r) (h0 : X r l ≠ 0) : ¬ ordT (K (X r l)) t < 0 := by
  have hk := h.lk l r hl ha.lt ha.lv
  intro q
  obtain ⟨b1, b2⟩ := hk.bf h0
  obtain ⟨c1, c2⟩ := ha.all (X r l) (by omega) hk.lt b1 q
  rcases b2 with b2 | b2
  · exact c1 b2
  · rcases c2 with c2 | c2
    · rw [c2] at b2; exact ordT_irr _ b2
    · exact ordT_asym b2 c2

omit h in
theorem at_bf {l r q : Nat} {t : List Nat} (ha : At n K G l t r) (hq : ¬ ordT (K q) t < 0) : Bf K r q := by
  rcases ha.ah with q1 | q1
  · exact .inl q1
  · exact .inr (ordT_lt_of_not q1 hq)

theorem fst_of {t : List Nat} {r : Nat} (ha : At n K G 0 t r) : Fst n K t (X r 0) := by
  have hk := h.lk 0 r (by omega) ha.lt ha.lv
  exact ⟨hk.lt, at_next h (by omega) ha, fun q q1 q2 q3 => hk.all q q1 q2 (h.gr q q1 q2).1 (at_bf ha q3)⟩

/-- A new key put in behind those that stand ahead of it. -/
theorem sk_put {t : List Nat} {g : Nat} {a : Nat → Nat} (ht : ∀ i, 1 ≤ i → i < n → K i ≠ t) (hg : 1 ≤ g) (hg2 : g ≤ 12) (ha : ∀ l, l < 12 → At n K G l t (a l))
    {K' : Nat → List Nat} {G' : Nat → Nat} {X' : Nat → Nat → Nat} (k1 : K' n = t) (k2 : ∀ i, i < n → K' i = K i) (g1 : G' n = g) (g2 : ∀ i, i < n → G' i = G i)
    (x1 : ∀ l, l < g → X' n l = X (a l) l) (x2 : ∀ l, l < g → X' (a l) l = n) (x3 : ∀ i l, i < n → l < 12 → ¬ (l < g ∧ i = a l) → X' i l = X i l) : Sk (n + 1) K' G' X' (max H g) := by
  have hn := h.pos
  have bfo : ∀ i q, i < n → q < n → (Bf K' i q ↔ Bf K i q) := fun i q hi hq => by unfold Bf; rw [k2 i hi, k2 q hq]
  refine ⟨by omega, fun i h1 h2 => ?_, by have := h.top; omega, fun i j h1 h2 h3 h4 he => ?_, fun l i hl hi hv => ?_⟩
  · by_cases q : i = n
    · subst q; rw [g1]; omega
    · rw [g2 i (by omega)]; have := h.gr i h1 (by omega); omega
  · by_cases q : i = n
    · by_cases q2 : j = n
      · omega
      · rw [q, k1, k2 j (by omega)] at he
        exact absurd he.symm (ht j h3 (by omega))
    · by_cases q2 : j = n
      · rw [q2, k1, k2 i (by omega)] at he
        exact absurd he (ht i h1 (by omega))
      · rw [k2 i (by omega), k2 j (by omega)] at he
        exact h.one i j h1 (by omega) h3 (by omega) he
  · have hA := ha l hl
    have hkA := h.lk l (a l) hl hA.lt hA.lv
    by_cases q : i = n
    · subst q
      rw [g1] at hv
      have hlg : l < g := by omega
      rw [x1 l hlg]
      refine ⟨by have := hkA.lt; omega, fun j0 => ?_, fun q q1 q2 q3 q4 => ?_⟩
      · obtain ⟨b1, _⟩ := hkA.bf j0
        refine ⟨by rw [g2 _ hkA.lt]; exact b1, .inr ?_⟩
        rw [k1, k2 _ hkA.lt]
        rcases ordT_tri t (K (X (a l) l)) with c | c | c
        · exact c
        · exact absurd c.symm (ht _ (by omega) hkA.lt)
        · exact absurd c (at_next h hl hA j0)
      · have qn : q ≠ i := fun e => by
          subst e
          rcases q4 with q4 | q4
          · omega
          · rw [k1] at q4; exact ordT_irr _ q4
        have hq : q < i := by omega
        rw [g2 q hq] at q3
        have htq : ordT t (K q) < 0 := by
          rcases q4 with q4 | q4
          · omega
          · rw [k1, k2 q hq] at q4; exact q4
        obtain ⟨c1, c2⟩ := hkA.all q q1 hq q3 (at_bf hA (ordT_asym htq))
        exact ⟨c1, by rw [k2 _ hkA.lt, k2 q hq]; exact c2⟩
    · have hin : i < n := by omega
      rw [g2 i hin] at hv
      by_cases c : l < g ∧ i = a l
      · obtain ⟨hlg, ei⟩ := c
        rw [ei, x2 l hlg]
        rw [ei] at hin
        refine ⟨by omega, fun _ => ⟨by rw [g1]; exact hlg, ?_⟩, fun q q1 q2 q3 q4 => ⟨by omega, ?_⟩⟩
        · rcases hA.ah with d | d
          · exact .inl d
          · exact .inr (by rw [k1, k2 _ hin]; exact d)
        · by_cases qn : q = n
          · exact .inl qn
          · right
            have hq : q < n := by omega
            rw [k1, k2 q hq]
            rw [bfo _ _ hin hq] at q4
            rw [g2 q hq] at q3
            rcases ordT_tri t (K q) with e | e | e
            · exact e
            · exact absurd e.symm (ht q q1 hq)
            · obtain ⟨f1, f2⟩ := hA.all q q1 hq q3 e
              rcases q4 with q4 | q4
              · exact absurd q4 f1
              · rcases f2 with f2 | f2
                · rw [f2] at q4; exact absurd q4 (ordT_irr _)
                · exact absurd q4 (ordT_asym f2)
      · rw [x3 i l hin hl c]
        have hk := h.lk l i hl hin hv
        refine ⟨by have := hk.lt; omega, fun j0 => ?_, fun q q1 q2 q3 q4 => ?_⟩
        · obtain ⟨b1, b2⟩ := hk.bf j0
          exact ⟨by rw [g2 _ hk.lt]; exact b1, (bfo _ _ hin hk.lt).2 b2⟩
        · by_cases qn : q = n
          · subst qn
            rw [g1] at q3
            have hia : i ≠ a l := fun e => c ⟨q3, e⟩
            have hal : a l ≠ 0 ∧ Bf K i (a l) := by
              by_cases i0 : i = 0
              · exact ⟨by omega, .inl i0⟩
              · have hit : ordT (K i) t < 0 := by
                  rcases q4 with q4 | q4
                  · exact absurd q4 i0
                  · rw [k1, k2 i hin] at q4; exact q4
                obtain ⟨f1, f2⟩ := hA.all i (by omega) hin (by omega) hit
                rcases f2 with f2 | f2
                · exact absurd f2 hia
                · exact ⟨f1, .inr f2⟩
            have hlv : l < G (a l) := by rcases hA.lv with e | e; exact absurd e hal.1; exact e
            obtain ⟨f1, f2⟩ := hk.all (a l) (by omega) hA.lt hlv hal.2
            refine ⟨f1, .inr ?_⟩
            rw [k1, k2 _ hk.lt]
            have hat : ordT (K (a l)) t < 0 := by rcases hA.ah with e | e; exact absurd e hal.1; exact e
            rcases f2 with f2 | f2
            · rw [← f2]; exact hat
            · exact ordT_trans f2 hat
          · have hq : q < n := by omega
            rw [g2 q hq] at q3
            rw [bfo _ _ hin hq] at q4
            obtain ⟨f1, f2⟩ := hk.all q q1 hq q3 q4
            exact ⟨f1, by rw [k2 _ hk.lt, k2 q hq]; exact f2⟩
end

/-- A list of one node alone. -/
theorem sk_new (K : Nat → List Nat) (G : Nat → Nat) (X : Nat → Nat → Nat) (hX : ∀ l, X 0 l = 0) : Sk 1 K G X 0 :=
  ⟨by omega, fun i h1 h2 => by omega, by omega, fun i j h1 h2 h3 h4 => by omega, fun l i _ hi _ => by
    have : i = 0 := by omega
    subst this
    rw [hX]
    exact ⟨by omega, fun q => absurd rfl q, fun q q1 q2 => by omega⟩⟩

/-- How many nodes stand behind node i. -/
def restN (n : Nat) (K : Nat → List Nat) (i : Nat) : Nat := ((List.range n).filter fun q => decide (1 ≤ q) && (decide (i = 0) || decide (ordT (K i) (K q) < 0))).length

theorem filter_lt {p q : Nat → Bool} : ∀ {L : List Nat} {x : Nat}, (∀ y, p y = true → q y = true) → x ∈ L → p x = false → q x = true → (L.filter p).length < (L.filter q).length
  | y :: r, x, hpq, hx, h1, h2 => by
    have hle : ∀ L : List Nat, (L.filter p).length ≤ (L.filter q).length := by
      intro L
      induction L with
      | nil => exact Nat.le_refl _
      | cons z s ih =>
        rw [List.filter_cons, List.filter_cons]
        by_cases e : p z = true
        · rw [if_pos e, if_pos (hpq z e)]; simp; exact ih
        · rw [if_neg e]
          split
          · simp; omega
          · exact ih
    rw [List.filter_cons, List.filter_cons]
    rcases List.mem_cons.1 hx with rfl | hx
    · rw [if_neg (by rw [h1]; decide), if_pos h2]
      have := hle r
      simp; omega
    · have ih := filter_lt (L := r) hpq hx h1 h2
      by_cases e : p y = true
      · rw [if_pos e, if_pos (hpq y e)]; simp; exact ih
      · rw [if_neg e]
        split
        · simp; omega
        · exact ih

theorem rest_lt {n : Nat} {K : Nat → List Nat} {i j : Nat} (hj : j < n) (j0 : j ≠ 0) (hb : Bf K i j) : restN n K j < restN n K i := by
  refine filter_lt (x := j) ?_ (List.mem_range.2 hj) ?_ ?_
  · intro y hy
    simp only [Bool.and_eq_true, Bool.or_eq_true, decide_eq_true_eq] at hy ⊢
    obtain ⟨h1, h2⟩ := hy
    refine ⟨h1, ?_⟩
    rcases h2 with h2 | h2
    · exact absurd h2 j0
    · rcases hb with hb | hb
      · exact .inl hb
      · exact .inr (ordT_trans hb h2)
  · simp [j0, ordT_self]
  · simp only [Bool.and_eq_true, Bool.or_eq_true, decide_eq_true_eq]
    exact ⟨by omega, hb⟩

end Go.Proofs.Ytkmnhapeohlooaa

/-
  Layer 18: an arena stands for a list of keys in order, with their values.
-/
namespace Go.Proofs.Ytkmnhapeohlooaa

/-- The arena's nodes hold just the keys of L, with the values of V. -/
structure Rep (n : Nat) (K : Nat → List Nat) (U : Nat → Int) (L : List (List Nat)) (V : List Int) : Prop where
  asc : Asc L
  len : L.length + 1 = n
  vlen : V.length = L.length
  fwd : ∀ i, 1 ≤ i → i < n → ∃ p : Nat, L[p]? = some (K i) ∧ V[p]? = some (U i)
  bwd : ∀ p, p < L.length → ∃ i, 1 ≤ i ∧ i < n ∧ L[p]? = some (K i) ∧ V[p]? = some (U i)

/-- Node j is the one at place c. -/
def Pos (n : Nat) (K : Nat → List Nat) (U : Nat → Int) (L : List (List Nat)) (V : List Int) (c j : Nat) : Prop :=
  (j = 0 ∧ c = L.length) ∨ (j ≠ 0 ∧ j < n ∧ L[c]? = some (K j) ∧ V[c]? = some (U j))

theorem asc_lt {L : List (List Nat)} (ha : Asc L) {p q : Nat} {x y : List Nat} (hp : L[p]? = some x) (hq : L[q]? = some y) (h : p < q) : ordT x y < 0 := by
  obtain ⟨h1, rfl⟩ := List.getElem?_eq_some_iff.1 hp
  obtain ⟨h2, rfl⟩ := List.getElem?_eq_some_iff.1 hq
  exact List.pairwise_iff_getElem.1 ha p q h1 h2 h
theorem asc_eq {L : List (List Nat)} (ha : Asc L) {p q : Nat} {x : List Nat} (hp : L[p]? = some x) (hq : L[q]? = some x) : p = q := by
  rcases Nat.lt_trichotomy p q with h | h | h
  · exact absurd (asc_lt ha hp hq h) (ordT_irr _)
  · exact h
  · exact absurd (asc_lt ha hq hp h) (ordT_irr _)

section
variable {n : Nat} {K : Nat → List Nat} {U : Nat → Int} {L : List (List Nat)} {V : List Int} (hR : Rep n K U L V)
include hR

theorem fst_pos {t : List Nat} {j : Nat} (hF : Fst n K t j) : Pos n K U L V (skN t L) j := by
  by_cases j0 : j = 0
  · refine .inl ⟨j0, ?_⟩
    have hle := skN_le t L
    by_cases q : skN t L = L.length
    · exact q
    · obtain ⟨i, h1, h2, h3, _⟩ := hR.bwd (skN t L) (by omega)
      have hge := skN_ge hR.asc (Nat.le_refl _) h3
      exact absurd j0 (hF.all i h1 h2 (by omega)).1
  · refine .inr ⟨j0, hF.lt, ?_⟩
    obtain ⟨p, h1, h2⟩ := hR.fwd j (by omega) hF.lt
    have hp := (List.getElem?_eq_some_iff.1 h1).1
    have c1 : ¬ p < skN t L := fun q => hF.ge j0 (skN_lt q h1)
    have c2 : ¬ skN t L < p := fun q => by
      obtain ⟨i, g1, g2, g3, _⟩ := hR.bwd (skN t L) (by omega)
      have hge := skN_ge hR.asc (Nat.le_refl _) g3
      have hlt := asc_lt hR.asc g3 h1 q
      rcases (hF.all i g1 g2 (by omega)).2 with e | e
      · subst e; exact ordT_irr _ hlt
      · exact ordT_asym hlt e
    have e : skN t L = p := by omega
    rw [e]
    exact ⟨h1, h2⟩

theorem next_pos {G : Nat → Nat} {X : Nat → Nat → Nat} {H : Nat} (h : Sk n K G X H) {i c : Nat} (hi : Pos n K U L V c i) (i0 : i ≠ 0) : Pos n K U L V (c + 1) (X i 0) := by
  rcases hi with ⟨e, _⟩ | ⟨_, hin, hc, hv⟩
  · exact absurd e i0
  have hk := h.lk 0 i (by omega) hin (.inr (by have := (h.gr i (by omega) hin).1; omega))
  have hcl := (List.getElem?_eq_some_iff.1 hc).1
  by_cases j0 : X i 0 = 0
  · refine .inl ⟨j0, ?_⟩
    by_cases q : c + 1 = L.length
    · exact q
    · obtain ⟨r, g1, g2, g3, _⟩ := hR.bwd (c + 1) (by omega)
      exact absurd j0 (hk.all r g1 g2 (h.gr r g1 g2).1 (.inr (asc_lt hR.asc hc g3 (by omega)))).1
  · refine .inr ⟨j0, hk.lt, ?_⟩
    obtain ⟨p, h1, h2⟩ := hR.fwd (X i 0) (by omega) hk.lt
    have hp := (List.getElem?_eq_some_iff.1 h1).1
    have hb : ordT (K i) (K (X i 0)) < 0 := by
      rcases (hk.bf j0).2 with e | e
      · exact absurd e i0
      · exact e
    have c1 : ¬ p ≤ c := fun q => by
      rcases Nat.lt_or_eq_of_le q with q | q
      · exact ordT_asym hb (asc_lt hR.asc h1 hc q)
      · subst q
        rw [hc] at h1
        injection h1 with h1
        rw [h1] at hb
        exact ordT_irr _ hb
    have c2 : ¬ c + 1 < p := fun q => by
      obtain ⟨r, g1, g2, g3, _⟩ := hR.bwd (c + 1) (by omega)
      have hlt := asc_lt hR.asc g3 h1 q
      rcases (hk.all r g1 g2 (h.gr r g1 g2).1 (.inr (asc_lt hR.asc hc g3 (by omega)))).2 with e | e
      · subst e; exact ordT_irr _ hlt
      · exact ordT_asym hlt e
    have e : c + 1 = p := by omega
    rw [e]
    exact ⟨h1, h2⟩

omit hR in
/-- Is the first node that isn't ahead of t that of t itself? -/
theorem pos_has {t : List Nat} {j : Nat} (hj : Pos n K U L V (skN t L) j) : (j ≠ 0 ∧ K j = t) ↔ L[skN t L]? = some t := by
  rcases hj with ⟨h1, h2⟩ | ⟨h1, h2, h3, h4⟩
  · constructor
    · rintro ⟨q, _⟩; exact absurd h1 q
    · intro q
      rw [h2, List.getElem?_eq_none (Nat.le_refl _)] at q
      cases q
  · rw [h3]
    constructor
    · rintro ⟨_, q⟩; rw [q]
    · intro q; injection q with q; exact ⟨h1, q⟩
theorem rep_mem {t : List Nat} : (∃ i, 1 ≤ i ∧ i < n ∧ K i = t) ↔ t ∈ L := by
  constructor
  · rintro ⟨i, h1, h2, rfl⟩
    obtain ⟨p, h3, _⟩ := hR.fwd i h1 h2
    exact List.mem_of_getElem? h3
  · intro ht
    obtain ⟨p, hp⟩ := List.getElem?_of_mem ht
    obtain ⟨i, h1, h2, h3, _⟩ := hR.bwd p (List.getElem?_eq_some_iff.1 hp).1
    rw [hp] at h3
    injection h3 with h3
    exact ⟨i, h1, h2, h3.symm⟩

/-- A key's value set anew. -/
theorem rep_set {G : Nat → Nat} {X : Nat → Nat → Nat} {H : Nat} (h : Sk n K G X H) {t : List Nat} {j : Nat} {v : Int} {U' : Nat → Int} (hj : Pos n K U L V (skN t L) j) (j0 : j ≠ 0) (u1 : U' j = v) (u2 : ∀ i, i ≠ j → U' i = U i) : Rep n K U' L (V.set (skN t L) v) := by
  rcases hj with ⟨h1, _⟩ | ⟨_, h2, h3, h4⟩
  · exact absurd h1 j0
  have hvl := (List.getElem?_eq_some_iff.1 h4).1
  refine ⟨hR.asc, hR.len, by rw [List.length_set]; exact hR.vlen, fun i hi1 hi2 => ?_, fun p hp => ?_⟩
  · obtain ⟨p, q1, q2⟩ := hR.fwd i hi1 hi2
    by_cases e2 : i = j
    · subst e2
      exact ⟨_, h3, by rw [u1, List.getElem?_set_self hvl]⟩
    · have e : p ≠ skN t L := fun e => by
        rw [e, h3] at q1
        injection q1 with q1
        exact e2 (h.one i j hi1 hi2 (by omega) h2 q1.symm)
      exact ⟨p, q1, by rw [List.getElem?_set_ne (fun q => e q.symm), u2 i e2]; exact q2⟩
  · obtain ⟨i, g1, g2, g3, g4⟩ := hR.bwd p hp
    by_cases e : p = skN t L
    · exact ⟨j, by omega, h2, by rw [e]; exact h3, by rw [e, u1, List.getElem?_set_self hvl]⟩
    · have e2 : i ≠ j := fun q => by
        subst q
        exact e (asc_eq hR.asc g3 h3)
      exact ⟨i, g1, g2, g3, by rw [List.getElem?_set_ne (fun q => e q.symm), u2 i e2]; exact g4⟩
end

theorem ins_at {α : Type} {L : List α} {p : Nat} (hp : p ≤ L.length) (x : α) (q : Nat) : (L.take p ++ x :: L.drop p)[q]? = if q < p then L[q]? else if q = p then some x else L[q - 1]? := by
  have hl : (L.take p).length = p := by rw [List.length_take]; omega
  by_cases h : q < p
  · rw [if_pos h, List.getElem?_append_left (by omega), List.getElem?_take_of_lt h]
  · rw [if_neg h, List.getElem?_append_right (by omega), hl]
    by_cases h2 : q = p
    · rw [if_pos h2, h2, Nat.sub_self]; rfl
    · rw [if_neg h2, show q - p = (q - p - 1) + 1 by omega, List.getElem?_cons_succ, List.getElem?_drop]
      congr 1
      omega

/-- A new key with its value. -/
theorem rep_put {n : Nat} {K : Nat → List Nat} {U : Nat → Int} {L : List (List Nat)} {V : List Int} (hR : Rep n K U L V) {t : List Nat} {v : Int} (ht : ¬ L[skN t L]? = some t) {K' : Nat → List Nat} {U' : Nat → Int}
    (k1 : K' n = t) (k2 : ∀ i, i < n → K' i = K i) (u1 : U' n = v) (u2 : ∀ i, i < n → U' i = U i) : Rep (n + 1) K' U' (L.take (skN t L) ++ t :: L.drop (skN t L)) (V.take (skN t L) ++ v :: V.drop (skN t L)) := by
  have hle := skN_le t L
  have hvl := hR.vlen
  have hln := hR.len
  have hasc := insL_asc (t := t) hR.asc
  rw [insL_no ht] at hasc
  have lL : (L.take (skN t L) ++ t :: L.drop (skN t L)).length = L.length + 1 := by simp; omega
  have lV : (V.take (skN t L) ++ v :: V.drop (skN t L)).length = V.length + 1 := by simp; omega
  refine ⟨hasc, by omega, by omega, fun i h1 h2 => ?_, fun q hq => ?_⟩
  · by_cases e : i = n
    · subst e
      refine ⟨skN t L, ?_, ?_⟩
      · rw [ins_at hle, if_neg (by omega), if_pos rfl, k1]
      · rw [ins_at (by omega), if_neg (by omega), if_pos rfl, u1]
    · obtain ⟨p, q1, q2⟩ := hR.fwd i h1 (by omega)
      by_cases c : p < skN t L
      · exact ⟨p, by rw [ins_at hle, if_pos c, k2 i (by omega)]; exact q1, by rw [ins_at (by omega), if_pos c, u2 i (by omega)]; exact q2⟩
      · exact ⟨p + 1, by rw [ins_at hle, if_neg (by omega), if_neg (by omega), k2 i (by omega)]; exact q1, by rw [ins_at (by omega), if_neg (by omega), if_neg (by omega), u2 i (by omega)]; exact q2⟩
  · rw [lL] at hq
    by_cases c : q < skN t L
    · obtain ⟨i, g1, g2, g3, g4⟩ := hR.bwd q (by omega)
      exact ⟨i, g1, by omega, by rw [ins_at hle, if_pos c, k2 i g2]; exact g3, by rw [ins_at (by omega), if_pos c, u2 i g2]; exact g4⟩
    · by_cases c2 : q = skN t L
      · exact ⟨n, by omega, by omega, by rw [ins_at hle, if_neg c, if_pos c2, k1], by rw [ins_at (by omega), if_neg c, if_pos c2, u1]⟩
      · obtain ⟨i, g1, g2, g3, g4⟩ := hR.bwd (q - 1) (by omega)
        exact ⟨i, g1, by omega, by rw [ins_at hle, if_neg c, if_neg c2, k2 i g2]; exact g3, by rw [ins_at (by omega), if_neg c, if_neg c2, u2 i g2]; exact g4⟩

theorem rep_new (K : Nat → List Nat) (U : Nat → Int) : Rep 1 K U [] [] := ⟨List.Pairwise.nil, rfl, rfl, fun i h1 h2 => by omega, fun p hp => by simp at hp⟩

end Go.Proofs.Ytkmnhapeohlooaa

/-
  The library's bytes.Clone at this program.
-/
namespace Go.Proofs.Ytkmnhapeohlooaa
open Go.RowKit

theorem clone_any (A : Option Addr) (n c : Nat) (bs : List Nat) (w : World) (hx : Rd .u8 w A n bs) (hn : n ≤ 180000000000000) :
    Calls Try.prog 75 #[.slice A n c] w fun e w' => ∃ A' c', e = .returned (.slice A' n c') ∧ Own .u8 5 w' w.heap.size A' c' bs ∧ Ext w w' := by
  have Hl := Lib.hid hx.len
  cases A with
  | none =>
    have h0 : n = 0 := by
      rcases Nat.eq_zero_or_pos n with h | h
      · exact h
      · obtain ⟨b, o, he, _⟩ := hx.2 h
        cases he
    subst h0
    have hb : bs = [] := List.eq_nil_of_length_eq_zero Hl.out
    subst hb
    have hq := fun w => Lib.run_eql_slice_nil (P := Try.prog) w 52 5 none 0 c 0 0 Try.underlying52
    go_enter Try.func75, Try.ntmps75
    go_wp2
    go_ret
    exact ⟨_, _, rfl, Own.nil .., Ext.refl w⟩
  | some a =>
    have hq := fun w => Lib.run_eql_slice_nil (P := Try.prog) w 52 5 (some a) n c 0 0 Try.underlying52
    have hown := Own.made (base := w.heap.size) .u8 5 w (Nat.le_refl _)
    have hrd := hx.ext ((Ext.refl w).alloc (.cells #[] 5))
    go_enter Try.func75, Try.ntmps75
    go_wp2_with (at_builtin; refine wpList_pushes (w0 := w) .u8 5 rfl _ _ 52 rfl _ 1 Try.underlying52 Try.infoU8 rfl hown 0 rfl rfl rfl hrd (by omega) (by omega) ((Ext.refl w).alloc _) (by simp) ?_; intro A1 c1 w1 hown1 hb1 hz1)
    go_ret
    exact ⟨_, _, rfl, by simpa using hown1, hb1⟩

end Go.Proofs.Ytkmnhapeohlooaa

/-
  Numbers of 64 bits with a sign.
-/
namespace Go.Proofs.Ytkmnhapeohlooaa
open Go.RowKit

def R64 (v : Int) : Prop := -9223372036854775808 ≤ v ∧ v ≤ 9223372036854775807

def R64s (vs : List Int) : Prop := ∀ v ∈ vs, R64 v

end Go.Proofs.Ytkmnhapeohlooaa

/-
  The library's bytes.Compare, bytes.Equal, slices.Clip at this program.
-/
namespace Go.Proofs.Ytkmnhapeohlooaa
open Go.RowKit
set_option maxRecDepth 100000

set_option maxRecDepth 100000 in
theorem compareT_any (A A2 : Option Addr) (n c n2 c2 : Nat) (xs ys : List Nat) (w : World) (hx : Rd .u8 w A n xs) (hy : Rd .u8 w A2 n2 ys) (hu : U8 xs) (hu2 : U8 ys) :
    Calls Try.prog 74 #[.slice A n c, .slice A2 n2 c2] w fun e w' => e = .returned (.int .i64 (ordT xs ys)) ∧ w = w' := by
  have Hx := Lib.hid hx
  have Hy := Lib.hid hy
  go_enter Try.func74, Try.ntmps74
  go_wp2
  rw [run_callFunc_extern Try.func88 (by kernel_rfl) (by kernel_rfl) (by kernel_rfl) (e := Extern.BytealgCompare.compare) (by kernel_rfl), run_compare Hx.out Hy.out hu hu2]
  simp only [Result.andThen]
  rw [Oper.upon_value]
  go_wp2
  go_ret
  exact ⟨rfl, rfl⟩

/-- Bytes as a string. -/
def sstr (xs : List Nat) : ByteArray := strOfNums (xs.map fun x : Nat => (x : Int))

theorem conv_str {W : World} {A : Option Addr} {n c : Nat} {xs : List Nat} (h : Rd .u8 W A n xs) : (convert 52 9 (.slice A n c)).run Try.prog W = .ok (.string (sstr xs)) W := by
  have hl := h.len
  rcases Nat.eq_zero_or_pos n with h0 | h0
  · subst h0
    obtain rfl : xs = [] := List.eq_nil_of_length_eq_zero hl
    cases A with
    | none => exact run_convert_bytes_nil W 52 5 Try.underlying52 Try.underlying5 0 c _ Try.underlying9
    | some a =>
      have hz : (loadCells a 0).run Try.prog W = .ok (([] : List Int).map (Value.int .u8)).toArray W := by
        have := run_loadCells_list (P := Try.prog) W a [] (fun j v hj => by simp at hj)
        simpa using this
      rw [run_convert_bytes_string W 52 9 5 _ 0 c Try.underlying52 Try.underlying5 Try.underlying9, run_bytesToString W a 0 c [] hz]
      rfl
  · obtain ⟨b, o, rfl, hb, hc⟩ := h.2 h0
    exact run_convert_bytes_arg W 52 5 Try.underlying52 Try.underlying5 b o n c _ (by simpa using hl) (fun i hi => by
      rw [hc i hi]
      have : i < xs.length := by omega
      simp [List.getD, this]) _ Try.underlying9

/-- The library's bytes as numbers. -/
def n8s (xs : List UInt8) : List Nat := xs.map UInt8.toNat
theorem n8s_u8s : ∀ {xs : List Nat}, U8 xs → n8s (u8s xs) = xs
  | [], _ => rfl
  | x :: r, h => by
    rw [u8s_cons]
    show (UInt8.ofNat x).toNat :: n8s (u8s r) = _
    rw [n8s_u8s (fun y hy => h y (List.mem_cons_of_mem _ hy)), UInt8.toNat_ofNat_of_lt' (h x (by simp))]
theorem sstr_toList (xs : List Nat) : (sstr xs).data.toList = u8s xs := rfl
theorem u8s_inj {xs ys : List Nat} (hx : U8 xs) (hy : U8 ys) (h : u8s xs = u8s ys) : xs = ys := by
  rw [← n8s_u8s hx, ← n8s_u8s hy, h]
theorem sstr_beq {xs ys : List Nat} (hx : U8 xs) (hy : U8 ys) : ((sstr xs).toList == (sstr ys).toList) = decide (xs = ys) := by
  by_cases h : xs = ys
  · subst h
    rw [decide_eq_true rfl]
    exact (Lib.bytes_beq_iff _ _).2 rfl
  · rw [decide_eq_false h, Bool.eq_false_iff]
    intro q
    have q2 := (Lib.bytes_beq_iff _ _).1 q
    refine h (u8s_inj hx hy ?_)
    rw [← sstr_toList, ← sstr_toList, q2]

theorem bequal_any (A : Option Addr) (n c : Nat) (xs : List Nat) (A2 : Option Addr) (n2 c2 : Nat) (ys : List Nat) (w : World) (hx : Rd .u8 w A n xs) (hy : Rd .u8 w A2 n2 ys) (hu : U8 xs) (hv : U8 ys) :
    Calls Try.prog 90 #[.slice A n c, .slice A2 n2 c2] w fun e w' => e = .returned (.bool (decide (xs = ys))) ∧ w = w' := by
  have c1 := conv_str (c := c) hx
  have c2 := conv_str (c := c2) hy
  have HB := Lib.hid (sstr_beq hu hv)
  clear hx hy hu hv
  go_enter Try.func90, Try.ntmps90
  go_wp2_with fail
  go_ret
  exact ⟨by first | rfl | (rw [HB.out]; rfl), rfl⟩


theorem clip_any (A : Option Addr) (n c : Nat) (w : World) (hc : n ≤ c) :
    Calls Try.prog 91 #[.slice A n c] w fun e w' => e = .returned (.slice A n n) ∧ w = w' := by
  go_enter Try.func91, Try.ntmps91
  go_wp2_with fail
  go_ret
  exact ⟨rfl, rfl⟩

end Go.Proofs.Ytkmnhapeohlooaa

/-
  Layer 18: a list's memory; the walk along a level.
-/
namespace Go.Proofs.Ytkmnhapeohlooaa
open Go.RowKit
set_option maxRecDepth 100000

/-- A node: its key's slice, its value, the next ones, its height. -/
structure Nd where
  key : Sl
  v : Int
  nx : Nat → Nat
  h : Nat
def nd0 : Nd := ⟨⟨none, 0, []⟩, 0, fun _ => 0, 0⟩

def twr (f : Nat → Nat) : List Value := (List.range 12).map fun l => Value.int .i64 (f l : Int)
theorem twr_len (f : Nat → Nat) : (twr f).length = 12 := by simp [twr]
theorem twr_at {f : Nat → Nat} {l : Nat} (h : l < 12) : (twr f)[l]? = some (.int .i64 (f l : Int)) := by simp [twr, h]

def shN : Shape Nd := ⟨fun n => n.key.v :: .int .i64 n.v :: twr n.nx, 14, fun n => by simp [twr_len], by
  intro x u hu
  simp only [List.mem_cons] at hu
  rcases hu with rfl | rfl | hu
  · rfl
  · rfl
  · simp only [twr, List.mem_map] at hu
    obtain ⟨l, _, rfl⟩ := hu
    rfl⟩

def nat_ (ns : List Nd) (i : Nat) : Nd := ns.getD i nd0
def kb (ns : List Nd) (i : Nat) : List Nat := (nat_ ns i).key.body
def vl (ns : List Nd) (i : Nat) : Int := (nat_ ns i).v
def hg (ns : List Nd) (i : Nat) : Nat := (nat_ ns i).h
def nxt (ns : List Nd) (i l : Nat) : Nat := (nat_ ns i).nx l
theorem nat_at {ns : List Nd} {i : Nat} (h : i < ns.length) : ns[i]? = some (nat_ ns i) := by
  unfold nat_
  rw [List.getD, List.getElem?_eq_getElem h]
  rfl

/-- A key's slice as it lies in w. -/
structure KeyAt (w : World) (X : Nat → Prop) (s : Sl) : Prop where
  rd : Rd .u8 w s.A s.body.length s.body
  u8 : U8 s.body
  len : s.body.length ≤ 140737488355328
  cap : s.c = s.body.length
  blk : ∀ a, s.A = some a → X a.block
  ty : ∀ a, s.A = some a → ∃ cur fr, w.heap[a.block]? = some (.cells cur 5 fr)

/-- The list at block sb; X: its blocks. -/
structure SL (w : World) (X : Nat → Prop) (base sb : Nat) (ns : List Nd) (hs : List Int) (H : Nat) : Prop where
  ex : ∃ An cn Ah ch, w.heap[sb]? = some (.cells #[.slice An ns.length cn, .slice Ah hs.length ch, .int .i64 (H : Int)] 95 (0, 0)) ∧ OwnG shN 110 w base An cn ns ∧ OwnG shZ 3 w base Ah ch hs ∧ (∀ a, An = some a → X a.block) ∧ (∀ a, Ah = some a → X a.block)
  sbX : X sb
  bd : ∀ b, X b → base ≤ b ∧ b < w.heap.size
  keys : ∀ i, 1 ≤ i → i < ns.length → KeyAt w X (nat_ ns i).key
  sk : Sk ns.length (kb ns) (hg ns) (nxt ns) H
  hok : 0 < hs.length ∧ ∀ x ∈ hs, 1 ≤ x ∧ x ≤ 12

theorem OwnG.blk {T : Type} {s : Shape T} {e : TypeId} {w w' : World} {base c : Nat} {A : Option Addr} {xs : List T} (h : OwnG s e w base A c xs) (hb : ∀ a, A = some a → w'.heap[a.block]? = w.heap[a.block]?) : OwnG s e w' base A c xs := by
  refine ⟨h.1, ?_⟩
  rcases h.2 with hn | ⟨g, cap, cur, hv, hg, hh, r⟩
  · exact Or.inl hn
  · refine Or.inr ⟨g, cap, cur, hv, hg, ?_, r⟩
    injection hv with hA
    exact (hb _ hA).trans hh
theorem Rd.blk {k : IntKind} {w w' : World} {A : Option Addr} {n : Nat} {xs : List Nat} (h : Rd k w A n xs) (hb : ∀ a, A = some a → w'.heap[a.block]? = w.heap[a.block]?) (hs : w.heap.size ≤ w'.heap.size) : Rd k w' A n xs :=
  ⟨h.1, fun hn => by
    obtain ⟨b, o, e, hlt, hc⟩ := h.2 hn
    exact ⟨b, o, e, Nat.lt_of_lt_of_le hlt hs, fun j hj => (World.cell?_of_block (w := w) (a := ⟨b, o + j, none⟩) (show w'.heap[b]? = w.heap[b]? from hb _ e)).trans (hc j hj)⟩⟩
theorem KeyAt.kept {w w' : World} {X : Nat → Prop} {s : Sl} (h : KeyAt w X s) (hb : ∀ b, X b → w'.heap[b]? = w.heap[b]?) (hs : w.heap.size ≤ w'.heap.size) : KeyAt w' X s :=
  ⟨h.rd.blk (fun a ha => hb _ (h.blk a ha)) hs, h.u8, h.len, h.cap, h.blk, fun a ha => by obtain ⟨cur, fr, q⟩ := h.ty a ha; exact ⟨cur, fr, (hb _ (h.blk a ha)).trans q⟩⟩
theorem KeyAt.wide {w : World} {X Y : Nat → Prop} {s : Sl} (h : KeyAt w X s) (hX : ∀ b, X b → Y b) : KeyAt w Y s := ⟨h.rd, h.u8, h.len, h.cap, fun a ha => hX _ (h.blk a ha), h.ty⟩

section
variable {w w' : World} {X : Nat → Prop} {base sb H : Nat} {ns : List Nd} {hs : List Int}
theorem SL.kept (h : SL w X base sb ns hs H) (hb : ∀ b, X b → w'.heap[b]? = w.heap[b]?) (hz : w.heap.size ≤ w'.heap.size) : SL w' X base sb ns hs H := by
  obtain ⟨An, cn, Ah, ch, h1, h2, h3, h4, h5⟩ := h.ex
  exact ⟨⟨An, cn, Ah, ch, (hb sb h.sbX).trans h1, h2.blk (fun a ha => hb _ (h4 a ha)), h3.blk (fun a ha => hb _ (h5 a ha)), h4, h5⟩, h.sbX, fun b hX => ⟨(h.bd b hX).1, Nat.lt_of_lt_of_le (h.bd b hX).2 hz⟩, fun i i1 i2 => (h.keys i i1 i2).kept hb hz, h.sk, h.hok⟩
theorem SL.ext (h : SL w X base sb ns hs H) (he : Ext w w') : SL w' X base sb ns hs H := h.kept (fun b hX => he.block b (h.bd b hX).2) he.size
theorem SL.far (h : SL w X base sb ns hs H) {g : Nat} (hg : w.grownBy w' (some g)) (hX : ¬ X g) : SL w' X base sb ns hs H :=
  h.kept (fun b hb => hg.block b (h.bd b hb).2 (fun e => by injection e with e; subst e; exact hX hb)) hg.size

/-- What a walk needs of a list. -/
structure See (w : World) (sb : Nat) (ns : List Nd) (hs : List Int) (H : Nat) (b cn : Nat) (Ah : Option Addr) (ch : Nat) : Prop where
  c0 : w.cell? ⟨sb, 0, none⟩ = some (.slice (some ⟨b, 0, none⟩) ns.length cn)
  c1 : w.cell? ⟨sb, 1, none⟩ = some (.slice Ah hs.length ch)
  c2 : w.cell? ⟨sb, 2, none⟩ = some (.int .i64 (H : Int))
  key : ∀ i, i < ns.length → w.cell? ⟨b, i * 14, none⟩ = some (nat_ ns i).key.v
  val : ∀ i, i < ns.length → w.cell? ⟨b, i * 14 + 1, none⟩ = some (.int .i64 (vl ns i))
  nx : ∀ i l, i < ns.length → l < 12 → w.cell? ⟨b, i * 14 + 2 + l, none⟩ = some (.int .i64 (nxt ns i l : Int))
  fr : (∀ i, w.frozen? ⟨b, i, none⟩ = false) ∧ ∀ i, w.frozen? ⟨sb, i, none⟩ = false
  cap : ns.length ≤ cn ∧ cn ≤ 9223372036854775807
  hcap : hs.length ≤ ch ∧ ch ≤ 9223372036854775807
  rd : RdG shZ w Ah hs.length hs

theorem SL.see2 (h : SL w X base sb ns hs H) : ∃ b cn Ah ch, See w sb ns hs H b cn Ah ch ∧ w.heap[sb]? = some (.cells #[.slice (some ⟨b, 0, none⟩) ns.length cn, .slice Ah hs.length ch, .int .i64 (H : Int)] 95 (0, 0)) ∧ OwnG shN 110 w base (some ⟨b, 0, none⟩) cn ns ∧ OwnG shZ 3 w base Ah ch hs ∧ X b ∧ (∀ a, Ah = some a → X a.block) ∧ b ≠ sb := by
  obtain ⟨An, cn, Ah, ch, h1, h2, h3, h4, h5⟩ := h.ex
  obtain ⟨b, hb⟩ := h2.head h.sk.pos
  subst hb
  have hat : ∀ i, i < ns.length → ∀ r u, (shN.cells (nat_ ns i))[r]? = some u → w.cell? ⟨b, i * 14 + r, none⟩ = some u := fun i hi r u hu => by
    obtain ⟨b', x, hA, _, _, hx, hc, _⟩ := h2.at_ hi
    injection hA with hA
    injection hA with hA
    subst hA
    rw [nat_at hi] at hx
    injection hx with hx
    subst hx
    exact hc r u hu
  have hbs : b ≠ sb := fun e => by
    subst e
    rcases h2.2 with ⟨hv, _⟩ | ⟨g, cap, cur, hv, _, hh, _⟩
    · cases hv
    · injection hv with hA
      injection hA with hA
      injection hA with hA
      subst hA
      rw [hh] at h1
      injection h1 with h1
      injection h1 with _ h1
      exact absurd h1 (by decide)
  refine ⟨b, cn, Ah, ch, ⟨?_, ?_, ?_, fun i hi => hat i hi 0 _ rfl, fun i hi => hat i hi 1 _ rfl, fun i l hi hl => ?_, ⟨?_, ?_⟩, h2.cap, h3.cap, h3.rd⟩, h1, h2, h3, h4 _ rfl, h5, hbs⟩
  · rw [cell_of_row w sb 0 _ _ (0, 0) h1]; rfl
  · rw [cell_of_row w sb 1 _ _ (0, 0) h1]; rfl
  · rw [cell_of_row w sb 2 _ _ (0, 0) h1]; rfl
  · have := hat i hi (2 + l) (.int .i64 (nxt ns i l : Int)) (by
      show ([(nat_ ns i).key.v, Value.int .i64 (nat_ ns i).v] ++ twr (nat_ ns i).nx)[2 + l]? = _
      rw [List.getElem?_append_right (by simp), show 2 + l - [(nat_ ns i).key.v, Value.int .i64 (nat_ ns i).v].length = l by simp]
      exact twr_at hl)
    rw [← Nat.add_assoc] at this
    exact this
  · obtain ⟨b', x, hA, _, _, hx, hc, hf, _⟩ := h2.at_ h.sk.pos
    injection hA with hA
    injection hA with hA
    subst hA
    exact hf
  · intro i; simp [World.frozen?, h1]
theorem SL.see (h : SL w X base sb ns hs H) : ∃ b cn Ah ch, See w sb ns hs H b cn Ah ch := by
  obtain ⟨b, cn, Ah, ch, hs, _⟩ := h.see2
  exact ⟨b, cn, Ah, ch, hs⟩
end

end Go.Proofs.Ytkmnhapeohlooaa

/-
  Layer 18: along a level, and down the levels.
-/
namespace Go.Proofs.Ytkmnhapeohlooaa
open Go.RowKit
set_option maxRecDepth 100000

section
variable {w : World} {X : Nat → Prop} {base sb H : Nat} {ns : List Nd} {hs : List Int} (h : SL w X base sb ns hs H)
include h

theorem slen_any (hb : ns.length ≤ 17592186044417) : Calls Try.prog 34 #[.pointer (some ⟨sb, 0, none⟩)] w fun e w' => e = .returned (.int .i64 ((ns.length : Int) - 1)) ∧ w = w' := by
  obtain ⟨b, cn, Ah, ch, hS⟩ := h.see
  have hp := h.sk.pos
  obtain ⟨n, hn⟩ : ∃ n, n = ns.length := ⟨_, rfl⟩
  have c0 := hS.c0
  rw [← hn] at c0 hb hp ⊢
  clear hS h hn
  go_enter Try.func34, Try.ntmps34
  go_wp2_with fail
  go_ret
  exact ⟨rfl, rfl⟩

theorem sheight_any : Calls Try.prog 35 #[.pointer (some ⟨sb, 0, none⟩)] w fun e w' => e = .returned (.int .i64 (H : Int)) ∧ w = w' := by
  obtain ⟨b, cn, Ah, ch, hS⟩ := h.see
  have c2 := hS.c2
  clear hS h
  go_enter Try.func35, Try.ntmps35
  go_wp2_with fail
  go_ret
  exact ⟨rfl, rfl⟩

set_option maxHeartbeats 1600000 in
theorem sfollow_any (_hb : ns.length ≤ 17592186044417) (i l : Nat) (A : Option Addr) (m c : Nat) (t : List Nat) (ht : Rd .u8 w A m t) (hu : U8 t) (hl : l < 12) (hi : i < ns.length) (hv : i = 0 ∨ l < hg ns i) (ha : i = 0 ∨ ordT (kb ns i) t < 0) :
    Calls Try.prog 89 #[.pointer (some ⟨sb, 0, none⟩), .int .i64 (i : Int), .int .i64 (l : Int), .slice A m c] w fun e w' => (∃ r : Nat, e = .returned (.int .i64 (r : Int)) ∧ At ns.length (kb ns) (hg ns) l t r) ∧ w = w' := by
  obtain ⟨b, cn, Ah, ch, hS⟩ := h.see
  have c0 := hS.c0
  obtain ⟨cap1, cap2⟩ := hS.cap
  have Hnx := Lib.hid hS.nx
  have Hkey := Lib.hid hS.key
  have Hk := Lib.hid h.keys
  have Hsk := Lib.hid h.sk
  have Ht := Lib.hid ht
  have Hu := Lib.hid hu
  obtain ⟨n, hn⟩ : ∃ n, n = ns.length := ⟨_, rfl⟩
  rw [← hn] at c0 hi cap1 Hnx Hkey Hk Hsk ⊢
  have Hv := Lib.hid hv
  have Ha := Lib.hid ha
  clear hS h hn hv ha ht hu
  go_enter Try.func89, Try.ntmps89
  go_wp2_with fail
  go_loopw [1] (fun v wr => ∃ j : Nat, v = .int .i64 (j : Int) ∧ j < n ∧ Hid (j = 0 ∨ l < hg ns j) ∧ Hid (j = 0 ∨ ordT (kb ns j) t < 0) ∧ wr = w) (fun v _ => restN n (kb ns) (intOf v).toNat)
  case atStart => exact ⟨i, rfl, hi, Hv, Ha, rfl⟩
  case round =>
    obtain ⟨j, rfl, hj, Hjv, Hja, rfl⟩ := hrel
    have n0 := Hnx.out j l hj hl
    have hk := Hsk.out.lk l j hl hj Hjv.out
    obtain ⟨x, hx⟩ : ∃ x, x = nxt ns j l := ⟨_, rfl⟩
    rw [← hx] at n0 hk
    have Hx := Lib.hid hx
    have HK := Lib.hid hk
    have hxl := hk.lt
    clear hx hk
    by_cases x0 : x = 0
    · subst x0
      go_wp2_with fail
      go_ret
      exact ⟨⟨j, rfl, at_stop Hsk.out hl hj Hjv.out Hja.out (.inl Hx.out.symm)⟩, rfl⟩
    · have b0 : ((x : Int) == 0) = false := by simp; omega
      have k0 := Hkey.out x hxl
      have hkx := Hk.out x (by omega) hxl
      have CC := Lib.hid (compareT_any (nat_ ns x).key.A A (nat_ ns x).key.body.length (nat_ ns x).key.c m c (nat_ ns x).key.body t wr hkx.rd Ht.out hkx.u8 Hu.out)
      obtain ⟨kA, hkA⟩ : ∃ kA, kA = (nat_ ns x).key.A := ⟨_, rfl⟩
      obtain ⟨kn, hkn⟩ : ∃ kn, kn = (nat_ ns x).key.body.length := ⟨_, rfl⟩
      obtain ⟨kc, hkc⟩ : ∃ kc, kc = (nat_ ns x).key.c := ⟨_, rfl⟩
      have HO : Hid (ordT (nat_ ns x).key.body t = ordT (kb ns x) t) := Lib.hid rfl
      unfold Sl.v at k0
      rw [← hkA, ← hkn, ← hkc] at k0
      rw [← hkA, ← hkn, ← hkc, HO.out] at CC
      obtain ⟨O, hO⟩ : ∃ O, O = ordT (kb ns x) t := ⟨_, rfl⟩
      rw [← hO] at CC
      have HO2 := Lib.hid hO
      clear hkx hkA hkn hkc HO hO
      by_cases q : 0 ≤ O
      · have d : decide ((0 : Int) ≤ O) = true := decide_eq_true q
        have hq : Hid (¬ ordT (kb ns x) t < 0) := Lib.hid (by rw [← HO2.out]; omega)
        clear q
        go_wp2_with fail
        refine CC.out.mono ?_
        rintro e w1 ⟨rfl, rfl⟩
        go_wp2_with fail
        go_ret
        exact ⟨⟨j, rfl, at_stop Hsk.out hl hj Hjv.out Hja.out (.inr (by rw [← Hx.out]; exact Int.not_lt.2 hq.out))⟩, rfl⟩
      · have d : decide ((0 : Int) ≤ O) = false := decide_eq_false q
        have hq : Hid (ordT (kb ns x) t < 0) := Lib.hid (by rw [← HO2.out]; omega)
        clear q
        go_wp2_with fail
        refine CC.out.mono ?_
        rintro e w1 ⟨rfl, rfl⟩
        go_wp2_with fail
        go_roundw
        case rel => exact ⟨x, rfl, hxl, Lib.hid (.inr (HK.out.bf x0).1), Lib.hid (.inr hq.out), (by trivial)⟩
        case measure =>
          simp only [intOf, Int.toNat_natCast]
          exact rest_lt hxl x0 (HK.out.bf x0).2
end

end Go.Proofs.Ytkmnhapeohlooaa

/-
  Layer 18: down the levels: the last nodes ahead of a key.
-/
namespace Go.Proofs.Ytkmnhapeohlooaa
open Go.RowKit
set_option maxRecDepth 100000

abbrev z12 : Array Value := #[.int .i64 0, .int .i64 0, .int .i64 0, .int .i64 0, .int .i64 0, .int .i64 0, .int .i64 0, .int .i64 0, .int .i64 0, .int .i64 0, .int .i64 0, .int .i64 0]
theorem z12_twr : z12 = (twr fun _ => 0).toArray := rfl
/-- A tower as a value. -/
abbrev twv (a : Nat → Nat) : Value := .agg (twr a).toArray

theorem results_t1 {P : Program} {fn : Func} {p : Tmp} {ty : TypeId} (h : fn.results = #[.cell p ty]) (tmps : Array Value) (w : World) (g : Nat) (T : TypeId) (cs : Array Value) (fr : Nat × Nat) (d : TypeDesc)
    (hp : tmps.getD p undef = .pointer (some ⟨g, 0, none⟩)) (hg : w.heap[g]? = some (.cells cs T fr))
    (hu : P.underlying ty = some d) (hd : (match d with | .struct _ | .array _ _ => true | _ => false) = true) (hi : (P.info? ty).map (·.size) = some cs.size) :
    (results fn tmps).run P w = .ok (.agg cs) w := by
  have hp' : tmps[p]?.getD undef = .pointer (some ⟨g, 0, none⟩) := by simpa using hp
  simp [results, h, hp', asAddr, run_loadVar_row w g T ty cs fr d hg hu hd hi]

theorem twr_size (a : Nat → Nat) : (twr a).toArray.size = 12 := by simp [twr_len]
theorem twr_one (a : Nat → Nat) : (twr a).toArray.all (·.oneCell') = true := by simp [twr, Value.oneCell']
/-- A tower's value set on one level. -/
theorem twr_set {a : Nat → Nat} {l : Nat} (hl : l < 12) (x : Nat) : (twr a).toArray.setIfInBounds l (.int .i64 (x : Int)) = (twr (fun k => if k = l then x else a k)).toArray := by
  apply Array.ext_getElem?
  intro i
  rw [Array.getElem?_setIfInBounds]
  by_cases e : l = i
  · subst e
    rw [if_pos rfl, if_pos (by simp [twr_len]; exact hl), List.getElem?_toArray, twr_at hl, if_pos rfl]
  · rw [if_neg e, List.getElem?_toArray, List.getElem?_toArray]
    by_cases h : i < 12
    · rw [twr_at h, twr_at h, if_neg (fun q => e q.symm)]
    · rw [List.getElem?_eq_none (by rw [twr_len]; omega), List.getElem?_eq_none (by rw [twr_len]; omega)]

section
variable {w : World} {X : Nat → Prop} {base sb H : Nat} {ns : List Nd} {hs : List Int} (h : SL w X base sb ns hs H)
include h

set_option maxHeartbeats 1600000 in
theorem sahead_any (hb : ns.length ≤ 17592186044417) (A : Option Addr) (m c : Nat) (t : List Nat) (ht : Rd .u8 w A m t) (hu : U8 t) :
    Calls Try.prog 78 #[.pointer (some ⟨sb, 0, none⟩), .slice A m c] w fun e w' => (∃ a : Nat → Nat, e = .returned (twv a) ∧ ∀ l, l < 12 → At ns.length (kb ns) (hg ns) l t (a l)) ∧ Ext w w' := by
  obtain ⟨b, cn, Ah, ch, hS⟩ := h.see
  have c2 := hS.c2
  have hH := h.sk.top
  have hp := h.sk.pos
  have Hsk := Lib.hid h.sk
  have HF := Lib.hid (fun W (hW : Ext w W) i l hl hi hv ha => sfollow_any (h.ext hW) hb i l A m c t (ht.ext hW) hu hl hi hv ha)
  have HC := Lib.hid (fun W (hW : Ext w W) => by obtain ⟨b', cn', Ah', ch', hS'⟩ := (h.ext hW).see; exact hS'.c2)
  obtain ⟨n, hn⟩ : ∃ n, n = ns.length := ⟨_, rfl⟩
  rw [← hn] at hp Hsk HF ⊢
  obtain ⟨G, hG⟩ : ∃ G, G = w.heap.size + 1 := ⟨_, rfl⟩
  have hE0 : Ext w ((w.alloc (.cells z12 105)).alloc (.cells z12 105)) := ((Ext.refl w).alloc _).alloc _
  have hg1 : ((w.alloc (.cells z12 105)).alloc (.cells z12 105)).heap[G]? = some (.cells z12 105 (0, 0)) := by
    have := heap_alloc_new (w.alloc (.cells z12 105)) (.cells z12 105)
    rw [hG]
    simpa using this
  have hg0 : ((w.alloc (.cells z12 105)).alloc (.cells z12 105)).heap[w.heap.size]? = some (.cells z12 105 (0, 0)) :=
    (Below.heap_alloc _ _ _ (by simp)).trans (heap_alloc_new w _)
  have hc2 := HC.out _ hE0
  have HG := Lib.hid hG
  clear hS h hn ht c2 hb
  go_enter Try.func78, Try.ntmps78
  go_wp2_with fail
  go_loopw [6, 7] (fun v u wr => ∃ (lv r : Nat) (a : Nat → Nat), u = .int .i64 ((lv : Int) - 1) ∧ v = .int .i64 (r : Int) ∧ lv ≤ H ∧ r < n ∧ Hid (r = 0 ∨ lv < hg ns r) ∧ Hid (r = 0 ∨ ordT (kb ns r) t < 0) ∧ Hid (wr.heap[w.heap.size + 1]? = some (.cells (twr a).toArray 105 (0, 0))) ∧ Hid (wr.heap[w.heap.size]? = some (.cells z12 105 (0, 0))) ∧ Hid (∀ l, lv ≤ l → l < 12 → At n (kb ns) (hg ns) l t (a l)) ∧ Ext w wr) (fun _ u _ => (intOf u + 1).toNat)
  case atStart => exact ⟨H, 0, fun _ => 0, rfl, rfl, Nat.le_refl _, hp, Lib.hid (.inl rfl), Lib.hid (.inl rfl), Lib.hid (by rw [HG.out] at hg1; exact hg1), Lib.hid hg0, Lib.hid (fun l l1 _ => at_none Hsk.out l1), hE0⟩
  case round =>
    clear hg1 hg0 hE0 hc2
    obtain ⟨lv, r, a, rfl, rfl, hlv, hr, Hv, Ha, Hb1, Hb0, HA, hE⟩ := hrel
    by_cases l0 : lv = 0
    · subst l0
      have d : decide ((0 : Int) ≤ ((0 : Nat) : Int) - 1) = false := decide_eq_false (by decide)
      have HE := Lib.hid hE
      clear hE
      go_wp2_with (first
        | (refine wpList_load_row rfl 105 _ rfl (w.heap.size + 1) rfl 105 (twr a).toArray (0, 0) _ Hb1.out Try.underlying105 rfl (by rw [twr_size]; kernel_rfl) ?_)
        | (refine wpList_store_row rfl 105 _ _ rfl w.heap.size (twr a).toArray rfl rfl 105 z12 Hb0.out (by rw [twr_size]; kernel_rfl) (by rw [twr_size]; rfl) (twr_one a) ?_)
        | fail)
      apply bodyPost_ret
      · exact results_t1 rfl _ _ w.heap.size 105 (twr a).toArray (0, 0) _ rfl (setRow_heap wr w.heap.size _ _ 105 (0, 0) Hb0.out) Try.underlying105 rfl (by rw [twr_size]; kernel_rfl)
      · rfl
      exact ⟨⟨a, rfl, fun l hl => HA.out l (Nat.zero_le _) hl⟩, HE.out.setRow (Nat.le_refl _) _⟩
    · obtain ⟨k, rfl⟩ : ∃ k, lv = k + 1 := ⟨lv - 1, by omega⟩
      have e1 : (((k + 1 : Nat) : Int) - 1) = (k : Int) := by omega
      rw [e1]
      have d : decide ((0 : Int) ≤ (k : Int)) = true := decide_eq_true (by omega)
      have CC := Lib.hid (HF.out _ hE r k (by omega) hr (Hv.out.imp id (fun q => by omega)) Ha.out)
      have HE := Lib.hid hE
      clear hE e1
      go_wp2_with fail
      refine CC.out.mono ?_
      rintro e w1 ⟨⟨x, rfl, hx⟩, rfl⟩
      have HX := Lib.hid hx
      clear hx
      have cb : wr.cell? ⟨w.heap.size + 1, k, none⟩ = some (.int .i64 (a k : Int)) := by
        rw [cell_of_row wr (w.heap.size + 1) k _ _ (0, 0) Hb1.out, List.getElem?_toArray]
        exact twr_at (by omega)
      have cf : wr.frozen? ⟨w.heap.size + 1, k, none⟩ = false := by simp [World.frozen?, Hb1.out]
      have hb1' := heap_setCell_same wr (w.heap.size + 1) k _ _ (.int .i64 (x : Int)) Hb1.out
      rw [twr_set (by omega) x] at hb1'
      have Hb1' := Lib.hid hb1'
      have Hb0' := Lib.hid ((Below.heap_setCell wr ⟨w.heap.size + 1, k, none⟩ (.int .i64 (x : Int)) w.heap.size (by simp)).trans Hb0.out)
      have hE' := HE.out.setCell (p := ⟨w.heap.size + 1, k, none⟩) (by simp) (.int .i64 (x : Int))
      clear hb1'
      go_wp2_with fail
      go_roundw
      case rel => exact ⟨k, x, _, rfl, rfl, by omega, HX.out.lt, Lib.hid HX.out.lv, Lib.hid HX.out.ah, Hb1', Hb0', Lib.hid (fun l l1 l2 => by
        show At n (kb ns) (hg ns) l t (if l = k then x else a l)
        by_cases q : l = k
        · rw [if_pos q, q]; exact HX.out
        · rw [if_neg q]; exact HA.out l (by omega) l2), hE'⟩
      case measure => simp [intOf]
end

end Go.Proofs.Ytkmnhapeohlooaa

/-
  Layer 18: the first node behind, Get, Seek.
-/
namespace Go.Proofs.Ytkmnhapeohlooaa
open Go.RowKit
set_option maxRecDepth 100000

section
variable {w : World} {X : Nat → Prop} {base sb H : Nat} {ns : List Nd} {hs : List Int} (h : SL w X base sb ns hs H)
include h

set_option maxHeartbeats 1600000 in
theorem sbehind_any (_hb : ns.length ≤ 17592186044417) (a : Nat → Nat) (ha : a 0 < ns.length) :
    Calls Try.prog 79 #[.pointer (some ⟨sb, 0, none⟩), twv a] w fun e w' => e = .returned (.int .i64 (nxt ns (a 0) 0 : Int)) ∧ Ext w w' := by
  have hE : Ext w (w.alloc (.cells (twr a).toArray 105)) := (Ext.refl w).alloc _
  obtain ⟨b, cn, Ah, ch, hS⟩ := (h.ext hE).see
  have c0 := hS.c0
  have n0 := hS.nx (a 0) 0 ha (by omega)
  obtain ⟨cap1, cap2⟩ := hS.cap
  have b0 : (w.alloc (.cells (twr a).toArray 105)).cell? ⟨w.heap.size, 0, none⟩ = some (.int .i64 (a 0 : Int)) := by
    rw [cell_of_row _ w.heap.size 0 _ 105 (0, 0) (heap_alloc_new w _), List.getElem?_toArray]
    exact twr_at (by omega)
  rw [Nat.add_zero] at n0
  obtain ⟨x, hx⟩ : ∃ x, x = nxt ns (a 0) 0 := ⟨_, rfl⟩
  obtain ⟨i, hi⟩ : ∃ i, i = a 0 := ⟨_, rfl⟩
  obtain ⟨n, hn⟩ : ∃ n, n = ns.length := ⟨_, rfl⟩
  rw [← hx] at n0 ⊢
  rw [← hi] at n0 b0 ha
  rw [← hn] at c0 ha cap1
  have HE := Lib.hid hE
  clear hS h hx hi hn hE
  go_enter Try.func79, Try.ntmps79
  go_wp2_with fail
  go_quiet (fail)
  go_wp2_with fail
  go_ret
  exact ⟨rfl, HE.out.drewN _⟩

theorem sfirst_any (hb : ns.length ≤ 17592186044417) (A : Option Addr) (m c : Nat) (t : List Nat) (ht : Rd .u8 w A m t) (hu : U8 t) :
    Calls Try.prog 82 #[.pointer (some ⟨sb, 0, none⟩), .slice A m c] w fun e w' => (∃ j : Nat, e = .returned (.int .i64 (j : Int)) ∧ Fst ns.length (kb ns) t j) ∧ Ext w w' := by
  have CA := Lib.hid (sahead_any h hb A m c t ht hu)
  have CB := Lib.hid (fun W (hW : Ext w W) a ha => sbehind_any (h.ext hW) hb a ha)
  have Hsk := Lib.hid h.sk
  clear h ht hu
  go_enter Try.func82, Try.ntmps82
  go_wp2_with fail
  refine CA.out.mono ?_
  rintro e w1 ⟨⟨a, rfl, hA⟩, he1⟩
  have HA := Lib.hid hA
  have C2 := Lib.hid (CB.out _ he1 a (hA 0 (by omega)).lt)
  clear hA
  go_wp2_with fail
  refine C2.out.mono ?_
  rintro e w2 ⟨rfl, he2⟩
  go_wp2_with fail
  go_ret
  exact ⟨⟨_, rfl, fst_of Hsk.out (HA.out 0 (by omega))⟩, he1.trans he2⟩

set_option maxHeartbeats 800000 in
theorem shas_any (_hb : ns.length ≤ 17592186044417) (i : Nat) (hi : i < ns.length) (A : Option Addr) (m c : Nat) (t : List Nat) (ht : Rd .u8 w A m t) (hu : U8 t) :
    Calls Try.prog 80 #[.pointer (some ⟨sb, 0, none⟩), .int .i64 (i : Int), .slice A m c] w fun e w' => e = .returned (.bool (decide (i ≠ 0) && decide (kb ns i = t))) ∧ w = w' := by
  obtain ⟨b, cn, Ah, ch, hS⟩ := h.see
  have c0 := hS.c0
  obtain ⟨cap1, cap2⟩ := hS.cap
  have k0 := hS.key i hi
  by_cases i0 : i = 0
  · subst i0
    clear hS h k0 c0 cap1 cap2
    go_enter Try.func80, Try.ntmps80
    go_wp2_with fail
    go_ret
    exact ⟨rfl, rfl⟩
  · have hkx := h.keys i (by omega) hi
    have CC := Lib.hid (bequal_any (nat_ ns i).key.A (nat_ ns i).key.body.length (nat_ ns i).key.c (nat_ ns i).key.body A m c t w hkx.rd ht hkx.u8 hu)
    have hD : (decide (i ≠ 0) && decide (kb ns i = t)) = decide ((nat_ ns i).key.body = t) := by rw [decide_eq_true i0]; rfl
    rw [hD]
    have b0 : ((i : Int) != 0) = true := by simp; omega
    unfold Sl.v at k0
    obtain ⟨D, hDD⟩ : ∃ D, D = decide ((nat_ ns i).key.body = t) := ⟨_, rfl⟩
    rw [← hDD] at CC ⊢
    obtain ⟨kA, hkA⟩ : ∃ kA, kA = (nat_ ns i).key.A := ⟨_, rfl⟩
    obtain ⟨kn, hkn⟩ : ∃ kn, kn = (nat_ ns i).key.body.length := ⟨_, rfl⟩
    obtain ⟨kc, hkc⟩ : ∃ kc, kc = (nat_ ns i).key.c := ⟨_, rfl⟩
    obtain ⟨n, hn⟩ : ∃ n, n = ns.length := ⟨_, rfl⟩
    rw [← hkA, ← hkn, ← hkc] at k0 CC
    rw [← hn] at c0 hi cap1
    clear hS h hkx hD hDD hkA hkn hkc hn ht hu
    go_enter Try.func80, Try.ntmps80
    go_wp2_with fail
    refine CC.out.mono ?_
    rintro e w1 ⟨rfl, rfl⟩
    go_wp2_with fail
    go_ret
    exact ⟨rfl, rfl⟩

set_option maxHeartbeats 800000 in
theorem sget_any (hb : ns.length ≤ 17592186044417) (A : Option Addr) (m c : Nat) (t : List Nat) (ht : Rd .u8 w A m t) (hu : U8 t) :
    Calls Try.prog 44 #[.pointer (some ⟨sb, 0, none⟩), .slice A m c] w fun e w' => (∃ j : Nat, Fst ns.length (kb ns) t j ∧ e = .returned (.tuple #[.int .i64 (if j ≠ 0 ∧ kb ns j = t then vl ns j else 0), .bool (decide (j ≠ 0 ∧ kb ns j = t))])) ∧ Ext w w' := by
  have CA := Lib.hid (sfirst_any h hb A m c t ht hu)
  have CB := Lib.hid (fun W (hW : Ext w W) i hi => shas_any (h.ext hW) hb i hi A m c t (ht.ext hW) hu)
  have HS := Lib.hid (fun W (hW : Ext w W) => (h.ext hW).see)
  clear h ht hu
  go_enter Try.func44, Try.ntmps44
  go_wp2_with fail
  refine CA.out.mono ?_
  rintro e w1 ⟨⟨j, rfl, hF⟩, he1⟩
  have C2 := CB.out _ he1 j hF.lt
  obtain ⟨b, cn, Ah, ch, hS⟩ := HS.out _ he1
  have c0 := hS.c0
  obtain ⟨cap1, cap2⟩ := hS.cap
  have v0 := hS.val j hF.lt
  have hj := hF.lt
  have HF := Lib.hid hF
  by_cases q : j ≠ 0 ∧ kb ns j = t
  · have e1 : (decide (j ≠ 0) && decide (kb ns j = t)) = true := by rw [decide_eq_true q.1, decide_eq_true q.2]; rfl
    rw [e1] at C2
    have C2 := Lib.hid C2
    obtain ⟨x, hx⟩ : ∃ x, x = vl ns j := ⟨_, rfl⟩
    obtain ⟨n, hn⟩ : ∃ n, n = ns.length := ⟨_, rfl⟩
    rw [← hx] at v0
    rw [← hn] at c0 hj cap1
    have HR : Hid ((if j ≠ 0 ∧ kb ns j = t then vl ns j else 0) = x ∧ decide (j ≠ 0 ∧ kb ns j = t) = true) := Lib.hid ⟨by rw [if_pos q, hx], decide_eq_true q⟩
    clear hS hF e1 q hx hn
    go_wp2_with fail
    refine C2.out.mono ?_
    rintro e w2 ⟨rfl, rfl⟩
    go_wp2_with fail
    go_ret2
    exact ⟨⟨j, HF.out, by rw [HR.out.1, HR.out.2]; rfl⟩, he1⟩
  · have e1 : (decide (j ≠ 0) && decide (kb ns j = t)) = false := by
      rw [Bool.and_eq_false_iff]
      by_cases j0 : j ≠ 0
      · exact .inr (decide_eq_false (fun e => q ⟨j0, e⟩))
      · exact .inl (decide_eq_false j0)
    rw [e1] at C2
    have C2 := Lib.hid C2
    have HR : Hid ((if j ≠ 0 ∧ kb ns j = t then vl ns j else 0) = 0 ∧ decide (j ≠ 0 ∧ kb ns j = t) = false) := Lib.hid ⟨if_neg q, decide_eq_false q⟩
    clear hS hF e1 q v0 c0 cap1 cap2
    go_wp2_with fail
    refine C2.out.mono ?_
    rintro e w2 ⟨rfl, rfl⟩
    go_wp2_with fail
    go_ret2
    exact ⟨⟨j, HF.out, by rw [HR.out.1, HR.out.2]; rfl⟩, he1⟩

set_option maxHeartbeats 1600000 in
theorem sseek_any (hb : ns.length ≤ 17592186044417) (A : Option Addr) (m c : Nat) (t : List Nat) (ht : Rd .u8 w A m t) (hu : U8 t) :
    Calls Try.prog 42 #[.pointer (some ⟨sb, 0, none⟩), .slice A m c] w fun e w' => (∃ j : Nat, Fst ns.length (kb ns) t j ∧ ((j = 0 ∧ e = .returned (.tuple #[.slice none 0 0, .int .i64 0, .bool false])) ∨
      (j ≠ 0 ∧ ∃ A' c', e = .returned (.tuple #[.slice A' (kb ns j).length c', .int .i64 (vl ns j), .bool true]) ∧ Own .u8 5 w' w.heap.size A' c' (kb ns j)))) ∧ Ext w w' := by
  have CA := Lib.hid (sfirst_any h hb A m c t ht hu)
  have HS := Lib.hid (fun W (hW : Ext w W) => (h.ext hW).see)
  have HK := Lib.hid (fun W (hW : Ext w W) => (h.ext hW).keys)
  clear h ht hu
  go_enter Try.func42, Try.ntmps42
  go_wp2_with fail
  refine CA.out.mono ?_
  rintro e w1 ⟨⟨j, rfl, hF⟩, he1⟩
  have HF := Lib.hid hF
  have hj := hF.lt
  by_cases j0 : j = 0
  · subst j0
    clear hF
    go_wp2_with fail
    go_ret3
    exact ⟨⟨0, HF.out, .inl ⟨rfl, rfl⟩⟩, he1⟩
  · have b0 : ((j : Int) == 0) = false := by simp; omega
    obtain ⟨b, cn, Ah, ch, hS⟩ := HS.out _ he1
    have c0 := hS.c0
    obtain ⟨cap1, cap2⟩ := hS.cap
    have v0 := hS.val j hj
    have k0 := hS.key j hj
    have hlb : sb < w1.heap.size ∧ b < w1.heap.size := ⟨World.block_lt_of_cell? w1 _ c0, World.block_lt_of_cell? w1 _ v0⟩
    have hkx := HK.out _ he1 j (by omega) hj
    have CC := Lib.hid (fun W (hW : Ext w1 W) => clone_any (nat_ ns j).key.A (nat_ ns j).key.body.length (nat_ ns j).key.c (nat_ ns j).key.body W (hkx.rd.ext hW) (by have := hkx.len; omega))
    have HKB : Hid ((nat_ ns j).key.body = kb ns j) := Lib.hid rfl
    unfold Sl.v at k0
    rw [HKB.out] at k0 CC
    obtain ⟨kA, hkA⟩ : ∃ kA, kA = (nat_ ns j).key.A := ⟨_, rfl⟩
    obtain ⟨kn, hkn⟩ : ∃ kn, kn = (kb ns j).length := ⟨_, rfl⟩
    obtain ⟨kc, hkc⟩ : ∃ kc, kc = (nat_ ns j).key.c := ⟨_, rfl⟩
    obtain ⟨x, hx⟩ : ∃ x, x = vl ns j := ⟨_, rfl⟩
    obtain ⟨n, hn⟩ : ∃ n, n = ns.length := ⟨_, rfl⟩
    have Hkn := Lib.hid hkn
    have Hx := Lib.hid hx
    rw [← hkA, ← hkn, ← hkc] at k0 CC
    rw [← hx] at v0
    rw [← hn] at c0 hj cap1
    have hst : Hid (∀ W, Ext w1 W → W.cell? ⟨sb, 0, none⟩ = some (.slice (some ⟨b, 0, none⟩) n cn) ∧ W.cell? ⟨b, j * 14, none⟩ = some (.slice kA kn kc) ∧ W.cell? ⟨b, j * 14 + 1, none⟩ = some (.int .i64 x)) := Lib.hid fun W hW => ⟨(Below.cell hW (p := ⟨sb, 0, none⟩) hlb.1).trans c0, (Below.cell hW (p := ⟨b, j * 14, none⟩) hlb.2).trans k0, (Below.cell hW (p := ⟨b, j * 14 + 1, none⟩) hlb.2).trans v0⟩
    have h0 := hst.out w1 (Ext.refl _)
    clear hS hF hkx hkA hkn hkc hx hn hlb HKB c0 k0 v0
    go_wp2_with fail
    go_region_held3 (fun w' => w'.cell? ⟨sb, 0, none⟩ = some (.slice (some ⟨b, 0, none⟩) n cn) ∧ w'.cell? ⟨b, j * 14, none⟩ = some (.slice kA kn kc) ∧ w'.cell? ⟨b, j * 14 + 1, none⟩ = some (.int .i64 x))
      (first | exact h0 | exact hst.out _ he3 | fail)
      (first
        | (go_at_call 75; refine (CC.out _ ?_).mono ?_; (first | exact Ext.refl _ | exact (Ext.refl _).drew | exact Ext.of_drewN _ _ | fail); rintro e w2 ⟨A2, c2, rfl, hown2, he2⟩; have he3 : Ext w1 w2 := ⟨he2.os, he2.tape, he2.output, he2.size, he2.block⟩; have hown3 : Own .u8 5 w2 w1.heap.size A2 c2 (kb ns j) := hown2)
        | fail)
    go_wp2_with fail
    go_ret3
    exact ⟨⟨j, HF.out, .inr ⟨j0, A2, c2, by rw [← Hkn.out, ← Hx.out]; rfl, hown3.mono he1.size⟩⟩, he1.trans he3⟩
end

end Go.Proofs.Ytkmnhapeohlooaa
