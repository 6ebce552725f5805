/-
  Layer 18: nodes in an arena: who stands behind whom, on each level.
-/
import Derived.Test.YtkmnhapeohlooaaM10
namespace Go.Proofs.Ytkmnhapeohlooaa

theorem ordT_irr (a : List Nat) : ¬ ordT a a < 0 := by rw [ordT_self]; decide
theorem ordT_asym {a b : List Nat} (h : ordT a b < 0) : ¬ ordT b a < 0 := by rw [ordT_swap a b]; omega
theorem ordT_tri (a b : List Nat) : ordT a b < 0 ∨ a = b ∨ ordT b a < 0 := by
  by_cases h : ordT a b < 0
  · exact .inl h
  · by_cases h0 : ordT a b = 0
    · exact .inr (.inl (ordT_zero h0))
    · exact .inr (.inr (by rw [ordT_swap a b]; omega))
theorem ordT_lt_of_not {a b c : List Nat} (h : ordT a b < 0) (h2 : ¬ ordT c b < 0) : ordT a c < 0 := by
  rcases ordT_tri c b with q | q | q
  · exact absurd q h2
  · subst q; exact h
  · exact ordT_trans h q

/-- Node i stands ahead of node q; the first one ahead of all. -/
def Bf (K : Nat → List Nat) (i q : Nat) : Prop := i = 0 ∨ ordT (K i) (K q) < 0

/-- On level l, j is the next node behind i. -/
structure Lk (n : Nat) (K : Nat → List Nat) (G : Nat → Nat) (l i j : Nat) : Prop where
  lt : j < n
  bf : j ≠ 0 → l < G j ∧ Bf K i j
  all : ∀ q, 1 ≤ q → q < n → l < G q → Bf K i q → j ≠ 0 ∧ (q = j ∨ ordT (K j) (K q) < 0)

/-- A right arena: keys, heights, links, the greatest height. -/
structure Sk (n : Nat) (K : Nat → List Nat) (G : Nat → Nat) (X : Nat → Nat → Nat) (H : Nat) : Prop where
  pos : 0 < n
  gr : ∀ i, 1 ≤ i → i < n → 1 ≤ G i ∧ G i ≤ H
  top : H ≤ 12
  one : ∀ i j, 1 ≤ i → i < n → 1 ≤ j → j < n → K i = K j → i = j
  lk : ∀ l i, l < 12 → i < n → (i = 0 ∨ l < G i) → Lk n K G l i (X i l)

/-- On level l, r is the last node that stands ahead of t. -/
structure At (n : Nat) (K : Nat → List Nat) (G : Nat → Nat) (l : Nat) (t : List Nat) (r : Nat) : Prop where
  lt : r < n
  lv : r = 0 ∨ l < G r
  ah : r = 0 ∨ ordT (K r) t < 0
  all : ∀ q, 1 ≤ q → q < n → l < G q → ordT (K q) t < 0 → r ≠ 0 ∧ (q = r ∨ ordT (K q) (K r) < 0)

/-- The first node that doesn't stand ahead of t. -/
structure Fst (n : Nat) (K : Nat → List Nat) (t : List Nat) (j : Nat) : Prop where
  lt : j < n
  ge : j ≠ 0 → ¬ ordT (K j) t < 0
  all : ∀ q, 1 ≤ q → q < n → ¬ ordT (K q) t < 0 → j ≠ 0 ∧ (q = j ∨ ordT (K j) (K q) < 0)

section
variable {n : Nat} {K : Nat → List Nat} {G : Nat → Nat} {X : Nat → Nat → Nat} {H : Nat} (h : Sk n K G X H)
include h

theorem at_stop {l i : Nat} {t : List Nat} (hl : l < 12) (hi : i < n) (hv : i = 0 ∨ l < G i) (ha : i = 0 ∨ ordT (K i) t < 0) (hj : X i l = 0 ∨ ¬ ordT (K (X i l)) t < 0) : At n K G l t i := by
  have hk := h.lk l i hl hi hv
  refine ⟨hi, hv, ha, fun q q1 q2 q3 q4 => ?_⟩
  have no : ¬ Bf K i q := fun hb => by
    obtain ⟨r1, r2⟩ := hk.all q q1 q2 q3 hb
    rcases hj with hj | hj
    · exact r1 hj
    · rcases r2 with r2 | r2
      · rw [← r2] at hj; exact hj q4
      · exact hj (ordT_trans r2 q4)
  have i0 : i ≠ 0 := fun e => no (.inl e)
  refine ⟨i0, ?_⟩
  rcases ordT_tri (K i) (K q) with q5 | q5 | q5
  · exact absurd (.inr q5) no
  · exact .inl (h.one q i q1 q2 (by omega) hi q5.symm)
  · exact .inr q5

theorem at_none {l : Nat} {t : List Nat} (hl : H ≤ l) : At n K G l t 0 :=
  ⟨h.pos, .inl rfl, .inl rfl, fun q q1 q2 q3 _ => by have := h.gr q q1 q2; omega⟩

theorem at_next {l r : Nat} {t : List Nat} (hl : l < 12) (ha : At n K G l t r) (h0 : X r l ≠ 0) : ¬ ordT (K (X r l)) t < 0 := by
  have hk := h.lk l r hl ha.lt ha.lv
  intro q
  obtain ⟨b1, b2⟩ := hk.bf h0
  obtain ⟨c1, c2⟩ := ha.all (X r l) (by omega) hk.lt b1 q
  rcases b2 with b2 | b2
  · exact c1 b2
  · rcases c2 with c2 | c2
    · rw [c2] at b2; exact ordT_irr _ b2
    · exact ordT_asym b2 c2

omit h in
theorem at_bf {l r q : Nat} {t : List Nat} (ha : At n K G l t r) (hq : ¬ ordT (K q) t < 0) : Bf K r q := by
  rcases ha.ah with q1 | q1
  · exact .inl q1
  · exact .inr (ordT_lt_of_not q1 hq)

theorem fst_of {t : List Nat} {r : Nat} (ha : At n K G 0 t r) : Fst n K t (X r 0) := by
  have hk := h.lk 0 r (by omega) ha.lt ha.lv
  exact ⟨hk.lt, at_next h (by omega) ha, fun q q1 q2 q3 => hk.all q q1 q2 (h.gr q q1 q2).1 (at_bf ha q3)⟩

/-- A new key put in behind those that stand ahead of it. -/
theorem sk_put {t : List Nat} {g : Nat} {a : Nat → Nat} (ht : ∀ i, 1 ≤ i → i < n → K i ≠ t) (hg : 1 ≤ g) (hg2 : g ≤ 12) (ha : ∀ l, l < 12 → At n K G l t (a l))
    {K' : Nat → List Nat} {G' : Nat → Nat} {X' : Nat → Nat → Nat} (k1 : K' n = t) (k2 : ∀ i, i < n → K' i = K i) (g1 : G' n = g) (g2 : ∀ i, i < n → G' i = G i)
    (x1 : ∀ l, l < g → X' n l = X (a l) l) (x2 : ∀ l, l < g → X' (a l) l = n) (x3 : ∀ i l, i < n → l < 12 → ¬ (l < g ∧ i = a l) → X' i l = X i l) : Sk (n + 1) K' G' X' (max H g) := by
  have hn := h.pos
  have bfo : ∀ i q, i < n → q < n → (Bf K' i q ↔ Bf K i q) := fun i q hi hq => by unfold Bf; rw [k2 i hi, k2 q hq]
  refine ⟨by omega, fun i h1 h2 => ?_, by have := h.top; omega, fun i j h1 h2 h3 h4 he => ?_, fun l i hl hi hv => ?_⟩
  · by_cases q : i = n
    · subst q; rw [g1]; omega
    · rw [g2 i (by omega)]; have := h.gr i h1 (by omega); omega
  · by_cases q : i = n
    · by_cases q2 : j = n
      · omega
      · rw [q, k1, k2 j (by omega)] at he
        exact absurd he.symm (ht j h3 (by omega))
    · by_cases q2 : j = n
      · rw [q2, k1, k2 i (by omega)] at he
        exact absurd he (ht i h1 (by omega))
      · rw [k2 i (by omega), k2 j (by omega)] at he
        exact h.one i j h1 (by omega) h3 (by omega) he
  · have hA := ha l hl
    have hkA := h.lk l (a l) hl hA.lt hA.lv
    by_cases q : i = n
    · subst q
      rw [g1] at hv
      have hlg : l < g := by omega
      rw [x1 l hlg]
      refine ⟨by have := hkA.lt; omega, fun j0 => ?_, fun q q1 q2 q3 q4 => ?_⟩
      · obtain ⟨b1, _⟩ := hkA.bf j0
        refine ⟨by rw [g2 _ hkA.lt]; exact b1, .inr ?_⟩
        rw [k1, k2 _ hkA.lt]
        rcases ordT_tri t (K (X (a l) l)) with c | c | c
        · exact c
        · exact absurd c.symm (ht _ (by omega) hkA.lt)
        · exact absurd c (at_next h hl hA j0)
      · have qn : q ≠ i := fun e => by
          subst e
          rcases q4 with q4 | q4
          · omega
          · rw [k1] at q4; exact ordT_irr _ q4
        have hq : q < i := by omega
        rw [g2 q hq] at q3
        have htq : ordT t (K q) < 0 := by
          rcases q4 with q4 | q4
          · omega
          · rw [k1, k2 q hq] at q4; exact q4
        obtain ⟨c1, c2⟩ := hkA.all q q1 hq q3 (at_bf hA (ordT_asym htq))
        exact ⟨c1, by rw [k2 _ hkA.lt, k2 q hq]; exact c2⟩
    · have hin : i < n := by omega
      rw [g2 i hin] at hv
      by_cases c : l < g ∧ i = a l
      · obtain ⟨hlg, ei⟩ := c
        rw [ei, x2 l hlg]
        rw [ei] at hin
        refine ⟨by omega, fun _ => ⟨by rw [g1]; exact hlg, ?_⟩, fun q q1 q2 q3 q4 => ⟨by omega, ?_⟩⟩
        · rcases hA.ah with d | d
          · exact .inl d
          · exact .inr (by rw [k1, k2 _ hin]; exact d)
        · by_cases qn : q = n
          · exact .inl qn
          · right
            have hq : q < n := by omega
            rw [k1, k2 q hq]
            rw [bfo _ _ hin hq] at q4
            rw [g2 q hq] at q3
            rcases ordT_tri t (K q) with e | e | e
            · exact e
            · exact absurd e.symm (ht q q1 hq)
            · obtain ⟨f1, f2⟩ := hA.all q q1 hq q3 e
              rcases q4 with q4 | q4
              · exact absurd q4 f1
              · rcases f2 with f2 | f2
                · rw [f2] at q4; exact absurd q4 (ordT_irr _)
                · exact absurd q4 (ordT_asym f2)
      · rw [x3 i l hin hl c]
        have hk := h.lk l i hl hin hv
        refine ⟨by have := hk.lt; omega, fun j0 => ?_, fun q q1 q2 q3 q4 => ?_⟩
        · obtain ⟨b1, b2⟩ := hk.bf j0
          exact ⟨by rw [g2 _ hk.lt]; exact b1, (bfo _ _ hin hk.lt).2 b2⟩
        · by_cases qn : q = n
          · subst qn
            rw [g1] at q3
            have hia : i ≠ a l := fun e => c ⟨q3, e⟩
            have hal : a l ≠ 0 ∧ Bf K i (a l) := by
              by_cases i0 : i = 0
              · exact ⟨by omega, .inl i0⟩
              · have hit : ordT (K i) t < 0 := by
                  rcases q4 with q4 | q4
                  · exact absurd q4 i0
                  · rw [k1, k2 i hin] at q4; exact q4
                obtain ⟨f1, f2⟩ := hA.all i (by omega) hin (by omega) hit
                rcases f2 with f2 | f2
                · exact absurd f2 hia
                · exact ⟨f1, .inr f2⟩
            have hlv : l < G (a l) := by rcases hA.lv with e | e; exact absurd e hal.1; exact e
            obtain ⟨f1, f2⟩ := hk.all (a l) (by omega) hA.lt hlv hal.2
            refine ⟨f1, .inr ?_⟩
            rw [k1, k2 _ hk.lt]
            have hat : ordT (K (a l)) t < 0 := by rcases hA.ah with e | e; exact absurd e hal.1; exact e
            rcases f2 with f2 | f2
            · rw [← f2]; exact hat
            · exact ordT_trans f2 hat
          · have hq : q < n := by omega
            rw [g2 q hq] at q3
            rw [bfo _ _ hin hq] at q4
            obtain ⟨f1, f2⟩ := hk.all q q1 hq q3 q4
            exact ⟨f1, by rw [k2 _ hk.lt, k2 q hq]; exact f2⟩
end

/-- A list of one node alone. -/
theorem sk_new (K : Nat → List Nat) (G : Nat → Nat) (X : Nat → Nat → Nat) (hX : ∀ l, X 0 l = 0) : Sk 1 K G X 0 :=
  ⟨by omega, fun i h1 h2 => by omega, by omega, fun i j h1 h2 h3 h4 => by omega, fun l i _ hi _ => by
    have : i = 0 := by omega
    subst this
    rw [hX]
    exact ⟨by omega, fun q => absurd rfl q, fun q q1 q2 => by omega⟩⟩

/-- How many nodes stand behind node i. -/
def restN (n : Nat) (K : Nat → List Nat) (i : Nat) : Nat := ((List.range n).filter fun q => decide (1 ≤ q) && (decide (i = 0) || decide (ordT (K i) (K q) < 0))).length

theorem filter_lt {p q : Nat → Bool} : ∀ {L : List Nat} {x : Nat}, (∀ y, p y = true → q y = true) → x ∈ L → p x = false → q x = true → (L.filter p).length < (L.filter q).length
  | y :: r, x, hpq, hx, h1, h2 => by
    have hle : ∀ L : List Nat, (L.filter p).length ≤ (L.filter q).length := by
      intro L
      induction L with
      | nil => exact Nat.le_refl _
      | cons z s ih =>
        rw [List.filter_cons, List.filter_cons]
        by_cases e : p z = true
        · rw [if_pos e, if_pos (hpq z e)]; simp; exact ih
        · rw [if_neg e]
          split
          · simp; omega
          · exact ih
    rw [List.filter_cons, List.filter_cons]
    rcases List.mem_cons.1 hx with rfl | hx
    · rw [if_neg (by rw [h1]; decide), if_pos h2]
      have := hle r
      simp; omega
    · have ih := filter_lt (L := r) hpq hx h1 h2
      by_cases e : p y = true
      · rw [if_pos e, if_pos (hpq y e)]; simp; exact ih
      · rw [if_neg e]
        split
        · simp; omega
        · exact ih

theorem rest_lt {n : Nat} {K : Nat → List Nat} {i j : Nat} (hj : j < n) (j0 : j ≠ 0) (hb : Bf K i j) : restN n K j < restN n K i := by
  refine filter_lt (x := j) ?_ (List.mem_range.2 hj) ?_ ?_
  · intro y hy
    simp only [Bool.and_eq_true, Bool.or_eq_true, decide_eq_true_eq] at hy ⊢
    obtain ⟨h1, h2⟩ := hy
    refine ⟨h1, ?_⟩
    rcases h2 with h2 | h2
    · exact absurd h2 j0
    · rcases hb with hb | hb
      · exact .inl hb
      · exact .inr (ordT_trans hb h2)
  · simp [j0, ordT_self]
  · simp only [Bool.and_eq_true, Bool.or_eq_true, decide_eq_true_eq]
    exact ⟨by omega, hb⟩

end Go.Proofs.Ytkmnhapeohlooaa
