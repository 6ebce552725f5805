/-
  Layer 10's mathematics: the unlike texts in order, and each text's place.
-/
import Derived.Test.YtkmnhapeohlooaaM11m
namespace Go.Proofs.Ytkmnhapeohlooaa

theorem ordT_self : ∀ a : List Nat, ordT a a = 0
  | [] => rfl
  | x :: r => by rw [ordT, if_neg (Nat.lt_irrefl _), if_neg (Nat.lt_irrefl _)]; exact ordT_self r
theorem ordT_zero : ∀ {a b : List Nat}, ordT a b = 0 → a = b
  | [], [], _ => rfl
  | [], _ :: _, h => by rw [ordT] at h; exact absurd h (by decide)
  | _ :: _, [], h => by rw [ordT] at h; exact absurd h (by decide)
  | x :: r, y :: s, h => by
    rw [ordT] at h
    split at h
    · exact absurd h (by decide)
    · split at h
      · exact absurd h (by decide)
      · rw [ordT_zero h, show x = y by omega]
theorem ordT_swap : ∀ a b : List Nat, ordT b a = - ordT a b
  | [], [] => rfl
  | [], _ :: _ => rfl
  | _ :: _, [] => rfl
  | x :: r, y :: s => by
    rw [ordT, ordT]
    rcases Nat.lt_trichotomy x y with h | h | h
    · rw [if_neg (by omega), if_pos h, if_pos h]; rfl
    · subst h; rw [if_neg (Nat.lt_irrefl _), if_neg (Nat.lt_irrefl _), if_neg (Nat.lt_irrefl _), if_neg (Nat.lt_irrefl _)]; exact ordT_swap r s
    · rw [if_pos h, if_neg (by omega), if_pos h]
theorem ordT_trans : ∀ {a b c : List Nat}, ordT a b < 0 → ordT b c < 0 → ordT a c < 0
  | [], [], _, h, _ => by rw [ordT] at h; exact absurd h (by decide)
  | [], _ :: _, [], _, h => by rw [ordT] at h; exact absurd h (by decide)
  | [], _ :: _, _ :: _, _, _ => by rw [ordT]; decide
  | _ :: _, [], _, h, _ => by rw [ordT] at h; exact absurd h (by decide)
  | _ :: _, _ :: _, [], _, h => by rw [ordT] at h; exact absurd h (by decide)
  | x :: r, y :: s, z :: t, h1, h2 => by
    rw [ordT] at h1 h2 ⊢
    rcases Nat.lt_trichotomy x y with h | h | h
    · rcases Nat.lt_trichotomy y z with k | k | k
      · rw [if_pos (by omega)]; decide
      · rw [if_pos (by omega)]; decide
      · rw [if_neg (by omega), if_pos k] at h2; exact absurd h2 (by decide)
    · rw [if_neg (by omega), if_neg (by omega)] at h1
      rcases Nat.lt_trichotomy y z with k | k | k
      · rw [if_pos (by omega)]; decide
      · rw [if_neg (by omega), if_neg (by omega)] at h2
        rw [if_neg (by omega), if_neg (by omega)]
        exact ordT_trans h1 h2
      · rw [if_neg (by omega), if_pos k] at h2; exact absurd h2 (by decide)
    · rw [if_neg (by omega), if_pos h] at h1; exact absurd h1 (by decide)

/-- Texts in order, each unlike the next. -/
def Asc (L : List (List Nat)) : Prop := L.Pairwise fun a b => ordT a b < 0

theorem skN_le (t : List Nat) : ∀ L : List (List Nat), skN t L ≤ L.length
  | [] => Nat.le_refl _
  | s :: r => by
    have := skN_le t r
    unfold skN
    split <;> simp <;> omega
theorem skN_lt {t : List Nat} : ∀ {L : List (List Nat)} {i : Nat} {x : List Nat}, i < skN t L → L[i]? = some x → ordT x t < 0
  | [], i, x, h, _ => by simp [skN] at h
  | s :: r, i, x, h, hx => by
    unfold skN at h
    split at h
    · rename_i hs
      cases i with
      | zero => simp at hx; subst hx; exact hs
      | succ i => exact skN_lt (L := r) (i := i) (by omega) (by simpa using hx)
    · omega
theorem skN_ge {t : List Nat} : ∀ {L : List (List Nat)} {i : Nat} {x : List Nat}, Asc L → skN t L ≤ i → L[i]? = some x → 0 ≤ ordT x t
  | [], i, x, _, _, hx => by simp at hx
  | s :: r, i, x, ha, h, hx => by
    obtain ⟨h1, h2⟩ := List.pairwise_cons.1 ha
    unfold skN at h
    split at h
    · cases i with
      | zero => omega
      | succ i => exact skN_ge (L := r) (i := i) h2 (by omega) (by simpa using hx)
    · rename_i hs
      cases i with
      | zero => simp at hx; subst hx; omega
      | succ i =>
        have hm : x ∈ r := List.mem_of_getElem? (by simpa using hx)
        have h3 := h1 x hm
        rcases Int.lt_or_le (ordT x t) 0 with h4 | h4
        · exact absurd (ordT_trans h3 h4) (by omega)
        · exact h4
/-- The place of a text that is there. -/
theorem skN_at {t : List Nat} {L : List (List Nat)} (ha : Asc L) (ht : t ∈ L) : L[skN t L]? = some t := by
  obtain ⟨i, hi⟩ := List.getElem?_of_mem ht
  have hil : i < L.length := (List.getElem?_eq_some_iff.1 hi).1
  rcases Nat.lt_trichotomy i (skN t L) with h | h | h
  · have := skN_lt h hi
    rw [ordT_self] at this
    omega
  · rw [← h]; exact hi
  · obtain ⟨x, hx⟩ : ∃ x, L[skN t L]? = some x := ⟨_, List.getElem?_eq_getElem (by omega)⟩
    have h1 := skN_ge ha (Nat.le_refl _) hx
    have h2 : ordT x t < 0 := by
      obtain ⟨q1, rfl⟩ := List.getElem?_eq_some_iff.1 hx
      obtain ⟨q2, rfl⟩ := List.getElem?_eq_some_iff.1 hi
      exact List.pairwise_iff_getElem.1 ha _ _ q1 q2 h
    omega
theorem skN_notMem {t : List Nat} {L : List (List Nat)} (h : L[skN t L]? ≠ some t) (ha : Asc L) : ¬ t ∈ L := fun ht => h (skN_at ha ht)

/-- The texts and t, if it isn't among them. -/
def insL (L : List (List Nat)) (t : List Nat) : List (List Nat) := if L[skN t L]? = some t then L else L.take (skN t L) ++ t :: L.drop (skN t L)
theorem insL_yes {L : List (List Nat)} {t : List Nat} (h : L[skN t L]? = some t) : insL L t = L := if_pos h
theorem insL_no {L : List (List Nat)} {t : List Nat} (h : ¬ L[skN t L]? = some t) : insL L t = L.take (skN t L) ++ t :: L.drop (skN t L) := if_neg h
theorem insL_mem {L : List (List Nat)} {t x : List Nat} : x ∈ insL L t ↔ x ∈ L ∨ x = t := by
  by_cases h : L[skN t L]? = some t
  · rw [insL_yes h]
    constructor
    · exact .inl
    · rintro (h1 | rfl)
      · exact h1
      · exact List.mem_of_getElem? h
  · rw [insL_no h]
    have e : x ∈ L ↔ x ∈ L.take (skN t L) ∨ x ∈ L.drop (skN t L) := by
      rw [← List.mem_append, List.take_append_drop]
    simp only [List.mem_append, List.mem_cons, e]
    constructor
    · rintro (h1 | h1 | h1)
      · exact .inl (.inl h1)
      · exact .inr h1
      · exact .inl (.inr h1)
    · rintro ((h1 | h1) | h1)
      · exact .inl h1
      · exact .inr (.inr h1)
      · exact .inr (.inl h1)
theorem insL_asc {L : List (List Nat)} {t : List Nat} (ha : Asc L) : Asc (insL L t) := by
  by_cases h : L[skN t L]? = some t
  · rw [insL_yes h]; exact ha
  · rw [insL_no h]
    have hp : Asc (L.take (skN t L) ++ L.drop (skN t L)) := by rw [List.take_append_drop]; exact ha
    obtain ⟨h1, h2, h3⟩ := List.pairwise_append.1 hp
    have hlt : ∀ x ∈ L.take (skN t L), ordT x t < 0 := by
      intro x hx
      obtain ⟨i, hi⟩ := List.getElem?_of_mem hx
      rw [List.getElem?_take] at hi
      split at hi
      · rename_i hi2; exact skN_lt hi2 hi
      · cases hi
    have hgt : ∀ x ∈ L.drop (skN t L), ordT t x < 0 := by
      intro x hx
      obtain ⟨i, hi⟩ := List.getElem?_of_mem hx
      rw [List.getElem?_drop] at hi
      have h4 := skN_ge ha (Nat.le_add_right _ _) hi
      have h5 : ordT x t ≠ 0 := by
        intro e
        obtain rfl := ordT_zero e
        exact skN_notMem h ha (List.mem_of_getElem? hi)
      rw [ordT_swap x t]
      omega
    refine List.pairwise_append.2 ⟨h1, List.pairwise_cons.2 ⟨hgt, h2⟩, ?_⟩
    intro x hx y hy
    rcases List.mem_cons.1 hy with rfl | hy
    · exact hlt x hx
    · exact h3 x hx y hy

/-- The unlike texts in order. -/
def dents (ss : List (List Nat)) : List (List Nat) := ss.foldl insL []
theorem dents_snoc (ss : List (List Nat)) (t : List Nat) : dents (ss ++ [t]) = insL (dents ss) t := by simp [dents, List.foldl_append]
theorem dents_step {ss : List (List Nat)} {j : Nat} {t : List Nat} (h : ss[j]? = some t) : dents (ss.take (j + 1)) = insL (dents (ss.take j)) t := by
  obtain ⟨h1, rfl⟩ := List.getElem?_eq_some_iff.1 h
  rw [List.take_succ_eq_append_getElem h1, dents_snoc]
theorem foldl_ins : ∀ (ss L : List (List Nat)), Asc L → Asc (ss.foldl insL L) ∧ ∀ x, x ∈ ss.foldl insL L ↔ x ∈ L ∨ x ∈ ss
  | [], L, h => ⟨h, fun x => by simp⟩
  | t :: r, L, h => by
    obtain ⟨h1, h2⟩ := foldl_ins r (insL L t) (insL_asc h)
    refine ⟨h1, fun x => ?_⟩
    rw [List.foldl_cons, h2, insL_mem, List.mem_cons]
    constructor
    · rintro ((h | h) | h)
      · exact .inl h
      · exact .inr (.inl h)
      · exact .inr (.inr h)
    · rintro (h | h | h)
      · exact .inl (.inl h)
      · exact .inl (.inr h)
      · exact .inr h
theorem dents_asc (ss : List (List Nat)) : Asc (dents ss) := (foldl_ins ss [] List.Pairwise.nil).1
theorem dents_mem {ss : List (List Nat)} {x : List Nat} : x ∈ dents ss ↔ x ∈ ss := by rw [dents, (foldl_ins ss [] List.Pairwise.nil).2 x]; simp
theorem insL_len (L : List (List Nat)) (t : List Nat) : (insL L t).length ≤ L.length + 1 := by
  by_cases h : L[skN t L]? = some t
  · rw [insL_yes h]; omega
  · rw [insL_no h]; simp; omega
theorem dents_len : ∀ (n : Nat) (ss : List (List Nat)), ss.length = n → (dents ss).length ≤ n
  | 0, ss, h => by rw [List.eq_nil_of_length_eq_zero h]; simp [dents]
  | n + 1, ss, h => by
    have hl : n < ss.length := by omega
    have h1 := dents_len n (ss.take n) (by simp; omega)
    have h2 := insL_len (dents (ss.take n)) ss[n]
    rw [← dents_step (List.getElem?_eq_getElem hl), List.take_of_length_le (by omega)] at h2
    omega

/-- Texts in order with the same members are the same. -/
theorem Asc.ext : ∀ {L M : List (List Nat)}, Asc L → Asc M → (∀ x, x ∈ L ↔ x ∈ M) → L = M
  | [], [], _, _, _ => rfl
  | [], y :: s, _, _, h => absurd ((h y).2 (by simp)) (by simp)
  | x :: r, [], _, _, h => absurd ((h x).1 (by simp)) (by simp)
  | x :: r, y :: s, h1, h2, h => by
    obtain ⟨a1, a2⟩ := List.pairwise_cons.1 h1
    obtain ⟨b1, b2⟩ := List.pairwise_cons.1 h2
    have hself : ∀ z : List Nat, ¬ ordT z z < 0 := fun z => by rw [ordT_self]; omega
    have e : x = y := by
      rcases List.mem_cons.1 ((h x).1 (by simp)) with e | hx
      · exact e
      · rcases List.mem_cons.1 ((h y).2 (by simp)) with e | hy
        · exact e.symm
        · exact absurd (ordT_trans (a1 y hy) (b1 x hx)) (hself x)
    subst e
    congr 1
    refine Asc.ext a2 b2 fun z => ⟨fun hz => ?_, fun hz => ?_⟩
    · rcases List.mem_cons.1 ((h z).1 (List.mem_cons_of_mem _ hz)) with e | hz2
      · subst e; exact absurd (a1 z hz) (hself z)
      · exact hz2
    · rcases List.mem_cons.1 ((h z).2 (List.mem_cons_of_mem _ hz)) with e | hz2
      · subst e; exact absurd (b1 z hz) (hself z)
      · exact hz2

theorem anyLong_snoc {ss : List (List Nat)} {t : List Nat} (h : anyLong ss = false) (ht : t.length ≤ 200) : anyLong (ss ++ [t]) = false := by
  have h2 : anyLong [t] = false := by simp [anyLong]; omega
  unfold anyLong at h h2 ⊢
  rw [List.any_append, h, h2]; rfl
theorem dents_short {ss : List (List Nat)} (h : anyLong ss = false) : ∀ x ∈ dents ss, x.length ≤ 200 := fun x hx => anyLong_no h x (dents_mem.1 hx)

/-- What Index answers: the entries, the numbers, the error's number. -/
def idxR (ss : List (List Nat)) : List (List Nat) × List Nat × Int := if 4096 < ss.length ∨ anyLong ss = true then ([], [], 4) else (dents ss, ss.map (fun s => skN s (dents ss)), 0)
theorem idxR_bad {ss : List (List Nat)} (h : 4096 < ss.length ∨ anyLong ss = true) : idxR ss = ([], [], 4) := if_pos h
theorem idxR_good {ss : List (List Nat)} (h : ss.length ≤ 4096) (h2 : anyLong ss = false) : idxR ss = (dents ss, ss.map (fun s => skN s (dents ss)), 0) := if_neg (fun q => by
  rcases q with q | q
  · omega
  · rw [h2] at q; cases q)

end Go.Proofs.Ytkmnhapeohlooaa
