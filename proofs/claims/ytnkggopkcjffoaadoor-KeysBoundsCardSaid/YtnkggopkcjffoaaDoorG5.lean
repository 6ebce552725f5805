import Derived.Test.YtnkggopkcjffoaaDoorG4
import Derived.Test.YtnkggopkcjffoaaDoorG2
import Derived.BigQuiet

/-
  Plain mathematics of layer 7: keys as bytes.
-/
namespace Go.Proofs.YtnkggopkcjffoaaDoor
open Go.RowKit

/-- The bytes of a number of a kind. -/
def ksize (k : Int) : Nat := if k = 1 ∨ k = 6 then 1 else if k = 2 ∨ k = 5 then 2 else if k = 3 then 4 else 8

/-- s bytes, the highest first. -/
def be : Nat → Nat → List Nat
  | 0, _ => []
  | s + 1, u => be s (u / 256) ++ [u % 256]
theorem be_len : ∀ (s u : Nat), (be s u).length = s
  | 0, _ => rfl
  | s + 1, u => by rw [be, List.length_append, be_len]; rfl
theorem be_u8 : ∀ (s u : Nat), U8 (be s u)
  | 0, _ => by intro v hv; cases hv
  | s + 1, u => by
    intro v hv
    rcases List.mem_append.1 hv with h | h
    · exact be_u8 s _ v h
    · rw [List.mem_singleton.1 h]
      exact Nat.mod_lt _ (by decide)
/-- The number of bytes, the highest first, behind a number. -/
def bval : List Nat → Nat → Nat
  | [], u => u
  | x :: r, u => bval r (u * 256 + x)
theorem bval_append : ∀ (xs ys : List Nat) (u : Nat), bval (xs ++ ys) u = bval ys (bval xs u)
  | [], _, _ => rfl
  | _x :: r, ys, _u => bval_append r ys _
theorem bval_be : ∀ (s u a : Nat), u < 256 ^ s → bval (be s u) a = a * 256 ^ s + u
  | 0, u, a, h => by simp at h; subst h; simp [be, bval]
  | s + 1, u, a, h => by
    rw [Nat.pow_succ] at h
    rw [be, bval_append, bval_be s (u / 256) a (by omega)]
    show (a * 256 ^ s + u / 256) * 256 + u % 256 = _
    rw [Nat.pow_succ, Nat.add_mul, Nat.mul_assoc]
    omega
theorem be_bval : ∀ (s : Nat) (l : List Nat) (a : Nat), l.length = s → U8 l → be s (bval l a) = l := by
  intro s
  induction s with
  | zero => intro l a hl _; rw [List.eq_nil_of_length_eq_zero hl]; rfl
  | succ s ih =>
    intro l a hl hu
    obtain ⟨m, x, rfl⟩ : ∃ m x, l = m ++ [x] := ⟨l.dropLast, l.getLast (by intro e; subst e; simp at hl), (List.dropLast_concat_getLast _).symm⟩
    have hx : x < 256 := hu x (by simp)
    rw [bval_append]
    show be (s + 1) (bval m a * 256 + x) = _
    rw [be, show (bval m a * 256 + x) / 256 = bval m a by omega, show (bval m a * 256 + x) % 256 = x by omega, ih m a (by simpa using hl) (fun v hv => hu v (by simp [hv]))]
theorem bval_lt : ∀ (l : List Nat) (a : Nat), U8 l → bval l a < (a + 1) * 256 ^ l.length
  | [], a, _ => by simp [bval]
  | x :: r, a, h => by
    have hx : x < 256 := h x List.mem_cons_self
    have := bval_lt r (a * 256 + x) (fun v hv => h v (List.mem_cons_of_mem _ hv))
    rw [bval, List.length_cons, Nat.pow_succ]
    refine Nat.lt_of_lt_of_le this ?_
    rw [Nat.mul_comm (256 ^ r.length) 256, ← Nat.mul_assoc]
    exact Nat.mul_le_mul_right _ (by omega)

theorem ord_self_append : ∀ (l xs ys : List Nat), ordT (l ++ xs) (l ++ ys) = ordT xs ys
  | [], _, _ => rfl
  | x :: r, xs, ys => by
    rw [List.cons_append, List.cons_append, ordT_eq rfl]
    exact ord_self_append r xs ys
theorem ord_be : ∀ (s u v : Nat) (xs ys : List Nat), u < 256 ^ s → v < 256 ^ s → ordT (be s u ++ xs) (be s v ++ ys) = if u < v then -1 else if v < u then 1 else ordT xs ys
  | 0, u, v, xs, ys, h, h2 => by simp at h h2; subst h h2; simp [be]
  | s + 1, u, v, xs, ys, h, h2 => by
    rw [Nat.pow_succ] at h h2
    rw [be, be, List.append_assoc, List.append_assoc, ord_be s (u / 256) (v / 256) _ _ (by omega) (by omega)]
    show (if u / 256 < v / 256 then -1 else if v / 256 < u / 256 then 1 else if u % 256 < v % 256 then -1 else if v % 256 < u % 256 then 1 else ordT xs ys) = _
    by_cases q1 : u < v
    · rw [if_pos q1]
      by_cases q2 : u / 256 < v / 256
      · rw [if_pos q2]
      · rw [if_neg q2, if_neg (by omega), if_pos (by omega)]
    · rw [if_neg q1]
      by_cases q3 : v < u
      · rw [if_pos q3, if_neg (by omega)]
        by_cases q2 : v / 256 < u / 256
        · rw [if_pos q2]
        · rw [if_neg q2, if_neg (by omega), if_pos (by omega)]
      · rw [if_neg q3, if_neg (by omega), if_neg (by omega), if_neg (by omega), if_neg (by omega)]

theorem ord_txt : ∀ (a b xs ys : List Nat), ¬ 0 ∈ a → ¬ 0 ∈ b → ordT (a ++ 0 :: xs) (b ++ 0 :: ys) = if ordT a b ≠ 0 then ordT a b else ordT xs ys
  | [], [], xs, ys, _, _ => by simp [ordT]
  | [], y :: s, xs, ys, _, hb => by
    have hy : 0 < y := Nat.pos_of_ne_zero (fun e => hb (by simp [e]))
    show (if 0 < y then (-1 : Int) else if y < 0 then 1 else ordT xs (s ++ 0 :: ys)) = if ordT [] (y :: s) ≠ 0 then _ else _
    rw [if_pos hy, ordT_nil_cons, if_pos (by decide)]
  | x :: r, [], xs, ys, ha, _ => by
    have hx : 0 < x := Nat.pos_of_ne_zero (fun e => ha (by simp [e]))
    show (if x < 0 then (-1 : Int) else if 0 < x then 1 else ordT (r ++ 0 :: xs) ys) = if ordT (x :: r) [] ≠ 0 then _ else _
    rw [if_neg (by omega), if_pos hx, ordT_cons_nil, if_pos (by decide)]
  | x :: r, y :: s, xs, ys, ha, hb => by
    have ih := ord_txt r s xs ys (fun h => ha (List.mem_cons_of_mem _ h)) (fun h => hb (List.mem_cons_of_mem _ h))
    show (if x < y then (-1 : Int) else if y < x then 1 else ordT (r ++ 0 :: xs) (s ++ 0 :: ys)) = if ordT (x :: r) (y :: s) ≠ 0 then _ else _
    rcases Nat.lt_trichotomy x y with h | h | h
    · rw [if_pos h, ordT_lt h, if_pos (by decide)]
    · rw [if_neg (by omega), if_neg (by omega), ih, ordT_eq h]
    · rw [if_neg (by omega), if_pos h, ordT_gt h, if_pos (by decide)]

def esc : List Nat → List Nat
  | [] => []
  | x :: r => if x = 0 then 0 :: 255 :: esc r else x :: esc r
theorem esc_zero (r : List Nat) : esc (0 :: r) = 0 :: 255 :: esc r := rfl
theorem esc_pos {x : Nat} (r : List Nat) (h : x ≠ 0) : esc (x :: r) = x :: esc r := if_neg h
theorem esc_append : ∀ (a b : List Nat), esc (a ++ b) = esc a ++ esc b
  | [], _ => rfl
  | x :: r, b => by
    rw [List.cons_append]
    by_cases h : x = 0
    · subst h; rw [esc_zero, esc_zero, esc_append r b]; rfl
    · rw [esc_pos _ h, esc_pos _ h, esc_append r b]; rfl
theorem esc_len : ∀ (a : List Nat), (esc a).length ≤ 2 * a.length
  | [] => Nat.le_refl _
  | x :: r => by
    have := esc_len r
    by_cases h : x = 0
    · subst h; rw [esc_zero]; simp only [List.length_cons]; omega
    · rw [esc_pos _ h]; simp only [List.length_cons]; omega
theorem esc_u8 : ∀ {a : List Nat}, U8 a → U8 (esc a)
  | [], _ => by intro v hv; cases hv
  | x :: r, h => by
    have ih := esc_u8 (fun v hv => h v (List.mem_cons_of_mem _ hv) : U8 r)
    intro v hv
    by_cases q : x = 0
    · subst q
      rw [esc_zero] at hv
      rcases List.mem_cons.1 hv with rfl | hv
      · decide
      · rcases List.mem_cons.1 hv with rfl | hv
        · decide
        · exact ih v hv
    · rw [esc_pos _ q] at hv
      rcases List.mem_cons.1 hv with rfl | hv
      · exact h _ List.mem_cons_self
      · exact ih v hv
theorem ord_esc : ∀ (a b xs ys : List Nat), ordT (esc a ++ 0 :: 0 :: xs) (esc b ++ 0 :: 0 :: ys) = if ordT a b ≠ 0 then ordT a b else ordT xs ys
  | [], [], xs, ys => by simp [esc, ordT]
  | [], y :: s, xs, ys => by
    rw [ordT_nil_cons, if_pos (by decide)]
    by_cases h : y = 0
    · subst h
      rw [esc_zero]
      show ordT (0 :: 0 :: xs) (0 :: 255 :: (esc s ++ 0 :: 0 :: ys)) = -1
      rw [ordT_eq rfl, ordT_lt (by decide)]
    · rw [esc_pos _ h]
      show ordT (0 :: 0 :: xs) (y :: (esc s ++ 0 :: 0 :: ys)) = -1
      rw [ordT_lt (Nat.pos_of_ne_zero h)]
  | x :: r, [], xs, ys => by
    rw [ordT_cons_nil, if_pos (by decide)]
    by_cases h : x = 0
    · subst h
      rw [esc_zero]
      show ordT (0 :: 255 :: (esc r ++ 0 :: 0 :: xs)) (0 :: 0 :: ys) = 1
      rw [ordT_eq rfl, ordT_gt (by decide)]
    · rw [esc_pos _ h]
      show ordT (x :: (esc r ++ 0 :: 0 :: xs)) (0 :: 0 :: ys) = 1
      rw [ordT_gt (Nat.pos_of_ne_zero h)]
  | x :: r, y :: s, xs, ys => by
    have ih := ord_esc r s xs ys
    by_cases hx : x = 0
    · subst hx
      rw [esc_zero]
      by_cases hy : y = 0
      · subst hy
        rw [esc_zero, ordT_eq rfl]
        show ordT (0 :: 255 :: (esc r ++ 0 :: 0 :: xs)) (0 :: 255 :: (esc s ++ 0 :: 0 :: ys)) = _
        rw [ordT_eq rfl, ordT_eq rfl, ih]
      · rw [esc_pos _ hy, ordT_lt (Nat.pos_of_ne_zero hy), if_pos (by decide)]
        show ordT (0 :: 255 :: (esc r ++ 0 :: 0 :: xs)) (y :: (esc s ++ 0 :: 0 :: ys)) = -1
        rw [ordT_lt (Nat.pos_of_ne_zero hy)]
    · rw [esc_pos _ hx]
      by_cases hy : y = 0
      · subst hy
        rw [esc_zero, ordT_gt (Nat.pos_of_ne_zero hx), if_pos (by decide)]
        show ordT (x :: (esc r ++ 0 :: 0 :: xs)) (0 :: 255 :: (esc s ++ 0 :: 0 :: ys)) = 1
        rw [ordT_gt (Nat.pos_of_ne_zero hx)]
      · rw [esc_pos _ hy]
        show ordT (x :: (esc r ++ 0 :: 0 :: xs)) (y :: (esc s ++ 0 :: 0 :: ys)) = _
        rcases Nat.lt_trichotomy x y with h | h | h
        · rw [ordT_lt h, ordT_lt h, if_pos (by decide)]
        · rw [ordT_eq h, ordT_eq h, ih]
        · rw [ordT_gt h, ordT_gt h, if_pos (by decide)]

/-- A key's cell as bytes. -/
def kput (k num : Int) (txt : List Nat) : List Nat := if k ≤ 6 then be (ksize k) (num - least k).toNat else if k = 7 then txt ++ [0] else esc txt ++ [0, 0]
theorem knum_lt {k num : Int} (hk : 1 ≤ k ∧ k ≤ 6) (h1 : least k ≤ num) (h2 : num ≤ great k) : (num - least k).toNat < 256 ^ ksize k := by
  obtain rfl | rfl | rfl | rfl | rfl | rfl : k = 1 ∨ k = 2 ∨ k = 3 ∨ k = 4 ∨ k = 5 ∨ k = 6 := by omega
  all_goals
    simp [least, great, ksize] at h1 h2 ⊢
    omega
theorem kput_u8 {k num : Int} {txt : List Nat} (hu : U8 txt) : U8 (kput k num txt) := by
  unfold kput
  split
  · exact be_u8 _ _
  · split
    · intro v hv
      rcases List.mem_append.1 hv with h | h
      · exact hu v h
      · rw [List.mem_singleton.1 h]; decide
    · intro v hv
      rcases List.mem_append.1 hv with h | h
      · exact esc_u8 hu v h
      · simp at h; subst h; decide
theorem ksize_le (k : Int) : 1 ≤ ksize k ∧ ksize k ≤ 8 := by unfold ksize; split <;> (try split) <;> (try split) <;> omega
theorem kput_len {k num : Int} {txt : List Nat} (h : txt.length ≤ 200) : 1 ≤ (kput k num txt).length ∧ (kput k num txt).length ≤ 402 := by
  unfold kput
  split
  · rw [be_len]; have := ksize_le k; omega
  · split
    · simp; omega
    · have := esc_len txt; simp; omega

def rnkV (v u : CV) : Int := rnk v.1 v.2.1 v.2.2 u.1 u.2.1 u.2.2
/-- A cell of a key. -/
def kok (c : Col) (v : CV) : Prop := v.1 = false ∧ chk c.kind false false v.2.1 v.2.2 = 0
def kputV (c : Col) (v : CV) : List Nat := kput c.kind v.2.1 v.2.2
theorem ord_kput {c : Col} {v u : CV} (hv : kok c v) (hu : kok c u) (xs ys : List Nat) : ordT (kputV c v ++ xs) (kputV c u ++ ys) = if rnkV v u ≠ 0 then rnkV v u else ordT xs ys := by
  obtain ⟨vn, vi, vt⟩ := v
  obtain ⟨un, ui, ut⟩ := u
  obtain ⟨e1, h1⟩ := hv
  obtain ⟨e2, h2⟩ := hu
  simp only at e1 e2 h1 h2
  subst e1 e2
  unfold rnkV kputV kput
  simp only
  rw [rnk_ff]
  have hk := chk_kind h1
  by_cases h6 : c.kind ≤ 6
  · obtain ⟨rfl, l1, g1⟩ := chk_num0 ⟨hk.1, h6⟩ h1
    obtain ⟨rfl, l2, g2⟩ := chk_num0 ⟨hk.1, h6⟩ h2
    rw [if_pos h6, if_pos h6, ord_be _ _ _ _ _ (knum_lt ⟨hk.1, h6⟩ l1 g1) (knum_lt ⟨hk.1, h6⟩ l2 g2)]
    rcases Int.lt_trichotomy vi ui with h | h | h
    · have q : (vi - least c.kind).toNat < (ui - least c.kind).toNat := by omega
      simp [q, h]
    · subst h
      simp [ordT]
    · have q1 : ¬ (vi - least c.kind).toNat < (ui - least c.kind).toNat := by omega
      have q2 : (ui - least c.kind).toNat < (vi - least c.kind).toNat := by omega
      have q3 : ¬ vi < ui := by omega
      simp [q1, q2, q3, h]
  · obtain ⟨rfl, _, z1⟩ := chk_txt0 (show c.kind = 7 ∨ c.kind = 8 by omega) h1
    obtain ⟨rfl, _, z2⟩ := chk_txt0 (show c.kind = 7 ∨ c.kind = 8 by omega) h2
    rw [if_neg h6, if_neg h6, show (if (0 : Int) < 0 then (-1 : Int) else if (0 : Int) < 0 then 1 else ordT vt ut) = ordT vt ut from by simp]
    by_cases h7 : c.kind = 7
    · rw [if_pos h7, if_pos h7, List.append_assoc, List.append_assoc]
      exact ord_txt vt ut xs ys (z1 h7) (z2 h7)
    · rw [if_neg h7, if_neg h7, List.append_assoc, List.append_assoc]
      exact ord_esc vt ut xs ys
theorem rnk_eq {c : Col} {v u : CV} (hv : kok c v) (hu : kok c u) : rnkV v u = 0 ↔ v = u := by
  obtain ⟨vn, vi, vt⟩ := v
  obtain ⟨un, ui, ut⟩ := u
  obtain ⟨e1, h1⟩ := hv
  obtain ⟨e2, h2⟩ := hu
  simp only at e1 e2 h1 h2
  subst e1 e2
  unfold rnkV
  simp only
  rw [rnk_ff]
  have ho : ∀ a b : List Nat, ordT a b = 0 ↔ a = b := by
    intro a
    induction a with
    | nil => intro b; cases b <;> simp [ordT]
    | cons x r ih =>
      intro b
      cases b with
      | nil => simp [ordT]
      | cons y s =>
        rw [ordT]
        rcases Nat.lt_trichotomy x y with h | h | h
        · rw [if_pos h]; simp; omega
        · rw [if_neg (by omega), if_neg (by omega), ih s]; simp [h]
        · rw [if_neg (by omega), if_pos h]; simp; omega
  rcases Int.lt_trichotomy vi ui with h | h | h
  · rw [if_pos h]; simp; omega
  · rw [if_neg (by omega), if_neg (by omega), ho]; simp [h]
  · rw [if_neg (by omega), if_pos h]; simp; omega

/-- A key's cells as bytes. -/
def keyB : List Col → List CV → List Nat
  | c :: r, v :: s => kputV c v ++ keyB r s
  | _, _ => []
def koks (cs : List Col) (vs : List CV) : Prop := ∀ (j : Nat) (c : Col) (v : CV), cs[j]? = some c → vs[j]? = some v → kok c v
theorem koks_cons {c : Col} {r : List Col} {v : CV} {s : List CV} (h : koks (c :: r) (v :: s)) : kok c v ∧ koks r s :=
  ⟨h 0 c v rfl rfl, fun j d u hd hu => h (j + 1) d u (by simpa using hd) (by simpa using hu)⟩
theorem keyB_step : ∀ {cs : List Col} {vs : List CV} {j : Nat} {c : Col} {v : CV}, cs[j]? = some c → vs[j]? = some v → keyB cs (vs.take (j + 1)) = keyB cs (vs.take j) ++ kputV c v
  | [], _, j, c, v, hc, _ => by simp at hc
  | d :: r, [], j, c, v, _, hv => by simp at hv
  | d :: r, u :: s, 0, c, v, hc, hv => by
    simp at hc hv
    subst hc hv
    simp [keyB]
  | d :: r, u :: s, j + 1, c, v, hc, hv => by
    have := keyB_step (cs := r) (vs := s) (j := j) (by simpa using hc) (by simpa using hv)
    show kputV d u ++ keyB r (s.take (j + 1)) = kputV d u ++ keyB r (s.take j) ++ kputV c v
    rw [this, List.append_assoc]
theorem keyB_u8 : ∀ {cs : List Col} {vs : List CV}, (∀ v ∈ vs, U8 v.2.2) → U8 (keyB cs vs)
  | [], vs, _ => by intro v hv; simp [keyB] at hv
  | c :: r, [], _ => by intro v hv; simp [keyB] at hv
  | c :: r, v :: s, h => by
    intro x hx
    rcases List.mem_append.1 hx with hx | hx
    · exact kput_u8 (h v List.mem_cons_self) x hx
    · exact keyB_u8 (fun u hu => h u (List.mem_cons_of_mem _ hu)) x hx
theorem kok_len {c : Col} {v : CV} (h : kok c v) : v.2.2.length ≤ 200 := by
  obtain ⟨_, h1⟩ := h
  have hk := chk_kind h1
  by_cases h6 : c.kind ≤ 6
  · rw [(chk_num0 ⟨hk.1, h6⟩ h1).1]; simp
  · exact (chk_txt0 (show c.kind = 7 ∨ c.kind = 8 by omega) h1).2.1
theorem keyB_len : ∀ {cs : List Col} {vs : List CV}, koks cs vs → vs.length ≤ cs.length → vs.length ≤ (keyB cs vs).length ∧ (keyB cs vs).length ≤ 402 * vs.length
  | [], vs, _, hl => by simp at hl; subst hl; simp [keyB]
  | c :: r, [], _, _ => by simp [keyB]
  | c :: r, v :: s, h, hl => by
    obtain ⟨h1, h2⟩ := koks_cons h
    have := kput_len (k := c.kind) (num := v.2.1) (kok_len h1)
    have ih := keyB_len h2 (by simpa using hl)
    show _ ≤ (kputV c v ++ keyB r s).length ∧ (kputV c v ++ keyB r s).length ≤ _
    unfold kputV
    rw [List.length_append, List.length_cons]
    omega
def rankV : Nat → List CV → List CV → Int
  | n + 1, v :: r, u :: s => if rnkV v u ≠ 0 then rnkV v u else rankV n r s
  | _, _, _ => 0
/-- Two keys' bytes, told by their first n cells and what stands behind these. -/
theorem ord_keyB : ∀ (n : Nat) {cs : List Col} {vs us : List CV} (xs ys : List Nat), koks cs vs → koks cs us → n ≤ cs.length → n ≤ vs.length → n ≤ us.length →
    ordT (keyB cs vs ++ xs) (keyB cs us ++ ys) = if rankV n vs us ≠ 0 then rankV n vs us else ordT (keyB (cs.drop n) (vs.drop n) ++ xs) (keyB (cs.drop n) (us.drop n) ++ ys)
  | 0, cs, vs, us, xs, ys, _, _, _, _, _ => by simp [rankV]
  | n + 1, [], vs, us, xs, ys, _, _, h, _, _ => by simp at h
  | n + 1, c :: r, [], us, xs, ys, _, _, _, h, _ => by simp at h
  | n + 1, c :: r, v :: s, [], xs, ys, _, _, _, _, h => by simp at h
  | n + 1, c :: r, v :: s, u :: t, xs, ys, hv, hu, h1, h2, h3 => by
    obtain ⟨v1, v2⟩ := koks_cons hv
    obtain ⟨u1, u2⟩ := koks_cons hu
    have ih := ord_keyB n xs ys v2 u2 (by simpa using h1) (by simpa using h2) (by simpa using h3)
    show ordT ((kputV c v ++ keyB r s) ++ xs) ((kputV c u ++ keyB r t) ++ ys) = if (if rnkV v u ≠ 0 then rnkV v u else rankV n s t) ≠ 0 then (if rnkV v u ≠ 0 then rnkV v u else rankV n s t) else _
    rw [List.append_assoc, List.append_assoc, ord_kput v1 u1, ih]
    by_cases q : rnkV v u ≠ 0
    · rw [if_pos q, if_pos q, if_pos q]
    · rw [if_neg q, if_neg q]
      simp only [List.drop_succ_cons]
theorem rankV_eq : ∀ (n : Nat) {cs : List Col} {vs us : List CV}, koks cs vs → koks cs us → n ≤ cs.length → n ≤ vs.length → n ≤ us.length → rankV n vs us = 0 → vs.take n = us.take n
  | 0, _, _, _, _, _, _, _, _, _ => by simp
  | n + 1, [], _, _, _, _, h, _, _, _ => by simp at h
  | n + 1, c :: r, [], us, _, _, _, h, _, _ => by simp at h
  | n + 1, c :: r, v :: s, [], _, _, _, _, h, _ => by simp at h
  | n + 1, c :: r, v :: s, u :: t, hv, hu, h1, h2, h3, h => by
    obtain ⟨v1, v2⟩ := koks_cons hv
    obtain ⟨u1, u2⟩ := koks_cons hu
    rw [rankV] at h
    by_cases q : rnkV v u = 0
    · rw [if_neg (fun e => e q)] at h
      rw [List.take_succ_cons, List.take_succ_cons, rankV_eq n v2 u2 (by simpa using h1) (by simpa using h2) (by simpa using h3) h, (rnk_eq v1 u1).1 q]
    · rw [if_pos q] at h
      exact absurd h q
theorem keyB_take : ∀ (n : Nat) {cs : List Col} {vs : List CV}, keyB cs vs = keyB cs (vs.take n) ++ keyB (cs.drop n) (vs.drop n)
  | 0, cs, vs => by cases cs <;> simp [keyB]
  | n + 1, [], vs => by simp [keyB]
  | n + 1, c :: r, [] => by simp [keyB]
  | n + 1, c :: r, v :: s => by
    show kputV c v ++ keyB r s = (kputV c v ++ keyB r (s.take n)) ++ keyB (r.drop n) (s.drop n)
    rw [List.append_assoc, ← keyB_take n]

/-- 'k and a byte 0' is the least above k. -/
theorem ord_next : ∀ (o k : List Nat), (0 < ordT o k ↔ 0 ≤ ordT o (k ++ [0]))
  | [], [] => by simp [ordT]
  | [], y :: s => by simp [ordT]
  | x :: r, [] => by
    show 0 < ordT (x :: r) [] ↔ 0 ≤ ordT (x :: r) [0]
    rw [ordT_cons_nil, ordT]
    by_cases h : 0 < x
    · rw [if_neg (by omega), if_pos h]; decide
    · rw [if_neg (by omega), if_neg h]
      cases r <;> simp [ordT]
  | x :: r, y :: s => by
    have := ord_next r s
    rw [List.cons_append]
    rcases Nat.lt_trichotomy x y with h | h | h
    · rw [ordT_lt h, ordT_lt h]; decide
    · rw [ordT_eq h, ordT_eq h]; exact this
    · rw [ordT_gt h, ordT_gt h]; decide
theorem ord_above (k : List Nat) : ordT (k ++ [0]) k = 1 := by
  have := ord_self_append k [0] []
  rw [List.append_nil] at this
  rw [this]
  rfl

/-- Texts and bytes read. -/
def readT : List Nat → Option (List Nat × List Nat)
  | [] => none
  | x :: r => if x = 0 then some ([], r) else (readT r).map fun p => (x :: p.1, p.2)
def readB : List Nat → Option (List Nat × List Nat)
  | [] => none
  | [x] => if x = 0 then none else none
  | x :: y :: r => if x = 0 then (if y = 0 then some ([], r) else if y = 255 then (readB r).map fun p => (0 :: p.1, p.2) else none) else (readB (y :: r)).map fun p => (x :: p.1, p.2)
theorem readT_ok : ∀ {l t r : List Nat}, readT l = some (t, r) → t ++ 0 :: r = l ∧ ¬ 0 ∈ t
  | [], t, r, h => by simp [readT] at h
  | x :: l, t, r, h => by
    rw [readT] at h
    by_cases q : x = 0
    · rw [if_pos q] at h
      simp at h
      obtain ⟨rfl, rfl⟩ := h
      subst q
      simp
    · rw [if_neg q] at h
      obtain ⟨⟨t', r'⟩, h1, h2⟩ := Option.map_eq_some_iff.1 h
      simp at h2
      obtain ⟨rfl, rfl⟩ := h2
      obtain ⟨i1, i2⟩ := readT_ok h1
      refine ⟨by rw [List.cons_append, i1], ?_⟩
      simp
      exact ⟨fun e => q e.symm, i2⟩
theorem readT_put : ∀ (t r : List Nat), ¬ 0 ∈ t → readT (t ++ 0 :: r) = some (t, r)
  | [], r, _ => by simp [readT]
  | x :: t, r, h => by
    rw [List.cons_append, readT, if_neg (fun e => h (by simp [e])), readT_put t r (fun e => h (List.mem_cons_of_mem _ e))]
    rfl
theorem readB_pos {x : Nat} {l : List Nat} (h : x ≠ 0) : readB (x :: l) = (readB l).map fun p => (x :: p.1, p.2) := by
  cases l with
  | nil => simp [readB]
  | cons y r => rw [readB, if_neg h]
theorem readB_ok : ∀ (n : Nat) {l t r : List Nat}, l.length ≤ n → readB l = some (t, r) → esc t ++ 0 :: 0 :: r = l
  | _, [], t, r, _, h => by simp [readB] at h
  | _, [x], t, r, _, h => by simp [readB] at h
  | 0, x :: y :: l, t, r, hn, h => by simp at hn
  | n + 1, x :: y :: l, t, r, hn, h => by
    by_cases q : x = 0
    · subst q
      rw [readB, if_pos rfl] at h
      by_cases q1 : y = 0
      · rw [if_pos q1] at h
        simp at h
        obtain ⟨rfl, rfl⟩ := h
        subst q1
        rfl
      · rw [if_neg q1] at h
        by_cases q2 : y = 255
        · rw [if_pos q2] at h
          obtain ⟨⟨t', r'⟩, h1, h2⟩ := Option.map_eq_some_iff.1 h
          simp at h2
          obtain ⟨rfl, rfl⟩ := h2
          have := readB_ok n (by simp at hn; omega) h1
          rw [esc_zero, q2, ← this]
          rfl
        · rw [if_neg q2] at h
          cases h
    · rw [readB_pos q] at h
      obtain ⟨⟨t', r'⟩, h1, h2⟩ := Option.map_eq_some_iff.1 h
      simp at h2
      obtain ⟨rfl, rfl⟩ := h2
      have := readB_ok n (by simp at hn ⊢; omega) h1
      rw [esc_pos _ q, ← this]
      rfl
theorem readB_put : ∀ (t r : List Nat), readB (esc t ++ 0 :: 0 :: r) = some (t, r)
  | [], r => by simp [esc, readB]
  | x :: t, r => by
    by_cases q : x = 0
    · subst q
      rw [esc_zero]
      show readB (0 :: 255 :: (esc t ++ 0 :: 0 :: r)) = _
      rw [readB, if_pos rfl, if_neg (by decide), if_pos rfl, readB_put t r]
      rfl
    · rw [esc_pos _ q]
      show readB (x :: (esc t ++ 0 :: 0 :: r)) = _
      rw [readB_pos q, readB_put t r]
      rfl

/-- A key's cell read: the number, the text, what stands behind. -/
def kread (k : Int) (l : List Nat) : Option (Int × List Nat × List Nat) :=
  if k ≤ 6 then (if l.length < ksize k then none else some ((bval (l.take (ksize k)) 0 : Int) + least k, [], l.drop (ksize k)))
  else if k = 7 then (readT l).map fun p => (0, p.1, p.2) else (readB l).map fun p => (0, p.1, p.2)
theorem kread_ok {k num : Int} {l txt rest : List Nat} (hu : U8 l) (h : kread k l = some (num, txt, rest)) : kput k num txt ++ rest = l := by
  unfold kread at h
  unfold kput
  by_cases h6 : k ≤ 6
  · rw [if_pos h6] at h ⊢
    by_cases hl : l.length < ksize k
    · rw [if_pos hl] at h; cases h
    · rw [if_neg hl] at h
      simp at h
      obtain ⟨rfl, rfl, rfl⟩ := h
      rw [show ((bval (l.take (ksize k)) 0 : Int) + least k - least k).toNat = bval (l.take (ksize k)) 0 by omega, be_bval _ _ _ (by rw [List.length_take]; omega) (u8_take hu _), List.take_append_drop]
  · rw [if_neg h6] at h ⊢
    by_cases h7 : k = 7
    · rw [if_pos h7] at h ⊢
      obtain ⟨⟨t', r'⟩, h1, h2⟩ := Option.map_eq_some_iff.1 h
      simp at h2
      obtain ⟨rfl, rfl, rfl⟩ := h2
      rw [List.append_assoc]
      exact (readT_ok h1).1
    · rw [if_neg h7] at h ⊢
      obtain ⟨⟨t', r'⟩, h1, h2⟩ := Option.map_eq_some_iff.1 h
      simp at h2
      obtain ⟨rfl, rfl, rfl⟩ := h2
      rw [List.append_assoc]
      exact readB_ok _ (Nat.le_refl _) h1
theorem kread_put {k num : Int} {txt : List Nat} (h : chk k false false num txt = 0) (rest : List Nat) : kread k (kput k num txt ++ rest) = some (num, txt, rest) := by
  unfold kread kput
  have hk := chk_kind h
  by_cases h6 : k ≤ 6
  · obtain ⟨rfl, l1, g1⟩ := chk_num0 ⟨hk.1, h6⟩ h
    rw [if_pos h6, if_pos h6, if_neg (by rw [List.length_append, be_len]; omega), List.take_left' (be_len _ _), List.drop_left' (be_len _ _), bval_be _ _ _ (knum_lt ⟨hk.1, h6⟩ l1 g1)]
    simp
    omega
  · obtain ⟨rfl, _, z1⟩ := chk_txt0 (show k = 7 ∨ k = 8 by omega) h
    rw [if_neg h6, if_neg h6]
    by_cases h7 : k = 7
    · rw [if_pos h7, if_pos h7, List.append_assoc]
      show (readT (txt ++ 0 :: rest)).map _ = _
      rw [readT_put _ _ (z1 h7)]
      rfl
    · rw [if_neg h7, if_neg h7, List.append_assoc]
      show (readB (esc txt ++ 0 :: 0 :: rest)).map _ = _
      rw [readB_put]
      rfl

/-- A whole key read. -/
def kdecA : List Col → List Nat → List CV → Option (List CV)
  | [], l, acc => if l = [] then some acc else none
  | c :: r, l, acc => match kread c.kind l with
    | none => none
    | some p => if chk c.kind false false p.1 p.2.1 ≠ 0 then none else kdecA r p.2.2 (acc ++ [(false, p.1, p.2.1)])
theorem kdecA_ok : ∀ {cs : List Col} {l : List Nat} {acc vs : List CV}, U8 l → kdecA cs l acc = some vs → ∃ us, vs = acc ++ us ∧ us.length = cs.length ∧ keyB cs us = l ∧ koks cs us ∧ ∀ u ∈ us, U8 u.2.2
  | [], l, acc, vs, _, h => by
    rw [kdecA] at h
    split at h
    · injection h with h
      rename_i q
      exact ⟨[], by simp [h], rfl, by simp [keyB, q], fun j c v hc => by simp at hc, by simp⟩
    · cases h
  | c :: r, l, acc, vs, hu, h => by
    rw [kdecA] at h
    cases hr : kread c.kind l with
    | none => rw [hr] at h; cases h
    | some p =>
      rw [hr] at h
      simp only at h
      by_cases q : chk c.kind false false p.1 p.2.1 = 0
      · rw [if_neg (fun e => e q)] at h
        have hp := kread_ok hu (show kread c.kind l = some (p.1, p.2.1, p.2.2) from hr)
        have hu2 : U8 p.2.2 := fun v hv => hu v (by rw [← hp]; exact List.mem_append_right _ hv)
        obtain ⟨us, e1, e2, e3, e4, e5⟩ := kdecA_ok hu2 h
        have hut : U8 p.2.1 := by
          have hin : ∀ v ∈ kput c.kind p.1 p.2.1, v < 256 := fun v hv => hu v (by rw [← hp]; exact List.mem_append_left _ hv)
          have hk := chk_kind q
          by_cases h6 : c.kind ≤ 6
          · rw [(chk_num0 ⟨hk.1, h6⟩ q).1]; intro v hv; cases hv
          · unfold kput at hin
            rw [if_neg h6] at hin
            by_cases h7 : c.kind = 7
            · rw [if_pos h7] at hin
              exact fun v hv => hin v (List.mem_append_left _ hv)
            · rw [if_neg h7] at hin
              intro v hv
              by_cases v0 : v = 0
              · subst v0; decide
              · refine hin v (List.mem_append_left _ ?_)
                have : ∀ l : List Nat, v ∈ l → v ∈ esc l := by
                  intro l
                  induction l with
                  | nil => intro h; cases h
                  | cons x r ih =>
                    intro h
                    rcases List.mem_cons.1 h with hh | hh
                    · subst hh; rw [esc_pos _ v0]; exact List.mem_cons_self
                    · by_cases x0 : x = 0
                      · subst x0; rw [esc_zero]; exact List.mem_cons_of_mem _ (List.mem_cons_of_mem _ (ih hh))
                      · rw [esc_pos _ x0]; exact List.mem_cons_of_mem _ (ih hh)
                exact this _ hv
        refine ⟨(false, p.1, p.2.1) :: us, by rw [e1]; simp, by simp [e2], ?_, ?_, ?_⟩
        · show kput c.kind p.1 p.2.1 ++ keyB r us = l
          rw [e3, hp]
        · intro j d v hd hv
          cases j with
          | zero => simp at hd hv; subst hd hv; exact ⟨rfl, q⟩
          | succ j => exact e4 j d v (by simpa using hd) (by simpa using hv)
        · intro v hv
          rcases List.mem_cons.1 hv with rfl | hv
          · exact hut
          · exact e5 v hv
      · rw [if_pos q] at h
        cases h
theorem kdecA_put : ∀ {cs : List Col} {vs acc : List CV}, vs.length = cs.length → koks cs vs → kdecA cs (keyB cs vs) acc = some (acc ++ vs)
  | [], vs, acc, hl, _ => by
    have : vs = [] := List.eq_nil_of_length_eq_zero hl
    subst this
    simp [kdecA, keyB]
  | c :: r, [], acc, hl, _ => by simp at hl
  | c :: r, v :: s, acc, hl, h => by
    obtain ⟨⟨h0, h1⟩, h2⟩ := koks_cons h
    obtain ⟨vn, vi, vt⟩ := v
    simp only at h0 h1
    subst h0
    show kdecA (c :: r) (kput c.kind vi vt ++ keyB r s) acc = _
    rw [kdecA, kread_put h1]
    simp only
    rw [if_neg (fun e => e h1), kdecA_put (by simpa using hl) h2]
    simp
theorem kdecA_more : ∀ {cs : List Col} {vs acc : List CV} {x : Nat}, vs.length = cs.length → koks cs vs → kdecA cs (keyB cs vs ++ [x]) acc = none
  | [], vs, acc, x, hl, _ => by
    have : vs = [] := List.eq_nil_of_length_eq_zero hl
    subst this
    simp [kdecA, keyB]
  | c :: r, [], acc, x, hl, _ => by simp at hl
  | c :: r, v :: s, acc, x, hl, h => by
    obtain ⟨⟨h0, h1⟩, h2⟩ := koks_cons h
    obtain ⟨vn, vi, vt⟩ := v
    simp only at h0 h1
    subst h0
    show kdecA (c :: r) ((kput c.kind vi vt ++ keyB r s) ++ [x]) acc = _
    rw [List.append_assoc, kdecA, kread_put h1]
    simp only
    rw [if_neg (fun e => e h1), kdecA_more (by simpa using hl) h2]

end Go.Proofs.YtnkggopkcjffoaaDoor

/-
  Layer 7's ground: the sign's bit turned.
-/
namespace Go.Proofs.YtnkggopkcjffoaaDoor
open Go.RowKit

theorem ret_int {k : IntKind} {a b : Int} (h : a = b) : Ending.returned (.int k a) = .returned (.int k b) := by rw [h]

theorem nat_xor_top {a : Nat} (h : a < 18446744073709551616) : a ^^^ 9223372036854775808 = if a < 9223372036854775808 then a + 9223372036854775808 else a - 9223372036854775808 := by
  have h1 : (a ^^^ 9223372036854775808) % 2 ^ 63 = a % 2 ^ 63 := by
    rw [Nat.xor_mod_two_pow]; simp
  have h2 : (a ^^^ 9223372036854775808) / 2 ^ 63 = a / 2 ^ 63 ^^^ 1 := by
    rw [Nat.xor_div_two_pow]
  have hlt : a ^^^ 9223372036854775808 < 2 ^ 64 := Nat.xor_lt_two_pow h (by omega)
  by_cases ha : a < 9223372036854775808
  · rw [if_pos ha]
    rw [show a / 2 ^ 63 = 0 from by omega] at h2
    simp at h2
    omega
  · rw [if_neg ha]
    rw [show a / 2 ^ 63 = 1 from by omega] at h2
    simp at h2
    omega

def flipS (v : Int) : Int := v + 9223372036854775808

def unflS (u : Int) : Int := u - 9223372036854775808

theorem flip_bits {v : Int} (h0 : -9223372036854775808 ≤ v) (h1 : v ≤ 9223372036854775807) :
    bits .xor .u64 (IntKind.u64.wrap v) 9223372036854775808 = flipS v := by
  unfold flipS
  rw [IntKind.wrap_u64]
  have e1 : v % 18446744073709551616 = ((v % 18446744073709551616).toNat : Int) := by omega
  rw [e1, show (9223372036854775808 : Int) = ((9223372036854775808 : Nat) : Int) from rfl, u64_xor_nat _ _ (by omega) (by omega), nat_xor_top (by omega)]
  split <;> omega

theorem unflip_bits {u : Int} (h0 : 0 ≤ u) (h1 : u ≤ 18446744073709551615) : wrap64 (bits .xor .u64 u 9223372036854775808) = unflS u := by
  unfold unflS
  have e1 : u = (u.toNat : Int) := by omega
  rw [e1, show (9223372036854775808 : Int) = ((9223372036854775808 : Nat) : Int) from rfl, u64_xor_nat _ _ (by omega) (by omega), nat_xor_top (by omega)]
  unfold wrap64
  split <;> omega

theorem flip_any (v : Int) (w : World) (h0 : -9223372036854775808 ≤ v) (h1 : v ≤ 9223372036854775807) :
    Calls Tryd.prog 76 #[.int .i64 v] w fun e w' => e = .returned (.int .u64 (flipS v)) ∧ w = w' := by
  have H := Lib.hid (flip_bits h0 h1)
  go_enter Tryd.func76, Tryd.ntmps76
  go_wp2
  go_ret
  exact ⟨ret_int H.out, rfl⟩

theorem unflip_any (u : Int) (w : World) (h0 : 0 ≤ u) (h1 : u ≤ 18446744073709551615) :
    Calls Tryd.prog 78 #[.int .u64 u] w fun e w' => e = .returned (.int .i64 (unflS u)) ∧ w = w' := by
  have H := Lib.hid (unflip_bits h0 h1)
  go_enter Tryd.func78, Tryd.ntmps78
  go_wp2
  go_ret
  exact ⟨ret_int H.out, rfl⟩

end Go.Proofs.YtnkggopkcjffoaaDoor

/-
  bytes.Compare.
-/
namespace Go.Proofs.YtnkggopkcjffoaaDoor
open Go.RowKit

set_option maxRecDepth 100000 in
theorem compareT_any (A A2 : Option Addr) (n c n2 c2 : Nat) (xs ys : List Nat) (w : World) (hx : Rd .u8 w A n xs) (hy : Rd .u8 w A2 n2 ys) (hu : U8 xs) (hu2 : U8 ys) :
    Calls Tryd.prog 49 #[.slice A n c, .slice A2 n2 c2] w fun e w' => e = .returned (.int .i64 (ordT xs ys)) ∧ w = w' := by
  have Hx := Lib.hid hx
  have Hy := Lib.hid hy
  go_enter Tryd.func49, Tryd.ntmps49
  go_wp2
  rw [run_callFunc_extern Tryd.func71 (by kernel_rfl) (by kernel_rfl) (by kernel_rfl) (e := Extern.BytealgCompare.compare) (by kernel_rfl), run_compare Hx.out Hy.out hu hu2]
  simp only [Result.andThen]
  rw [Oper.upon_value]
  go_wp2
  go_ret
  exact ⟨rfl, rfl⟩

end Go.Proofs.YtnkggopkcjffoaaDoor

/-
  Layer 7: the program's width, putNumber, Next and Within.
-/
namespace Go.Proofs.YtnkggopkcjffoaaDoor
open Go.RowKit

/-- Has a kind of numbers a sign? -/
def ksign (k : Int) : Bool := decide (k ≤ 4)

set_option maxHeartbeats 800000 in
theorem width_anyK (k : Int) (w : World) (h1 : 1 ≤ k) (h6 : k ≤ 6) :
    Calls Tryd.prog 75 #[.int .i64 k] w fun e w' => e = .returned (.tuple #[.int .i64 (ksize k : Nat), .bool (ksign k)]) ∧ w = w' := by
  obtain rfl | rfl | rfl | rfl | rfl | rfl : k = 1 ∨ k = 2 ∨ k = 3 ∨ k = 4 ∨ k = 5 ∨ k = 6 := by omega
  all_goals
    go_enter Tryd.func75, Tryd.ntmps75
    go_wp2_with fail
    go_ret2
    exact ⟨rfl, rfl⟩

theorem next_any (A : Option Addr) (n c : Nat) (bs : List Nat) (w : World) (hx : Rd .u8 w A n bs) (hn : n ≤ 140737488355328) :
    Calls Tryd.prog 22 #[.slice A n c] w fun e w' => ∃ A' c', e = .returned (.slice A' (n + 1 : Nat) c') ∧ Own .u8 5 w' w.heap.size A' c' (bs ++ [0]) ∧ Ext w w' := by
  have hfl : ([bs, [0]] : List (List Nat)).flatten = bs ++ [0] := by simp
  have hll : ([bs, [0]] : List (List Nat)).flatten.length = n + 1 := by rw [hfl, List.length_append, hx.len]; rfl
  have Hfl := Lib.hid hfl
  have Hll := Lib.hid hll
  have hE : Ext w (w.alloc (.cells #[.int .u8 0] 5)) := (Ext.refl w).alloc _
  clear hfl hll
  go_enter Tryd.func22, Tryd.ntmps22
  go_wp2_with fail
  refine (concat_any _ 2 2 [bs, [0]] _ (RdSS.two 28 _ (by simp) (hx.ext hE) (Rd.lit_at .u8 5 w [0] rfl rfl)) (by rw [Hll.out]; omega) (by omega)).mono ?_
  rintro e w1 ⟨A1, c1, rfl, hown1, he1⟩
  rw [Hfl.out] at hown1
  rw [Hll.out]
  go_wp2_with fail
  go_ret
  exact ⟨A1, c1, rfl, hown1.mono (by simp; omega), (hE.alloc _).trans he1⟩

/-- What Within answers. -/
def withinF (k lo hi : List Nat) : Bool := if ordT k lo < 0 then false else (decide (hi.length = 0) || decide (ordT k hi < 0))

end Go.Proofs.YtnkggopkcjffoaaDoor

/-
  Layer 7: the program's Within and putNumber.
-/
namespace Go.Proofs.YtnkggopkcjffoaaDoor
open Go.RowKit

theorem within_any (A A2 A3 : Option Addr) (n c n2 c2 n3 c3 : Nat) (ks lo hi : List Nat) (w : World) (hk : Rd .u8 w A n ks) (hl : Rd .u8 w A2 n2 lo) (hh : Rd .u8 w A3 n3 hi) (u1 : U8 ks) (u2 : U8 lo) (u3 : U8 hi) :
    Calls Tryd.prog 27 #[.slice A n c, .slice A2 n2 c2, .slice A3 n3 c3] w fun e w' => e = .returned (.bool (withinF ks lo hi)) ∧ w = w' := by
  have hlen := hh.len
  have e1 : withinF ks lo hi = if ordT ks lo < 0 then false else (decide (n3 = 0) || decide (ordT ks hi < 0)) := by rw [withinF, hlen]
  rw [e1]
  clear e1 hlen
  obtain ⟨p, hp⟩ : ∃ p, p = ordT ks lo := ⟨_, rfl⟩
  obtain ⟨q, hq⟩ : ∃ q, q = ordT ks hi := ⟨_, rfl⟩
  have C1 := Lib.hid (fun w (h1 : Rd .u8 w A n ks) (h2 : Rd .u8 w A2 n2 lo) => compareT_any A A2 n c n2 c2 ks lo w h1 h2 u1 u2)
  have C2 := Lib.hid (fun w (h1 : Rd .u8 w A n ks) (h2 : Rd .u8 w A3 n3 hi) => compareT_any A A3 n c n3 c3 ks hi w h1 h2 u1 u3)
  rw [← hp] at C1
  rw [← hq] at C2
  rw [← hp, ← hq]
  clear hp hq
  by_cases h1 : p < 0
  · rw [if_pos h1]
    go_enter Tryd.func27, Tryd.ntmps27
    go_wp2_with fail
    refine (C1.out _ hk hl).mono ?_
    rintro e w1 ⟨rfl, rfl⟩
    go_wp2_with fail
    go_ret
    exact ⟨rfl, rfl⟩
  · rw [if_neg h1]
    by_cases h2 : n3 = 0
    · subst h2
      go_enter Tryd.func27, Tryd.ntmps27
      go_wp2_with fail
      refine (C1.out _ hk hl).mono ?_
      rintro e w1 ⟨rfl, rfl⟩
      go_wp2_with fail
      go_ret
      exact ⟨rfl, rfl⟩
    · have h3 : ((n3 : Int) == 0) = false := by simp [h2]
      rw [decide_eq_false h2, Bool.false_or]
      go_enter Tryd.func27, Tryd.ntmps27
      go_wp2_with fail
      refine (C1.out _ hk hl).mono ?_
      rintro e w1 ⟨rfl, rfl⟩
      go_wp2_with fail
      refine (C2.out _ hk hh).mono ?_
      rintro e w1 ⟨rfl, rfl⟩
      go_wp2_with fail
      go_ret
      exact ⟨rfl, rfl⟩

theorem be_getD : ∀ (s D i : Nat), i < s → (be s D).getD i 0 = D / 256 ^ (s - 1 - i) % 256
  | 0, _, _, h => absurd h (by omega)
  | s + 1, D, i, h => by
    rw [be]
    by_cases q : i < s
    · have hl : i < (be s (D / 256)).length := by rw [be_len]; exact q
      rw [List.getD_eq_getElem?_getD, List.getElem?_append_left hl, ← List.getD_eq_getElem?_getD, be_getD s (D / 256) i q, Nat.div_div_eq_div_mul, show s + 1 - 1 - i = s - 1 - i + 1 by omega, Nat.pow_succ, Nat.mul_comm]
    · obtain rfl : i = s := by omega
      have hl : (be i (D / 256)).length ≤ i := by rw [be_len]; exact Nat.le_refl _
      rw [List.getD_eq_getElem?_getD, List.getElem?_append_right hl, be_len, Nat.sub_self, show i + 1 - 1 - i = 0 by omega]
      simp

theorem be_byte {s D j : Nat} (hs : s ≤ 8) (hj : j < s) : D * 2 ^ (64 - 8 * s) / 2 ^ (56 - 8 * j) % 256 = (be s D).getD j 0 := by
  rw [be_getD s D j hj, show 56 - 8 * j = (64 - 8 * s) + 8 * (s - 1 - j) by omega, Nat.pow_add, ← Nat.div_div_eq_div_mul, Nat.mul_div_cancel _ (Nat.two_pow_pos _), Nat.pow_mul]

theorem fill_step {s j : Nat} {L : List Nat} (hL : L.length = s) (hj : j < s) : (L.take j ++ List.replicate (s - j) 0).set j (L.getD j 0) = L.take (j + 1) ++ List.replicate (s - (j + 1)) 0 := by
  have h1 : (L.take j).length = j := by rw [List.length_take]; omega
  rw [List.set_append_right _ _ (by omega), h1, Nat.sub_self, show s - j = s - (j + 1) + 1 by omega, List.replicate_succ, List.set_cons_zero, ← List.take_append_getElem (by omega : j < L.length), List.append_assoc, List.getD_eq_getElem?_getD, List.getElem?_eq_getElem (by omega)]
  rfl

end Go.Proofs.YtnkggopkcjffoaaDoor

/-
  Layer 7: the program's putNumber.
-/
namespace Go.Proofs.YtnkggopkcjffoaaDoor
open Go.RowKit

set_option maxRecDepth 100000 in
set_option maxHeartbeats 1600000 in
theorem putNumber_core (k v : Int) (s U : Nat) (sg : Bool) (D : Nat) (w : World) (hs : s = 1 ∨ s = 2 ∨ s = 4 ∨ s = 8)
    (hw : ∀ w, Calls Tryd.prog 75 #[.int .i64 k] w fun e w' => e = .returned (.tuple #[.int .i64 (s : Nat), .bool sg]) ∧ w = w')
    (hU : D * 2 ^ (64 - 8 * s) = U) (_hU2 : U < 18446744073709551616)
    (hF : sg = true → ∀ w, Calls Tryd.prog 76 #[.int .i64 (wrap64 (v * 2 ^ (64 - 8 * s)))] w fun e w' => e = .returned (.int .u64 (U : Nat)) ∧ w = w')
    (hN : sg = false → IntKind.u64.wrap (wrap64 (v * 2 ^ (64 - 8 * s))) = ((U : Nat) : Int)) :
    Calls Tryd.prog 65 #[.int .i64 k, .int .i64 v] w fun e w' => ∃ A' c', e = .returned (.slice A' s c') ∧ Own .u8 5 w' w.heap.size A' c' (be s D) ∧ Ext w w' := by
  have Hw := Lib.hid hw
  have HF := Lib.hid hF
  have HN := Lib.hid hN
  have HU := Lib.hid hU
  clear hw hF hN hU
  have hs8 : s ≤ 8 := by omega
  have hs0 : 1 ≤ s := by omega
  have Hs := Lib.hid hs
  clear hs
  cases sg
  all_goals
    go_enter Tryd.func65, Tryd.ntmps65
    go_wp2_with fail
    refine (Hw.out _).mono ?_
    rintro e w1 ⟨rfl, rfl⟩
    go_wp2_with (first | (go_at_call 76; refine (HF.out (by trivial) _).mono ?_; rintro e w1 ⟨rfl, rfl⟩) | (at_make; refine wpList_mk .u8 5 rfl _ _ 28 rfl 1 Tryd.underlying28 Tryd.infoU8 _ _ s rfl rfl rfl rfl (by omega) (by omega) ?_; intro w2 hown2 he2))
    clear HF
    have h0 : Own .u8 5 w2 w.heap.size (some ⟨w.heap.size, 0, none⟩) s ((be s D).take 0 ++ List.replicate (s - 0) 0) := hown2
    clear hown2
    go_loopw [29] (fun i wr => ∃ j : Nat, j ≤ s ∧ i = .int .i64 j ∧ Own .u8 5 wr w.heap.size (some ⟨w.heap.size, 0, none⟩) s ((be s D).take j ++ List.replicate (s - j) 0) ∧ Ext w wr) (fun i _ => s - (intOf i).toNat)
    case atStart => exact ⟨0, Nat.zero_le _, rfl, h0, he2⟩
    case round =>
      clear h0 he2
      obtain ⟨j, hj, rfl, hown, he⟩ := hrel
      by_cases hlt : j < s
      · obtain ⟨b2, hb2, hbase, hblt, hcell, hfro, hset⟩ := hown.at_ (show j < ((be s D).take j ++ List.replicate (s - j) 0).length by rw [List.length_append, List.length_take, be_len, List.length_replicate]; omega)
        injection hb2 with hb2
        injection hb2 with hb2
        subst hb2
        have hbyte := be_byte (D := D) hs8 hlt
        rw [HU.out] at hbyte
        obtain ⟨hs1, hs2⟩ := hset (U / 2 ^ (56 - 8 * j) % 256)
        have hs3 := hs1
        rw [hbyte, fill_step (be_len s D) hlt] at hs3
        rw [← hbyte] at hs3
        have Hs1 := Lib.hid hs3
        have He := Lib.hid (he.setCell (p := ⟨w.heap.size, j, none⟩) (Nat.le_refl _) (.int .u8 ((U / 2 ^ (56 - 8 * j) % 256 : Nat) : Int)))
        obtain ⟨old, hold⟩ : ∃ v, v = Value.int .u8 ((((be s D).take j ++ List.replicate (s - j) 0).getD j 0 : Nat) : Int) := ⟨_, rfl⟩
        rw [← hold] at hcell
        clear hold hs1 hs2 hs3 hset hown he hbase hbyte
        go_wp2
        go_roundw
        case rel => 
          refine ⟨j + 1, by omega, by go_num, ?_, ?_⟩
          · first | exact Hs1.out | (rw [HN.out (by trivial)]; exact Hs1.out) | fail
          · first | exact He.out | (rw [HN.out (by trivial)]; exact He.out) | fail
        case measure => simp [intOf]; omega
      · obtain rfl : j = s := by omega
        rw [Nat.sub_self, List.replicate_zero, List.append_nil, List.take_of_length_le (by rw [be_len]; exact Nat.le_refl _)] at hown
        go_wp2
        go_ret
        exact ⟨_, _, rfl, hown, he⟩

end Go.Proofs.YtnkggopkcjffoaaDoor

/-
  Layer 7: the program's putNumber, in full.
-/
namespace Go.Proofs.YtnkggopkcjffoaaDoor
open Go.RowKit

theorem put_signed {v : Int} {s : Nat} (hs : s = 1 ∨ s = 2 ∨ s = 4 ∨ s = 8) (h0 : -(2 ^ (8 * s - 1) : Int) ≤ v) (h1 : v < (2 ^ (8 * s - 1) : Int)) :
    flipS (wrap64 (v * 2 ^ (64 - 8 * s))) = (((v + (2 ^ (8 * s - 1) : Int)).toNat * 2 ^ (64 - 8 * s) : Nat) : Int) ∧ -9223372036854775808 ≤ wrap64 (v * 2 ^ (64 - 8 * s)) ∧ wrap64 (v * 2 ^ (64 - 8 * s)) ≤ 9223372036854775807 := by
  rcases hs with rfl | rfl | rfl | rfl <;> simp at h0 h1 ⊢ <;> unfold flipS wrap64 <;> omega
theorem put_unsigned {v : Int} {s : Nat} (hs : s = 1 ∨ s = 2) (h0 : 0 ≤ v) (h1 : v < (2 ^ (8 * s) : Int)) :
    IntKind.u64.wrap (wrap64 (v * 2 ^ (64 - 8 * s))) = ((v.toNat * 2 ^ (64 - 8 * s) : Nat) : Int) := by
  rcases hs with rfl | rfl <;> rw [IntKind.wrap_u64] <;> simp at h0 h1 ⊢ <;> unfold wrap64 <;> omega
theorem put_lt {s D : Nat} (hs : s ≤ 8) (h : D < 256 ^ s) : D * 2 ^ (64 - 8 * s) < 18446744073709551616 := by
  have e : (18446744073709551616 : Nat) = 256 ^ s * 2 ^ (64 - 8 * s) := by
    rw [show (256 : Nat) = 2 ^ 8 from rfl, ← Nat.pow_mul, ← Nat.pow_add, show 8 * s + (64 - 8 * s) = 64 by omega]
  rw [e]
  exact Nat.mul_lt_mul_of_pos_right h (Nat.two_pow_pos _)

theorem putNumber_any (k v : Int) (w : World) (hk : 1 ≤ k ∧ k ≤ 6) (h1 : least k ≤ v) (h2 : v ≤ great k) :
    Calls Tryd.prog 65 #[.int .i64 k, .int .i64 v] w fun e w' => ∃ A' c', e = .returned (.slice A' (ksize k : Nat) c') ∧ Own .u8 5 w' w.heap.size A' c' (be (ksize k) (v - least k).toNat) ∧ Ext w w' := by
  have hlt := knum_lt hk h1 h2
  have h8 := ksize_le k
  have hs : ksize k = 1 ∨ ksize k = 2 ∨ ksize k = 4 ∨ ksize k = 8 := by unfold ksize; split <;> (try split) <;> (try split) <;> omega
  refine putNumber_core k v (ksize k) _ (ksign k) (v - least k).toNat w hs (fun w => width_anyK k w hk.1 hk.2) rfl (put_lt h8.2 hlt) ?_ ?_
  · intro hsg w
    have h4 : k ≤ 4 := of_decide_eq_true hsg
    have e1 : least k = -(2 ^ (8 * ksize k - 1) : Int) ∧ great k < (2 ^ (8 * ksize k - 1) : Int) := by
      obtain rfl | rfl | rfl | rfl : k = 1 ∨ k = 2 ∨ k = 3 ∨ k = 4 := by omega
      all_goals decide
    obtain ⟨q1, q2, q3⟩ := put_signed (v := v) hs (by omega) (by omega)
    rw [show v - least k = v + (2 ^ (8 * ksize k - 1) : Int) by omega, ← q1]
    exact flip_any _ w q2 q3
  · intro hsg
    have h4 : ¬ k ≤ 4 := of_decide_eq_false hsg
    have e1 : least k = 0 ∧ great k < (2 ^ (8 * ksize k) : Int) ∧ (ksize k = 1 ∨ ksize k = 2) := by
      obtain rfl | rfl : k = 5 ∨ k = 6 := by omega
      all_goals decide
    rw [show v - least k = v by omega]
    exact put_unsigned e1.2.2 (by omega) (by omega)

end Go.Proofs.YtnkggopkcjffoaaDoor

/-
  Layer 7: the program's getNumber.
-/
namespace Go.Proofs.YtnkggopkcjffoaaDoor
open Go.RowKit

theorem Rd.dropAt {w : World} {b o n k : Nat} {bs : List Nat} (h : Rd .u8 w (some ⟨b, o, none⟩) n bs) (hk : k ≤ n) : Rd .u8 w (some ⟨b, o + k, none⟩) (n - k) (bs.drop k) := by
  refine ⟨by rw [List.length_drop, h.1], fun hn => ?_⟩
  obtain ⟨b', o', e, hb, hc⟩ := h.2 (by omega)
  injection e with e
  injection e with e1 e2
  subst e1 e2
  refine ⟨b, o + k, rfl, hb, fun j hj => ?_⟩
  have := hc (k + j) (by omega)
  rw [Nat.add_assoc, this]
  simp [List.getD, List.getElem?_drop]

theorem or_byte {u x : Nat} (hu : u < 72057594037927936) (hx : x < 256) : bits .or .u64 (IntKind.u64.wrap ((u : Int) * 256)) (x : Int) = ((u * 256 + x : Nat) : Int) := by
  rw [show IntKind.u64.wrap ((u : Int) * 256) = ((u * 256 : Nat) : Int) by rw [IntKind.wrap_u64]; omega, u64_or_nat _ _ (by omega) (by omega), Nat.mul_comm u 256, show (256 : Nat) = 2 ^ 8 from rfl, ← Nat.two_pow_add_eq_or_of_lt (by omega)]
theorem bval_step {bs : List Nat} {j : Nat} (hj : j < bs.length) : bval (bs.take (j + 1)) 0 = bval (bs.take j) 0 * 256 + bs.getD j 0 := by
  rw [← List.take_append_getElem hj, bval_append, List.getD_eq_getElem?_getD, List.getElem?_eq_getElem hj]
  rfl
theorem bval_lt' {bs : List Nat} {j : Nat} (hu : U8 bs) (hj : j < bs.length) (h8 : j < 8) : bval (bs.take j) 0 < 72057594037927936 := by
  have h1 := bval_lt (bs.take j) 0 (fun v hv => hu v (List.mem_of_mem_take hv))
  rw [List.length_take, Nat.min_eq_left (by omega)] at h1
  have h2 : 256 ^ j ≤ 256 ^ 7 := Nat.pow_le_pow_right (by omega) (by omega)
  omega

theorem wrap_u64_in (v : Int) : 0 ≤ IntKind.u64.wrap v ∧ IntKind.u64.wrap v ≤ 18446744073709551615 := by rw [IntKind.wrap_u64]; omega
theorem get_signed {u s : Nat} (hs : s = 1 ∨ s = 2 ∨ s = 4 ∨ s = 8) (h : u < 256 ^ s) : unflS (IntKind.u64.wrap ((u : Int) * 2 ^ (64 - 8 * s))) / 2 ^ (64 - 8 * s) = (u : Int) + -(2 ^ (8 * s - 1) : Int) := by
  rw [IntKind.wrap_u64]
  rcases hs with rfl | rfl | rfl | rfl <;> simp at h ⊢ <;> unfold unflS <;> omega
theorem get_unsigned {u s : Nat} (hs : s = 1 ∨ s = 2) (h : u < 256 ^ s) : wrap64 (u : Int) = (u : Int) + 0 := by
  rcases hs with rfl | rfl <;> simp at h ⊢ <;> unfold wrap64 <;> omega

def GetNPost (k : Int) (bs : List Nat) (w : World) (e : Ending) (w' : World) : Prop :=
  Ext w w' ∧ if bs.length < ksize k then e = .returned (.tuple #[.int .i64 0, .slice none 0 0, .bool false])
  else ∃ A c, e = .returned (.tuple #[.int .i64 ((bval (bs.take (ksize k)) 0 : Int) + least k), .slice A (bs.length - ksize k : Nat) c, .bool true]) ∧ Rd .u8 w' A (bs.length - ksize k) (bs.drop (ksize k)) ∧ bs.length - ksize k ≤ c

set_option maxRecDepth 100000 in
set_option maxHeartbeats 1600000 in
theorem getNumber_core (k V T : Int) (s n c b o : Nat) (sg : Bool) (bs : List Nat) (w : World) (hx : Rd .u8 w (some ⟨b, o, none⟩) n bs) (hu : U8 bs) (_hn : n ≤ 140737488355328) (hcn : n ≤ c) (hs : s = 1 ∨ s = 2 ∨ s = 4 ∨ s = 8) (hsn : s ≤ n)
    (hw : ∀ w, Calls Tryd.prog 75 #[.int .i64 k] w fun e w' => e = .returned (.tuple #[.int .i64 (s : Nat), .bool sg]) ∧ w = w')
    (hF : sg = true → ∀ w, Calls Tryd.prog 78 #[.int .u64 (IntKind.u64.wrap (((bval (bs.take s) 0 : Nat) : Int) * 2 ^ (64 - 8 * s)))] w fun e w' => e = .returned (.int .i64 T) ∧ w = w')
    (hT : sg = true → T / 2 ^ (64 - 8 * s) = V)
    (hN : sg = false → wrap64 ((bval (bs.take s) 0 : Nat) : Int) = V) :
    Calls Tryd.prog 67 #[.int .i64 k, .slice (some ⟨b, o, none⟩) n c] w fun e w' => Ext w w' ∧ ∃ A c, e = .returned (.tuple #[.int .i64 V, .slice A (n - s : Nat) c, .bool true]) ∧ Rd .u8 w' A (n - s) (bs.drop s) ∧ n - s ≤ c := by
  have Hw := Lib.hid hw
  have HF := Lib.hid hF
  have HN := Lib.hid hN
  have HT := Lib.hid hT
  clear hw hF hN hT
  have hs8 : s ≤ 8 := by omega
  have hs0 : 1 ≤ s := by omega
  have Hs := Lib.hid hs
  clear hs
  have Hl := Lib.hid hx.len
  have Hd := Lib.hid (hx.dropAt hsn)
  have Hd0 : Hid (c = s → Rd .u8 w (some ⟨b, o, none⟩) (n - s) (bs.drop s)) := Lib.hid fun h => by
    rw [show n - s = 0 by omega, List.drop_of_length_le (by have := Hl.out; omega)]
    exact Rd.nil _ _ _
  have hns : decide ((n : Int) < (s : Int)) = false := decide_eq_false (by omega)
  cases sg
  all_goals
    go_enter Tryd.func67, Tryd.ntmps67
    go_wp2_with fail
    refine (Hw.out _).mono ?_
    rintro e w1 ⟨rfl, rfl⟩
    go_wp2_with fail
    go_loop [9, 22] (fun v i => ∃ j : Nat, j ≤ s ∧ i = .int .i64 j ∧ v = .int .u64 ((bval (bs.take j) 0 : Nat) : Int)) (fun _ i => s - (intOf i).toNat)
    case atStart => exact ⟨0, Nat.zero_le _, rfl, rfl⟩
    case round =>
      obtain ⟨j, hj, rfl, rfl⟩ := hrel
      by_cases hlt : j < s
      · have hjl : j < bs.length := by have := Hl.out; omega
        obtain ⟨b', o', hA, hb, hcell⟩ := hx.at_ (show j < n by omega)
        injection hA with hA
        injection hA with hb' ho'
        subst hb' ho'
        have Hst := Lib.hid (bval_step hjl)
        have hx256 := hu.at_ j
        have Hor := Lib.hid (or_byte (bval_lt' hu hjl (by omega)) hx256)
        generalize bs.getD j 0 = x at *
        go_wp2
        go_round
        case rel => exact ⟨j + 1, by omega, by go_num, by rw [Hor.out, ← Hst.out]⟩
        case measure => simp [intOf]; omega
      · obtain rfl : j = s := by omega
        go_wp2_with (first | (go_at_call 78; refine (HF.out (by trivial) _).mono ?_; rintro e w1 ⟨rfl, rfl⟩))
        go_quiet (fail)
        all_goals
          go_wp2
          all_goals
            go_ret3
            first
              | (refine ⟨Ext.of_drewN _ _, some ⟨b, o + j, none⟩, c - j, ?_, Hd.out.drewN _, by omega⟩; (first | (rw [← HN.out (by trivial)]; rfl) | (rw [← HT.out (by trivial)]; rfl) | fail))
              | (refine ⟨Ext.of_drewN _ _, some ⟨b, o, none⟩, 0, ?_, (Hd0.out (by trivial)).drewN _, by omega⟩; (first | (rw [← HN.out (by trivial)]; rfl) | (rw [← HT.out (by trivial)]; rfl) | fail))
              | fail

theorem getNumber_any (k : Int) (A : Option Addr) (n c : Nat) (bs : List Nat) (w : World) (hx : Rd .u8 w A n bs) (hu : U8 bs) (hn : n ≤ 140737488355328) (hcn : n ≤ c) (hk : 1 ≤ k ∧ k ≤ 6) :
    Calls Tryd.prog 67 #[.int .i64 k, .slice A n c] w (GetNPost k bs w) := by
  have h8 := ksize_le k
  have hs : ksize k = 1 ∨ ksize k = 2 ∨ ksize k = 4 ∨ ksize k = 8 := by unfold ksize; split <;> (try split) <;> (try split) <;> omega
  have hl := hx.len
  have hW := fun w => width_anyK k w hk.1 hk.2
  unfold GetNPost
  by_cases h1 : n < ksize k
  · simp only [if_pos (show bs.length < ksize k by omega)]
    have Hw := Lib.hid hW
    generalize ksize k = s at *
    generalize ksign k = sg at *
    clear hW
    go_enter Tryd.func67, Tryd.ntmps67
    go_wp2_with fail
    refine (Hw.out _).mono ?_
    rintro e w1 ⟨rfl, rfl⟩
    go_wp2_with fail
    go_ret3
    exact ⟨Ext.refl _, rfl⟩
  · simp only [if_neg (show ¬ bs.length < ksize k by omega)]
    obtain ⟨b, o, rfl, -, -⟩ := hx.at_ (show 0 < n by omega)
    have hu' : U8 (bs.take (ksize k)) := fun v hv => hu v (List.mem_of_mem_take hv)
    have hlt : bval (bs.take (ksize k)) 0 < 256 ^ ksize k := by
      have := bval_lt (bs.take (ksize k)) 0 hu'
      rw [List.length_take, Nat.min_eq_left (by omega)] at this
      omega
    rw [hl]
    have e1 : ksign k = true → least k = -(2 ^ (8 * ksize k - 1) : Int) := fun hsg => by
      have h4 : k ≤ 4 := of_decide_eq_true hsg
      obtain rfl | rfl | rfl | rfl : k = 1 ∨ k = 2 ∨ k = 3 ∨ k = 4 := by omega
      all_goals decide
    have e2 : ksign k = false → least k = 0 ∧ (ksize k = 1 ∨ ksize k = 2) := fun hsg => by
      have h4 : ¬ k ≤ 4 := of_decide_eq_false hsg
      obtain rfl | rfl : k = 5 ∨ k = 6 := by omega
      all_goals decide
    refine getNumber_core k _ (unflS (IntKind.u64.wrap (((bval (bs.take (ksize k)) 0 : Nat) : Int) * 2 ^ (64 - 8 * ksize k)))) (ksize k) n c b o (ksign k) bs w hx hu hn hcn hs (by omega) hW (fun hsg w => ?_) (fun hsg => ?_) (fun hsg => ?_)
    · exact unflip_any _ w (wrap_u64_in _).1 (wrap_u64_in _).2
    · rw [e1 hsg]
      exact get_signed hs hlt
    · rw [(e2 hsg).1]
      exact get_unsigned (e2 hsg).2 hlt

end Go.Proofs.YtnkggopkcjffoaaDoor

/-
  Layer 7: the first 0 within bytes; bytes.Index, bytes.Cut, bytes.Clone and the program's getText.
-/
namespace Go.Proofs.YtnkggopkcjffoaaDoor
open Go.RowKit

/-- Where the first 0 stands. -/
def zpos : List Nat → Nat
  | [] => 0
  | x :: r => if x = 0 then 0 else zpos r + 1
theorem zpos_lt : ∀ {l : List Nat}, 0 ∈ l → zpos l < l.length
  | [], h => by cases h
  | x :: r, h => by
    by_cases q : x = 0
    · rw [zpos, if_pos q, List.length_cons]; omega
    · rw [zpos, if_neg q, List.length_cons]
      have := zpos_lt (l := r) ((List.mem_cons.1 h).resolve_left (fun e => q e.symm))
      omega
theorem zpos_at : ∀ {l : List Nat}, 0 ∈ l → l.getD (zpos l) 0 = 0
  | [], h => by cases h
  | x :: r, h => by
    by_cases q : x = 0
    · rw [zpos, if_pos q]; exact q
    · rw [zpos, if_neg q]
      exact zpos_at (l := r) ((List.mem_cons.1 h).resolve_left (fun e => q e.symm))
theorem idx_pos : ∀ {xs : List Nat}, U8 xs → Lib.indexByte (u8s xs) 0 = if 0 ∈ xs then ((zpos xs : Nat) : Int) else -1
  | [], _ => by simp [u8s, Lib.bytesOf, Lib.indexByte]
  | x :: r, h => by
    have hx : x < 256 := h x List.mem_cons_self
    have ih := idx_pos (xs := r) (fun y hy => h y (List.mem_cons_of_mem _ hy))
    have he : (UInt8.ofNat x == 0) = decide (x = 0) := by
      rw [Bool.eq_iff_iff, beq_iff_eq, decide_eq_true_iff]
      exact u8_inj (y := 0) hx (by omega)
    rw [u8s_cons, Lib.indexByte, he, zpos]
    by_cases hx0 : x = 0
    · simp [hx0]
    · rw [decide_eq_false hx0, if_neg hx0]
      simp only [Bool.false_eq_true, if_false]
      have hm : (0 ∈ x :: r) ↔ 0 ∈ r := by
        rw [List.mem_cons]
        exact ⟨fun q => q.resolve_left (fun e => hx0 e.symm), .inr⟩
      rw [ih]
      by_cases h0 : 0 ∈ r
      · rw [if_pos h0, if_pos (hm.2 h0)]
        have hb : (((zpos r : Nat) : Int) == -1) = false := by rw [beq_eq_false_iff_ne]; omega
        rw [hb]
        simp only [Bool.false_eq_true, if_false]
        omega
      · rw [if_neg h0, if_neg (fun q => h0 (hm.1 q))]
        rfl
theorem readT_pos : ∀ (l : List Nat), readT l = if 0 ∈ l then some (l.take (zpos l), l.drop (zpos l + 1)) else none
  | [] => by simp [readT]
  | x :: r => by
    rw [readT, zpos]
    by_cases q : x = 0
    · subst q; simp
    · rw [if_neg q, if_neg q, readT_pos r]
      have hm : (0 ∈ x :: r) ↔ 0 ∈ r := by
        rw [List.mem_cons]
        exact ⟨fun e => e.resolve_left (fun e => q e.symm), .inr⟩
      by_cases h0 : 0 ∈ r
      · rw [if_pos h0, if_pos (hm.2 h0)]; rfl
      · rw [if_neg h0, if_neg (fun e => h0 (hm.1 e))]; rfl

set_option maxRecDepth 100000 in
set_option maxHeartbeats 1600000 in
theorem indexS_any (A : Option Addr) (b n c c2 : Nat) (xs : List Nat) (w : World) (hx : Rd .u8 w A n xs) (hy : w.cell? ⟨b, 0, none⟩ = some (.int .u8 0)) :
    Calls Tryd.prog 84 #[.slice A n c, .slice (some ⟨b, 0, none⟩) 1 c2] w fun e w' => e = .returned (.int .i64 (Lib.indexByte (u8s xs) 0)) ∧ w = w' := by
  have Hx := Lib.hid hx
  go_enter Tryd.func84, Tryd.ntmps84
  go_wp2_with fail
  refine (index_any _ _ _ _ _ Hx.out).mono ?_
  rintro e w1 ⟨rfl, rfl⟩
  go_wp2_with fail
  go_ret
  exact ⟨rfl, rfl⟩

theorem clone_any (A : Option Addr) (n c : Nat) (bs : List Nat) (w : World) (hx : Rd .u8 w A n bs) (hn : n ≤ 180000000000000) :
    Calls Tryd.prog 80 #[.slice A n c] w fun e w' => ∃ A' c', e = .returned (.slice A' n c') ∧ Own .u8 5 w' w.heap.size A' c' bs ∧ Ext w w' := by
  have Hl := Lib.hid hx.len
  cases A with
  | none =>
    have h0 : n = 0 := by
      rcases Nat.eq_zero_or_pos n with h | h
      · exact h
      · obtain ⟨b, o, he, _⟩ := hx.2 h
        cases he
    subst h0
    have hb : bs = [] := List.eq_nil_of_length_eq_zero Hl.out
    subst hb
    have hq := fun w => Lib.run_eql_slice_nil (P := Tryd.prog) w 28 5 none 0 c 0 0 Tryd.underlying28
    go_enter Tryd.func80, Tryd.ntmps80
    go_wp2
    go_ret
    exact ⟨_, _, rfl, Own.nil .., Ext.refl w⟩
  | some a =>
    have hq := fun w => Lib.run_eql_slice_nil (P := Tryd.prog) w 28 5 (some a) n c 0 0 Tryd.underlying28
    have hown := Own.made (base := w.heap.size) .u8 5 w (Nat.le_refl _)
    have hrd := hx.ext ((Ext.refl w).alloc (.cells #[] 5))
    go_enter Tryd.func80, Tryd.ntmps80
    go_wp2_with (at_builtin; refine wpList_pushes (w0 := w) .u8 5 rfl _ _ 28 rfl _ 1 Tryd.underlying28 Tryd.infoU8 rfl hown 0 rfl rfl rfl hrd (by omega) (by omega) ((Ext.refl w).alloc _) (by simp) ?_; intro A1 c1 w1 hown1 hb1 hz1)
    go_ret
    exact ⟨_, _, rfl, by simpa using hown1, hb1⟩


def CutPost (bs : List Nat) (w : World) (A : Option Addr) (n c : Nat) (e : Ending) (w' : World) : Prop :=
  Ext w w' ∧ if 0 ∈ bs then ∃ A1 c1 A2 c2, e = .returned (.tuple #[.slice A1 (zpos bs : Nat) c1, .slice A2 (n - (zpos bs + 1) : Nat) c2, .bool true]) ∧ Rd .u8 w' A1 (zpos bs) (bs.take (zpos bs)) ∧ Rd .u8 w' A2 (n - (zpos bs + 1)) (bs.drop (zpos bs + 1)) ∧ n - (zpos bs + 1) ≤ c2
  else e = .returned (.tuple #[.slice A n c, .slice none 0 0, .bool false])

theorem Rd.takeAt {w : World} {A : Option Addr} {n k : Nat} {bs : List Nat} (h : Rd .u8 w A n bs) (hk : k ≤ n) : Rd .u8 w A k (bs.take k) := by
  refine ⟨by rw [List.length_take, h.1]; omega, fun hn => ?_⟩
  obtain ⟨b', o', e, hb, hc⟩ := h.2 (by omega)
  refine ⟨b', o', e, hb, fun j hj => ?_⟩
  rw [hc j (by omega)]
  simp [List.getD, hj]

set_option maxRecDepth 100000 in
set_option maxHeartbeats 1600000 in
theorem cut_any (A : Option Addr) (b n c c2 : Nat) (bs : List Nat) (w : World) (hx : Rd .u8 w A n bs) (hu : U8 bs) (hn : n ≤ 140737488355328) (hcn : n ≤ c) (hy : w.cell? ⟨b, 0, none⟩ = some (.int .u8 0)) :
    Calls Tryd.prog 79 #[.slice A n c, .slice (some ⟨b, 0, none⟩) 1 c2] w (CutPost bs w A n c) := by
  have Hl := Lib.hid hx.len
  have Hx := Lib.hid hx
  have hi := idx_pos hu
  unfold CutPost
  by_cases h0 : 0 ∈ bs
  · simp only [if_pos h0]
    rw [if_pos h0] at hi
    have hz := zpos_lt h0
    rw [Hl.out] at hz
    have Hi := Lib.hid hi
    obtain ⟨b1, o1, rfl, -, -⟩ := hx.at_ (show 0 < n by omega)
    have Hd := Lib.hid (hx.dropAt (show zpos bs + 1 ≤ n by omega))
    have Ht := Lib.hid (hx.takeAt (show zpos bs ≤ n by omega))
    have Hd0 : Hid (c = zpos bs + 1 → Rd .u8 w (some ⟨b1, o1, none⟩) (n - (zpos bs + 1)) (bs.drop (zpos bs + 1))) := Lib.hid fun h => by
      rw [show n - (zpos bs + 1) = 0 by omega, List.drop_of_length_le (by have := Hl.out; omega)]
      exact Rd.nil _ _ _
    clear hi hx
    generalize zpos bs = z at *
    go_enter Tryd.func79, Tryd.ntmps79
    go_wp2_with fail
    refine (indexS_any _ _ _ _ _ _ _ Hx.out hy).mono ?_
    rintro e w1 ⟨rfl, rfl⟩
    rw [Hi.out]
    go_wp2_with fail
    go_quiet (fail)
    all_goals
      go_wp2
      all_goals
        go_ret3
        first
          | exact ⟨Ext.of_drewN _ _, some ⟨b1, o1, none⟩, c, some ⟨b1, o1 + (z + 1), none⟩, c - (z + 1), rfl, Ht.out.drewN _, Hd.out.drewN _, by omega⟩
          | exact ⟨Ext.of_drewN _ _, some ⟨b1, o1, none⟩, z + 1, some ⟨b1, o1, none⟩, 0, rfl, Ht.out.drewN _, (Hd0.out (by trivial)).drewN _, by omega⟩
          | fail
  · simp only [if_neg h0]
    rw [if_neg h0] at hi
    have Hi := Lib.hid hi
    clear hi hx
    go_enter Tryd.func79, Tryd.ntmps79
    go_wp2_with fail
    refine (indexS_any _ _ _ _ _ _ _ Hx.out hy).mono ?_
    rintro e w1 ⟨rfl, rfl⟩
    rw [Hi.out]
    go_wp2_with fail
    go_ret3
    exact ⟨Ext.refl _, rfl⟩

/-- What getText and getBytes answer. -/
def GetXPost (r : Option (List Nat × List Nat)) (w : World) (e : Ending) (w' : World) : Prop :=
  Ext w w' ∧ match r with
  | none => e = .returned (.tuple #[.slice none 0 0, .slice none 0 0, .bool false])
  | some p => ∃ A1 c1 A2 c2, e = .returned (.tuple #[.slice A1 (p.1.length : Nat) c1, .slice A2 (p.2.length : Nat) c2, .bool true]) ∧ Own .u8 5 w' w.heap.size A1 c1 p.1 ∧ Rd .u8 w' A2 p.2.length p.2 ∧ p.2.length ≤ c2

set_option maxRecDepth 100000 in
set_option maxHeartbeats 1600000 in
theorem getText_any (A : Option Addr) (n c : Nat) (bs : List Nat) (w : World) (hx : Rd .u8 w A n bs) (hu : U8 bs) (hn : n ≤ 140737488355328) (hcn : n ≤ c) :
    Calls Tryd.prog 68 #[.slice A n c] w (GetXPost (readT bs) w) := by
  have Hl := Lib.hid hx.len
  have hE : Ext w (w.alloc (.cells #[.int .u8 0] 5)) := (Ext.refl w).alloc _
  have hy : (w.alloc (.cells #[.int .u8 0] 5)).cell? ⟨w.heap.size, 0, none⟩ = some (.int .u8 0) := by
    have hr := Rd.lit_at .u8 5 w [0] rfl rfl
    obtain ⟨b', o', hb, -, hc⟩ := hr.at_ (j := 0) (by simp)
    injection hb with hb
    injection hb with h1 h2
    subst h1 h2
    exact hc
  have hC := cut_any A w.heap.size n c 1 bs _ (hx.ext hE) hu hn hcn hy
  unfold CutPost at hC
  rw [readT_pos]
  by_cases h0 : 0 ∈ bs
  · simp only [if_pos h0] at hC ⊢
    have hz := zpos_lt h0
    rw [Hl.out] at hz
    have HC := Lib.hid hC
    clear hC hy hx
    go_enter Tryd.func68, Tryd.ntmps68
    go_wp2_with fail
    refine HC.out.mono ?_
    rintro e w1 ⟨he1, A1, c1, A2, c2, rfl, hr1, hr2, hc2⟩
    go_wp2_with fail
    refine (clone_any _ _ _ _ _ hr1 (by omega)).mono ?_
    rintro e w2 ⟨A3, c3, rfl, hown, he2⟩
    go_wp2_with fail
    go_ret3
    have e1 : (bs.take (zpos bs)).length = zpos bs := by rw [List.length_take, Hl.out]; omega
    have e2 : (bs.drop (zpos bs + 1)).length = n - (zpos bs + 1) := by rw [List.length_drop, Hl.out]
    refine ⟨(hE.trans he1).trans he2, A3, c3, A2, c2, ?_, ?_, ?_, ?_⟩
    · rw [e1, e2]; rfl
    · exact hown.mono (by have := (hE.trans he1).size; omega)
    · rw [e2]; exact hr2.ext he2
    · rw [e2]; exact hc2
  · simp only [if_neg h0] at hC ⊢
    have HC := Lib.hid hC
    clear hC hy hx
    go_enter Tryd.func68, Tryd.ntmps68
    go_wp2_with fail
    refine HC.out.mono ?_
    rintro e w1 ⟨he1, rfl⟩
    go_wp2_with fail
    go_ret3
    exact ⟨hE.trans he1, rfl⟩

end Go.Proofs.YtnkggopkcjffoaaDoor

/-
  Layer 7: bytes appended within a region that draws (out of Z9).
-/
namespace Go.Proofs.YtnkggopkcjffoaaDoor
open Go.RowKit

set_option maxRecDepth 100000 in
/-- 'append(out, ys...)' in a drawn region. -/
theorem step_pushes {w0 w : World} {ops : Array Oper} {o : Oper} {a : Act} {K : Act → World → Prop} {Q : Exit → Act → World → Prop} {E : Prop} (hgd : o.guard = none) (s y : Operand)
    (ho : o.op = .call { callee := .builtin .append, args := #[s, y], argTypes := #[28, 28] })
    {base : Nat} {A A2 : Option Addr} {c m c2 : Nat} {xs ys : List Nat} (hown : Own .u8 5 w base A c xs) (n : Nat) (hn : xs.length = n) (hs : a.eval s = .slice A n c)
    (hy : a.eval y = .slice A2 m c2) (hrd : Rd .u8 w A2 m ys) (hlen : n + m ≤ 180000000000000) (hb : Below base w0 w) (hbase : base ≤ w.heap.size)
    (h : ∀ A' c' w', Own .u8 5 w' base A' c' (xs ++ ys) → w.grownBy w' (Value.slice A n c).ownBlock → Below base w0 w' → base ≤ w'.heap.size → K (a.put o.dst (.slice A' (n + m : Nat) c')) w') :
    if Region.wanted o (yielded ops a.tmps) = true then Oper.wp Tryd.prog o a w K Q else E := by
  have hw : Region.wanted o (yielded ops a.tmps) = true := by simp [Region.wanted, hgd]
  rw [if_pos hw]
  subst hn
  obtain ⟨i, hi0, hz, hsz, hbs⟩ := info_parts Tryd.infoU8
  have hyl := hrd.len
  cases A2 with
  | none =>
    have hm : m = 0 := by
      rcases Nat.eq_zero_or_pos m with h0 | h0
      · exact h0
      · obtain ⟨b, o, he, _⟩ := hrd.2 h0
        cases he
    subst hm
    obtain rfl : ys = [] := List.eq_nil_of_length_eq_zero hyl
    have hrun := run_append_none (P := Tryd.prog) (w := w) 28 o.type i 1 c2 Tryd.underlying28 hi0 _ _ _ hown
    unfold Oper.wp
    simp [execOp, ho, resolve, invoke, builtin, hs, hy, hrun, Result.andThen]
    exact h A c w (by simpa using hown) (World.grownBy.refl _ _) hb hbase
  | some ad =>
    refine wp_append_own_wide w s y 28 ho base 5 i _ 1 1 Tryd.underlying28 hi0 hz hsz hbs rfl (by decide) _ xs.length (xs.map fun x : Nat => Value.int .u8 (x : Int)) hs hown
      ad m c2 (ys.map fun x : Nat => Value.int .u8 (x : Int)) hy (by simp [hyl]) ?_ ?_ (by unfold maxLen; omega) (by omega) hbase ?_
    · intro j u hj
      have hjl : j < ys.length := by
        have := (List.getElem?_eq_some_iff.1 hj).1
        simpa using this
      obtain ⟨b, o', he, hbl, hc⟩ := hrd.at_ (j := j) (by omega)
      injection he with he
      subst he
      have hadd : (⟨b, o', none⟩ : Addr).add j = ⟨b, o' + j, none⟩ := by simp [Addr.add]
      rw [hadd, hc]
      rw [List.getElem?_map, List.getElem?_eq_getElem hjl] at hj
      simp at hj
      simp [← hj, hjl]
    · intro u hu
      obtain ⟨x, _, rfl⟩ := List.mem_map.1 hu
      rfl
    · intro v' w' hown' hg _
      have hform : ∃ A' c', v' = .slice A' (xs.length + m) c' := by
        rcases hown'.2 with ⟨hv, h0⟩ | ⟨g, cap, cur, hv, _⟩
        · exact ⟨none, 0, by rw [hv, h0]⟩
        · exact ⟨_, _, hv⟩
      obtain ⟨A', c', rfl⟩ := hform
      have hb' : Below base w0 w' := Below.grown hb hg hbase (fun g hg' => (hown.lt g hg').1)
      refine h A' c' w' ?_ hg hb' ?_
      · unfold Own
        rw [List.length_append, hyl, List.map_append]
        exact hown'
      · have := hg.size
        omega


end Go.Proofs.YtnkggopkcjffoaaDoor
