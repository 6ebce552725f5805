/-
  Layer 17: times as counts; what has changed and what has not.
-/
import Derived.Test.YtkmnhapeohlooaaGR
import Derived.Test.YtkmnhapeohlooaaM8m
import Derived.Maps.OwnSet
import Derived.Maps.RangeWalk
namespace Go.Proofs.Ytkmnhapeohlooaa
open Go.RowKit Go.Maps

/-- Of what was there nothing has changed that lies below b0, or from base on. -/
structure Fr (b0 base : Nat) (w w' : World) : Prop where
  os : w'.os = w.os
  tape : w'.tape = w.tape
  output : w'.output = w.output
  size : w.heap.size ≤ w'.heap.size
  block : ∀ i, i < w.heap.size → (i < b0 ∨ base ≤ i) → w'.heap[i]? = w.heap[i]?

theorem Fr.refl (b0 base : Nat) (w : World) : Fr b0 base w w := ⟨rfl, rfl, rfl, Nat.le_refl _, fun _ _ _ => rfl⟩
theorem Fr.trans {b0 base : Nat} {a b c : World} (h : Fr b0 base a b) (k : Fr b0 base b c) : Fr b0 base a c :=
  ⟨k.os.trans h.os, k.tape.trans h.tape, k.output.trans h.output, Nat.le_trans h.size k.size, fun i hi hr => (k.block i (Nat.lt_of_lt_of_le hi h.size) hr).trans (h.block i hi hr)⟩
theorem Ext.fr {a b : World} (h : Ext a b) (b0 base : Nat) : Fr b0 base a b := ⟨h.os, h.tape, h.output, h.size, fun i hi _ => h.block i hi⟩
theorem grownBy_fr {b0 base g : Nat} {a b : World} (h : a.grownBy b (some g)) (h0 : b0 ≤ g) (h1 : g < base) : Fr b0 base a b :=
  ⟨h.os, h.tape, h.output, h.size, fun i hi hr => h.block i hi (by intro e; injection e with e; omega)⟩
theorem Fr.ext {W a b : World} {b0 base : Nat} (k : Ext W a) (h : Fr b0 base a b) (h0 : W.heap.size ≤ b0) : Ext W b :=
  ⟨h.os.trans k.os, h.tape.trans k.tape, h.output.trans k.output, Nat.le_trans k.size h.size, fun i hi => (h.block i (Nat.lt_of_lt_of_le hi k.size) (.inl (Nat.lt_of_lt_of_le hi h0))).trans (k.block i hi)⟩
theorem Fr.wide {a b : World} {b0 base b0' base' : Nat} (h : Fr b0 base a b) (h0 : b0' ≤ b0) (h1 : base ≤ base') : Fr b0' base' a b :=
  ⟨h.os, h.tape, h.output, h.size, fun i hi hr => h.block i hi (by omega)⟩

theorem OwnG.fr {T : Type} {s : Shape T} {e : TypeId} {w w' : World} {b0 base bs c : Nat} {A : Option Addr} {xs : List T} (h : OwnG s e w bs A c xs) (hf : Fr b0 base w w') (hb : base ≤ bs) : OwnG s e w' bs A c xs := by
  refine ⟨h.1, ?_⟩
  rcases h.2 with hn | ⟨g, cap, cur, hv, hg, hh, r⟩
  · exact Or.inl hn
  · exact Or.inr ⟨g, cap, cur, hv, hg, (hf.block g (Array.getElem?_eq_some_iff.1 hh).1 (.inr (Nat.le_trans hb hg))).trans hh, r⟩

/-- A key of a map of times. -/
abbrev tkey (t : Int) : Lit := .int .i64 t
theorem i64_min : IntKind.i64.min = -9223372036854775808 := rfl
theorem i64_max : IntKind.i64.max = 9223372036854775807 := rfl
theorem R64.wf {x : Int} (h : R64 x) : (Lit.int .i64 x).wf = true := by
  simp only [Lit.wf, Bool.and_eq_true, i64_min, i64_max]
  exact ⟨decide_eq_true h.1, decide_eq_true h.2⟩
theorem R64.of {x : Int} (h : (Lit.int .i64 x).wf = true) : R64 x := by
  simp only [Lit.wf, Bool.and_eq_true, i64_min, i64_max] at h
  exact ⟨of_decide_eq_true h.1, of_decide_eq_true h.2⟩
theorem tkey_is (t : Int) : WideAt.IsKeyLit (tkey t) := trivial

/-- The map D holds, for each time of l, how often it is there, and nothing else. -/
structure Cnt {H : Type} (D : DataW H) (l : List Int) : Prop where
  map : IsMap D
  at_ : ∀ t, D.atKey (tkey t) (.lit (.int .i64 0)) = .lit (.int .i64 (l.count t : Nat))
  has : ∀ t, Maps.has D (tkey t) = decide (0 < l.count t)

theorem Cnt.nil {H : Type} : Cnt (H := H) (.map []) [] := ⟨isMap_empty, fun _t => rfl, fun _t => rfl⟩
theorem tkey_ne {a b : Int} (h : a ≠ b) : tkey a ≠ tkey b := fun e => h (by injection e)

theorem Cnt.put {H : Type} {D : DataW H} {l l' : List Int} (h : Cnt D l) {t : Int} {c : Int} (hc : c = (l'.count t : Nat)) (h0 : 0 < l'.count t) (ho : ∀ s, s ≠ t → l'.count s = l.count s) : Cnt (D.put (tkey t) (.lit (.int .i64 c))) l' := by
  refine ⟨h.map.put _ _, fun s => ?_, fun s => ?_⟩
  · by_cases e : s = t
    · subst e; rw [atKey_put_same h.map (tkey_is _), hc]
    · rw [atKey_put_other (tkey_ne e), h.at_, ho s e]
  · by_cases e : s = t
    · subst e; rw [has_put_same h.map (tkey_is _), decide_eq_true h0]
    · rw [has_put_other (tkey_ne e), h.has, ho s e]
theorem Cnt.del {H : Type} {D : DataW H} {l l' : List Int} (h : Cnt D l) {t : Int} (h0 : l'.count t = 0) (ho : ∀ s, s ≠ t → l'.count s = l.count s) : Cnt (D.del (tkey t)) l' := by
  refine ⟨h.map.del _, fun s => ?_, fun s => ?_⟩
  · by_cases e : s = t
    · subst e; rw [atKey_del_same, h0]; rfl
    · rw [atKey_del_other (tkey_ne e), h.at_, ho s e]
  · by_cases e : s = t
    · subst e; rw [has_del_same, h0]; rfl
    · rw [has_del_other (tkey_ne e), h.has, ho s e]
theorem Cnt.perm {H : Type} {D : DataW H} {l l' : List Int} (h : Cnt D l) (hp : ∀ t, l'.count t = l.count t) : Cnt D l' :=
  ⟨h.map, fun t => by rw [hp]; exact h.at_ t, fun t => by rw [hp]; exact h.has t⟩
theorem Cnt.mem {H : Type} {D : DataW H} {l : List Int} (h : Cnt D l) {t : Int} : Maps.has D (tkey t) = true ↔ t ∈ l := by
  rw [h.has, decide_eq_true_eq]; exact List.count_pos_iff

/-- The least of a number and of all of a list. -/
def leastL : List Int → Int → Int
  | [], t => t
  | x :: r, t => leastL r (if x < t then x else t)
theorem leastL_spec : ∀ (l : List Int) (t : Int), (leastL l t ≤ t) ∧ (∀ x ∈ l, leastL l t ≤ x) ∧ (leastL l t = t ∨ leastL l t ∈ l)
  | [], t => ⟨Int.le_refl _, (by intro x hx; cases hx), .inl rfl⟩
  | y :: r, t => by
    obtain ⟨h1, h2, h3⟩ := leastL_spec r (if y < t then y else t)
    unfold leastL
    refine ⟨?_, ?_, ?_⟩
    · split at h1 <;> split <;> omega
    · intro x hx
      rcases List.mem_cons.1 hx with rfl | hx
      · split at h1 <;> split <;> omega
      · exact h2 x hx
    · rcases h3 with h3 | h3
      · by_cases q : y < t
        · rw [if_pos q] at h3 ⊢; exact .inr (by rw [h3]; simp)
        · rw [if_neg q] at h3 ⊢; exact .inl h3
      · exact .inr (List.mem_cons_of_mem _ h3)
theorem leastL_is {l : List Int} {t m : Int} (h1 : m ≤ t) (h2 : ∀ x ∈ l, m ≤ x) (h3 : m = t ∨ m ∈ l) : m = leastL l t := by
  obtain ⟨k1, k2, k3⟩ := leastL_spec l t
  have : leastL l t ≤ m := by
    rcases h3 with h3 | h3
    · omega
    · exact k2 m h3
  have : m ≤ leastL l t := by
    rcases k3 with k3 | k3
    · omega
    · exact h2 _ k3
  omega
theorem leastL_perm {l l' : List Int} (h : ∀ x, x ∈ l ↔ x ∈ l') (t : Int) : leastL l t = leastL l' t := by
  obtain ⟨k1, k2, k3⟩ := leastL_spec l t
  refine leastL_is k1 (fun x hx => k2 x ((h x).2 hx)) ?_
  rcases k3 with k3 | k3
  · exact .inl k3
  · exact .inr ((h _).1 k3)

/-- A list with no more of anything is no longer. -/
theorem count_le_length : ∀ {a b : List Int}, (∀ t, a.count t ≤ b.count t) → a.length ≤ b.length
  | [], b, _ => Nat.zero_le _
  | x :: r, b, h => by
    have hx : x ∈ b := List.count_pos_iff.1 (Nat.lt_of_lt_of_le (by simp) (h x))
    have ih := count_le_length (a := r) (b := b.erase x) (fun t => by
      have := h t
      rw [List.count_cons] at this
      rw [List.count_erase]
      split at this
      · rename_i q
        rw [if_pos (by simpa using beq_iff_eq.1 q)]
        omega
      · rename_i q
        rw [if_neg (by simpa using fun e : x = t => q (by simp [e]))]
        omega)
    have h1 := List.length_erase_of_mem hx
    have h2 : 0 < b.length := List.length_pos_of_mem hx
    simp only [List.length_cons]
    omega

/-- Where the times of a range so far lie. -/
theorem count_snoc (l : List Int) (t s : Int) : (l ++ [t]).count s = l.count s + if s = t then 1 else 0 := by
  rw [List.count_append, List.count_singleton]
  by_cases e : s = t
  · subst e; simp
  · rw [if_neg e, if_neg (by simpa using fun q : t = s => e q.symm)]

/-- In order. -/
def sortZ (l : List Int) : List Int := l.mergeSort fun x y => decide (x ≤ y)
theorem sortZ_perm (l : List Int) : (sortZ l).Perm l := List.mergeSort_perm l _
theorem sortZ_sorted (l : List Int) : (sortZ l).Pairwise (fun x y => x ≤ y) := by
  have h := List.pairwise_mergeSort (le := fun x y : Int => decide (x ≤ y)) (fun a b c h1 h2 => by simp only [decide_eq_true_eq] at *; omega) (fun a b => by simp only [Bool.or_eq_true, decide_eq_true_eq]; omega) l
  exact h.imp fun {x y} q => by simpa using q
theorem sorted_unique {a b : List Int} (ha : a.Pairwise (fun x y => x ≤ y)) (hb : b.Pairwise (fun x y => x ≤ y)) (hp : a.Perm b) : a = b :=
  List.Perm.eq_of_pairwise (le := fun x y => x ≤ y) (fun x y _ _ h1 h2 => by omega) ha hb hp
theorem sortZ_of_count {a b : List Int} (h : ∀ t, a.count t = b.count t) : sortZ a = sortZ b :=
  sorted_unique (sortZ_sorted a) (sortZ_sorted b) ((sortZ_perm a).trans ((List.perm_iff_count.2 h).trans (sortZ_perm b).symm))

end Go.Proofs.Ytkmnhapeohlooaa
