/-
  Plain mathematics of layer 6: schemas.
-/
import Derived.Test.YtpjichclpnebjaaH2
import Derived.Maps.OwnSet
import Derived.Maps.Views
namespace Go.Proofs.Ytpjichclpnebjaa
open Go.RowKit Go.Maps Go.WideMaps

/-- A column's own rules. -/
def colB (keys : Int) (i : Nat) (c : Col) : Bool := nameB c.name && kindK c.kind && !(c.null && decide ((i : Int) < keys))
def colsB (keys : Int) : Nat → List Col → Bool
  | _, [] => true
  | i, c :: r => colB keys i c && colsB keys (i + 1) r
theorem colsB_iff {keys : Int} : ∀ {cs : List Col} {i : Nat}, colsB keys i cs = true ↔ ∀ j c, cs[j]? = some c → colB keys (i + j) c = true
  | [], i => by simp [colsB]
  | c :: r, i => by
    rw [colsB, Bool.and_eq_true, colsB_iff]
    constructor
    · rintro ⟨h1, h2⟩ j d hj
      cases j with
      | zero => simp at hj; subst hj; exact h1
      | succ j => have := h2 j d (by simpa using hj); rwa [show i + 1 + j = i + (j + 1) from by omega] at this
    · intro h
      refine ⟨h 0 c rfl, fun j d hj => ?_⟩
      have := h (j + 1) d (by simpa using hj)
      rwa [show i + (j + 1) = i + 1 + j from by omega] at this

/-- A schema's names. -/
def names (cs : List Col) : List (List UInt8) := cs.map fun c => c.name.data.toList
/-- Is a schema right? -/
def schB (keys : Int) (cs : List Col) : Bool := decide (1 ≤ cs.length ∧ cs.length ≤ 12 ∧ 1 ≤ keys ∧ keys ≤ 3 ∧ keys ≤ cs.length) && colsB keys 0 cs && decide ((names cs).Nodup)
def schE (keys : Int) (cs : List Col) : Int := if schB keys cs = true then 0 else 60

theorem schE_shape {keys : Int} {cs : List Col} (h : ¬ (1 ≤ cs.length ∧ cs.length ≤ 12 ∧ 1 ≤ keys ∧ keys ≤ 3 ∧ keys ≤ cs.length)) : schE keys cs = 60 := by
  unfold schE schB; rw [decide_eq_false h]; rfl
theorem schE_col {keys : Int} {cs : List Col} {j : Nat} {c : Col} (hj : cs[j]? = some c) (h : colB keys j c = false) : schE keys cs = 60 := by
  unfold schE schB
  rw [show colsB keys 0 cs = false from by
    rw [Bool.eq_false_iff]
    intro q
    have := colsB_iff.1 q j c hj
    rw [Nat.zero_add, h] at this
    cases this]
  simp
theorem schE_dup {keys : Int} {cs : List Col} (h : ¬ (names cs).Nodup) : schE keys cs = 60 := by
  unfold schE schB; rw [decide_eq_false h]; simp
theorem schE_ok {keys : Int} {cs : List Col} (h : 1 ≤ cs.length ∧ cs.length ≤ 12 ∧ 1 ≤ keys ∧ keys ≤ 3 ∧ keys ≤ cs.length) (h2 : ∀ j c, cs[j]? = some c → colB keys j c = true) (h3 : (names cs).Nodup) : schE keys cs = 0 := by
  unfold schE schB
  rw [decide_eq_true h, decide_eq_true h3, colsB_iff.2 (fun j c hj => by rw [Nat.zero_add]; exact h2 j c hj)]
  rfl

/-- The set of the first j names. -/
def nameL (c : Col) : Lit := .string c.name.data.toList
def Sn {H : Type} (cs : List Col) (j : Nat) : DataW H := setOf (.agg []) ((cs.take j).map nameL)
theorem Sn_succ {H : Type} {cs : List Col} {j : Nat} {c : Col} (hj : cs[j]? = some c) : Sn (H := H) cs (j + 1) = (Sn cs j).put (nameL c) (.agg []) := by
  unfold Sn
  rw [List.take_add_one, hj, List.map_append]
  exact setOf_snoc _ _ _
theorem Sn_zero {H : Type} (cs : List Col) : Sn (H := H) cs 0 = .map [] := by simp [Sn, setOf]

theorem key_lit (l : List (List UInt8)) : ∀ x ∈ l.map Lit.string, WideAt.IsKeyLit x := by
  intro x hx
  obtain ⟨y, _, rfl⟩ := List.mem_map.1 hx
  trivial

theorem size_set {H : Type} : ∀ (n : Nat) (l : List (List UInt8)), l.length = n → Maps.size (setOf (.agg [] : DataW H) (l.map Lit.string)) ≤ n ∧ (Maps.size (setOf (.agg [] : DataW H) (l.map Lit.string)) = n ↔ l.Nodup)
  | 0, l, h => by
    obtain rfl := List.eq_nil_of_length_eq_zero h
    simp [setOf, Maps.size_eq]
  | n + 1, l, h => by
    rcases List.eq_nil_or_concat l with rfl | ⟨r, x, rfl⟩
    · simp at h
    · have hr : r.length = n := by simpa using h
      obtain ⟨h1, h2⟩ := size_set (H := H) n r hr
      have ht := tidy_setOf (.agg [] : DataW H) (r.map Lit.string) (key_lit r)
      rw [List.concat_eq_append, List.map_append, List.map_cons, List.map_nil, setOf_snoc, size_put ht, has_setOf _ _ _ (key_lit r)]
      have hany : (r.map Lit.string).any (fun y => y.sameKey (.string x)) = decide (x ∈ r) := by
        rw [Bool.eq_iff_iff, List.any_eq_true, decide_eq_true_iff]
        constructor
        · rintro ⟨y, hy, hs⟩
          obtain ⟨z, hz, rfl⟩ := List.mem_map.1 hy
          have := WideAt.sameKey_eq hs
          injection this with this
          exact this ▸ hz
        · intro hx
          exact ⟨.string x, List.mem_map.2 ⟨x, hx, rfl⟩, WideAt.sameKey_self trivial⟩
      rw [hany]
      by_cases hx : x ∈ r
      · rw [decide_eq_true hx, if_pos rfl]
        refine ⟨by omega, ⟨fun q => by omega, fun q => ?_⟩⟩
        have := List.nodup_append.1 q
        exact absurd rfl (this.2.2 x hx x (by simp))
      · rw [decide_eq_false hx, if_neg (by decide)]
        refine ⟨by omega, ⟨fun q => ?_, fun q => ?_⟩⟩
        · have hn := h2.1 (by omega)
          exact List.nodup_append.2 ⟨hn, by simp, fun a ha b hb => by simp at hb; subst hb; intro e; exact hx (e ▸ ha)⟩
        · have := h2.2 (List.nodup_append.1 q).1
          omega

theorem size_Sn {H : Type} (cs : List Col) : Maps.size (Sn (H := H) cs cs.length) ≤ cs.length ∧ (Maps.size (Sn (H := H) cs cs.length) = cs.length ↔ (names cs).Nodup) := by
  have h := size_set (H := H) cs.length (names cs) (by simp [names])
  have e : Sn (H := H) cs cs.length = setOf (.agg []) ((names cs).map Lit.string) := by
    unfold Sn names
    rw [List.take_length, List.map_map]
    rfl
  rw [e]
  exact h

end Go.Proofs.Ytpjichclpnebjaa
