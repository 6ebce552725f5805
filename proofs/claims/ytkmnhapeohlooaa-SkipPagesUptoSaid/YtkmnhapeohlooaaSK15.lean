/-
  Layer 18: what was put in last is got.
-/
import Derived.Test.YtkmnhapeohlooaaSK14
namespace Go.Proofs.Ytkmnhapeohlooaa
open Go.RowKit
set_option maxRecDepth 100000

/-- What is got of a key. -/
def gv (L : List (List Nat)) (V : List Int) (a : List Nat) : Int := if L[skN a L]? = some a then V.getD (skN a L) 0 else 0

theorem skN_pos {L : List (List Nat)} (ha : Asc L) {a : List Nat} {p : Nat} (hp : L[p]? = some a) : skN a L = p ∧ L[skN a L]? = some a := by
  have hm : a ∈ L := List.mem_of_getElem? hp
  have h1 : L[skN a L]? = some a := by
    refine Classical.byContradiction fun h => skN_notMem h ha hm
  exact ⟨asc_eq ha h1 hp, h1⟩
theorem skN_iff {L : List (List Nat)} (ha : Asc L) {a : List Nat} : L[skN a L]? = some a ↔ a ∈ L := by
  constructor
  · exact fun h => List.mem_of_getElem? h
  · intro h
    obtain ⟨p, hp⟩ := List.getElem?_of_mem h
    exact (skN_pos ha hp).2
theorem gv_at {L : List (List Nat)} (ha : Asc L) {V : List Int} {a : List Nat} {p : Nat} (hp : L[p]? = some a) : gv L V a = V.getD p 0 := by
  obtain ⟨h1, h2⟩ := skN_pos ha hp
  unfold gv
  rw [if_pos h2, h1]
theorem gv_none {L : List (List Nat)} (ha : Asc L) {V : List Int} {a : List Nat} (h : ¬ a ∈ L) : gv L V a = 0 := by
  unfold gv
  rw [if_neg (fun q => h ((skN_iff ha).1 q))]

theorem gv_put {L : List (List Nat)} (ha : Asc L) {V : List Int} (hV : V.length = L.length) (t : List Nat) (v : Int) (a : List Nat) (ha2 : Asc (insL L t)) :
    gv (insL L t) (putV L V t v) a = if t = a then v else gv L V a := by
  by_cases hy : L[skN t L]? = some t
  · have hl := (List.getElem?_eq_some_iff.1 hy).1
    rw [insL_yes hy] at ha2 ⊢
    unfold putV
    rw [if_pos hy]
    by_cases e : t = a
    · subst e
      rw [if_pos rfl, gv_at ha hy]
      simp [List.getD, hV, hl]
    · rw [if_neg e]
      by_cases hm : a ∈ L
      · obtain ⟨p, hp⟩ := List.getElem?_of_mem hm
        rw [gv_at ha hp, gv_at ha hp]
        have hne : skN t L ≠ p := fun q => by rw [q, hp] at hy; injection hy with hy; exact e hy.symm
        rw [List.getD, List.getD, List.getElem?_set_ne hne]
      · rw [gv_none ha hm, gv_none ha hm]
  · have hsl := skN_le t L
    rw [insL_no hy] at ha2 ⊢
    have hlt : (L.take (skN t L) ++ t :: L.drop (skN t L))[skN t L]? = some t := by rw [ins_at hsl, if_neg (by omega), if_pos rfl]
    unfold putV
    rw [if_neg hy]
    have hVs : skN t L ≤ V.length := by rw [hV]; exact hsl
    by_cases e : t = a
    · subst e
      rw [if_pos rfl, gv_at ha2 hlt, List.getD, ins_at hVs, if_neg (by omega), if_pos rfl]
      rfl
    · rw [if_neg e]
      by_cases hm : a ∈ L
      · obtain ⟨p, hp⟩ := List.getElem?_of_mem hm
        rw [gv_at ha hp]
        by_cases hq : p < skN t L
        · rw [gv_at (p := p) ha2 (by rw [ins_at hsl, if_pos hq]; exact hp), List.getD, ins_at hVs, if_pos hq]
          rfl
        · rw [gv_at (p := p + 1) ha2 (by rw [ins_at hsl, if_neg (by omega), if_neg (by omega)]; exact hp), List.getD, ins_at hVs, if_neg (by omega), if_neg (by omega)]
          rfl
      · rw [gv_none ha hm, gv_none ha2]
        intro h
        rw [← insL_no hy] at h
        rcases insL_mem.1 h with h | h
        · exact hm h
        · exact e h.symm

theorem putV_len {L : List (List Nat)} {V : List Int} (hV : V.length = L.length) (t : List Nat) (v : Int) : (putV L V t v).length = (insL L t).length := by
  by_cases hy : L[skN t L]? = some t
  · rw [insL_yes hy]
    unfold putV
    rw [if_pos hy, List.length_set, hV]
  · have hsl := skN_le t L
    rw [insL_no hy]
    unfold putV
    rw [if_neg hy]
    simp [hV]

/-- The list behind the first puts, the i-th with the value i + d. -/
def lvA (ks : List (List Nat)) (d : Int) : Nat → List (List Nat) × List Int
  | 0 => ([], [])
  | j + 1 => (insL (lvA ks d j).1 (ks.getD j []), putV (lvA ks d j).1 (lvA ks d j).2 (ks.getD j []) (j + d))
/-- The last of the first that is a, and one: or 0. -/
def lastA (ks : List (List Nat)) (a : List Nat) : Nat → Nat
  | 0 => 0
  | j + 1 => if ks.getD j [] = a then j + 1 else lastA ks a j

theorem lastA_succ (ks : List (List Nat)) (a : List Nat) (j : Nat) : lastA ks a (j + 1) = if ks.getD j [] = a then j + 1 else lastA ks a j := rfl

theorem lvA_dents (ks : List (List Nat)) (d : Int) : ∀ j, j ≤ ks.length → (lvA ks d j).1 = dents (ks.take j)
  | 0, _ => rfl
  | j + 1, h => by
    have hj : ks[j]? = some (ks.getD j []) := by rw [List.getD, List.getElem?_eq_getElem (by omega)]; rfl
    show insL (lvA ks d j).1 (ks.getD j []) = _
    rw [lvA_dents ks d j (by omega), dents_step hj]
theorem lvA_len (ks : List (List Nat)) (d : Int) : ∀ j, (lvA ks d j).2.length = (lvA ks d j).1.length ∧ (lvA ks d j).1.length ≤ j
  | 0 => ⟨rfl, Nat.le_refl _⟩
  | j + 1 => ⟨putV_len (lvA_len ks d j).1 _ _, Nat.le_trans (insL_len _ _) (Nat.succ_le_succ (lvA_len ks d j).2)⟩
theorem lvA_asc (ks : List (List Nat)) (d : Int) (j : Nat) (h : j ≤ ks.length) : Asc (lvA ks d j).1 := by rw [lvA_dents ks d j h]; exact dents_asc _
theorem lvA_get (ks : List (List Nat)) (a : List Nat) : ∀ j, j ≤ ks.length → gv (lvA ks 1 j).1 (lvA ks 1 j).2 a = (lastA ks a j : Int) ∧ ((a ∈ (lvA ks 1 j).1) ↔ 0 < lastA ks a j)
  | 0, _ => ⟨rfl, by simp [lvA, lastA]⟩
  | j + 1, h => by
    obtain ⟨h1, h2⟩ := lvA_get ks a j (by omega)
    have ha := lvA_asc ks 1 (j + 1) h
    refine ⟨?_, ?_⟩
    · show gv (insL _ _) (putV _ _ _ _) a = _
      rw [gv_put (lvA_asc ks 1 j (by omega)) (lvA_len ks 1 j).1 _ _ a ha, h1, lastA_succ]
      by_cases e : ks.getD j [] = a
      · rw [if_pos e, if_pos e]; exact (Int.natCast_succ j).symm
      · rw [if_neg e, if_neg e]
    · show a ∈ insL _ _ ↔ _
      rw [insL_mem, h2, lastA_succ]
      by_cases e : ks.getD j [] = a
      · rw [if_pos e]; exact ⟨fun _ => by omega, fun _ => .inr e.symm⟩
      · rw [if_neg e]; exact ⟨fun q => q.elim id (fun q => absurd q.symm e), .inl⟩
theorem lastA_le (ks : List (List Nat)) (a : List Nat) : ∀ j, lastA ks a j ≤ j
  | 0 => Nat.le_refl _
  | j + 1 => by
    unfold lastA
    split
    · exact Nat.le_refl _
    · exact Nat.le_succ_of_le (lastA_le ks a j)

theorem rng_whole (L : List (List Nat)) (V : List Int) (hV : V.length = L.length) : rngK L [] [] = L ∧ rngV L V [] [] = V := by
  have hs : skN [] L = 0 := skN_zero (fun x _ => by cases x <;> simp [ordT])
  have hk : rngK L [] [] = L := by
    unfold rngK
    rw [hs, List.drop_zero]
    exact tw_all (fun x _ => rfl)
  refine ⟨hk, ?_⟩
  unfold rngV
  rw [hk, hs, List.drop_zero, List.take_of_length_le (by omega)]

end Go.Proofs.Ytkmnhapeohlooaa
