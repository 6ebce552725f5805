import Derived.Test.YtjckfbpdnpehcaaYDKE
import Derived.Test.YtjckfbpdnpehcaaKB

/-
  Layer 14: the document's Load fails where the disk's does, with the same error.
-/
namespace Go.Proofs.Ytjckfbpdnpehcaa
open Go.RowKit Go.Maps Go.WideMaps
set_option maxRecDepth 100000

theorem names_ld {F : List (List UInt8 × List Nat)} {ids : Nat → Nat} {room : Int} : ∀ j, j ≤ F.length → (∀ i e, i < j → F[i]? = some e → refC (ldS (newS room) F ids i) e.1 = 0) → (dirF F j).map (·.1) = (ldS (newS room) F ids j).files.map (·.1) ∧ AscD (ldS (newS room) F ids j).files
  | 0, _, _ => ⟨rfl, List.Pairwise.nil⟩
  | j + 1, hj, h => by
    obtain ⟨h1, h2⟩ := names_ld j (by omega) (fun i e hi => h i e (by omega))
    have hx : F[j]? = some F[j] := List.getElem?_eq_getElem (by omega)
    have hr := h j _ (by omega) hx
    obtain ⟨_, hl, _⟩ := refC_ok hr
    have hd : dirF F (j + 1) = withL F[j].1 (j : Int) (dirF F j) := by
      show (match F[j]? with | some e => withL e.1 (j : Int) (dirF F j) | none => dirF F j) = _
      rw [hx]
    have hs : ldS (newS room) F ids (j + 1) = ldStep F[j] (ids j) (ldS (newS room) F ids j) := by
      show (match F[j]? with | some e => ldStep e (ids j) (ldS (newS room) F ids j) | none => ldS (newS room) F ids j) = _
      rw [hx]
    rw [hd, hs]
    have hn : F[j].1 ∉ (dirF F j).map (·.1) := fun q => by
      rw [h1] at q
      have := lkp_iff.2 q
      rw [hl] at this
      cases this
    exact ⟨names_put h2 h1 hn, asc_put h2 _ _⟩
theorem refE_ld {F : List (List UInt8 × List Nat)} {ids : Nat → Nat} {room : Int} {j : Nat} (hj : j ≤ F.length) (hL : Laid (newS room) F ids j) (x : List UInt8) : refE x (dirF F j) = refC (ldS (newS room) F ids j) x :=
  refE_refC (dirF_ids F j) (names_ld j hj (fun i e hi he => hL.ok i e hi he)).1
theorem Laid.less {S0 : DS} {F : List (List UInt8 × List Nat)} {ids : Nat → Nat} {j : Nat} (h : Laid S0 F ids j) {i : Nat} (hi : i ≤ j) : Laid S0 F ids i := ⟨fun k e hk => h.ok k e (by omega), fun k f hk => h.new k f (by omega)⟩

theorem rload_err {room : Int} {F : List (List UInt8 × List Nat)} {ids : Nat → Nat} {j : Nat} {x : List UInt8 × List Nat} {w w' : World} {e : Ending} (hL : Laid (newS room) F ids j) (hx : F[j]? = some x) (hr : refC (ldS (newS room) F ids j) x.1 ≠ 0) (h : RLoadPost room F w e w') :
    e = .returned (.tuple #[rZero, .int .i64 (refC (ldS (newS room) F ids j) x.1)]) ∧ Ext w w' := by
  have hj : j < F.length := (List.getElem?_eq_some_iff.1 hx).1
  have he := refE_ld (Nat.le_of_lt hj) hL x.1
  rcases h with ⟨_, _, _, _, _, _, h2, _⟩ | ⟨k, y, h1, h2, h3, h4, h5⟩
  · exact absurd (he.symm.trans (h2 j x hj hx)) hr
  · have hk : k < F.length := (List.getElem?_eq_some_iff.1 h1).1
    rcases Nat.lt_trichotomy k j with q | q | q
    · have h6 := refE_ld (Nat.le_of_lt hk) (hL.less (Nat.le_of_lt q)) y.1
      rw [hL.ok k y q h1] at h6
      exact absurd h6 h3
    · subst q
      rw [hx] at h1
      injection h1 with h1
      subst h1
      rw [he] at h4
      exact ⟨h4, h5⟩
    · exact absurd (he.symm.trans (h2 j x q hx)) hr

end Go.Proofs.Ytjckfbpdnpehcaa
