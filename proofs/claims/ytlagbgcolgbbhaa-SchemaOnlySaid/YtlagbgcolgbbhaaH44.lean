/-
  Layer 6: the statement SchemaOnly, walked.
-/
import Derived.Test.YtlagbgcolgbbhaaH43
namespace Go.Proofs.Ytlagbgcolgbbhaa
open Go.RowKit

/-- What is got as a row has no error, and its bytes are the only ones. -/
theorem growS_put {keys : Int} {cs : List Col} {bs : List Nat} {at_ : Int} (hu : U8 bs) (h : (growS keys cs bs at_).2.2 = 0) :
    ∃ a q : Nat, at_ = (a : Int) ∧ (growS keys cs bs at_).2.1 = (q : Int) ∧ a < q ∧ q ≤ bs.length ∧ ∀ xs : List Ci, xs.map Ci.val = (growS keys cs bs at_).1 → rowS keys cs xs = 0 ∧ prowL keys cs xs = (bs.drop a).take (q - a) := by
  by_cases h0 : schE keys cs = 0
  · have e : growS keys cs bs at_ = growA bs cs at_ [] := by unfold growS; rw [if_neg (fun q => q h0)]
    rw [e] at h ⊢
    have hl := (schE_inv h0).1
    match cs, hl with
    | c :: r, _ =>
      have hg : (gcell c bs at_).err = 0 := by
        rw [growA] at h
        by_cases q : (gcell c bs at_).err = 0
        · exact q
        · rw [if_pos q] at h; exact absurd h q
      obtain ⟨a, m1, e1, _, e3, e4, _⟩ := gcell_ok hu hg
      subst e1
      have hgn := hg
      obtain ⟨vs, q, g1, g2, g3, g4, g5, g6⟩ := growA_ok hu (cs := c :: r) (a := a) (acc := []) (by omega) h
      rw [List.nil_append] at g1
      have haq : a < q := by
        rcases Nat.lt_or_ge a q with hlt | hge
        · exact hlt
        · exfalso
          have : (bs.drop a).take (q - a) = [] := by rw [show q - a = 0 by omega]; rfl
          rw [this] at g5
          match vs, g4 with
          | v :: s, _ =>
            have hne : putB c v ++ rowB r s = [] := g5
            have h1 : chkW c v = 0 := rowW_iff.1 g6 0 c v rfl rfl
            have hp : putB c v = [] := (List.append_eq_nil_iff.1 hne).1
            rw [putB_ok h1] at hp
            unfold cby at hp
            split at hp
            · cases hp
            · split at hp <;> cases hp
      refine ⟨a, q, rfl, by rw [g1], haq, g3, fun xs hxs => ?_⟩
      rw [g1] at hxs
      simp only at hxs
      have hr : rowS keys (c :: r) xs = 0 := by
        rw [rowS_V hxs]
        unfold rowSV
        rw [if_neg (fun q => q h0), if_neg (fun q => q g4)]
        exact g6
      refine ⟨hr, ?_⟩
      unfold prowL
      rw [if_pos hr, hxs, g5]
  · unfold growS at h
    rw [if_pos h0] at h
    exact absurd h h0
theorem growS_bad {keys : Int} {cs : List Col} {bs : List Nat} {at_ : Int} (h : (growS keys cs bs at_).2.2 ≠ 0) : growS keys cs bs at_ = ([], 0, (growS keys cs bs at_).2.2) := by
  by_cases h0 : schE keys cs = 0
  · have e : growS keys cs bs at_ = growA bs cs at_ [] := by unfold growS; rw [if_neg (fun q => q h0)]
    rw [e] at h ⊢
    exact growA_bad h
  · unfold growS
    rw [if_pos h0]
theorem gsetsS_put {keys : Int} {cs : List Col} {bs : List Nat} {at_ : Int} (hu : U8 bs) (h : (gsetsS keys cs bs at_).2.2 = 0) :
    ∃ a q : Nat, at_ = (a : Int) ∧ (gsetsS keys cs bs at_).2.1 = (q : Int) ∧ a < q ∧ q ≤ bs.length ∧ ∀ xs : List Si, xs.map Si.val = (gsetsS keys cs bs at_).1 → setsS keys cs xs = 0 ∧ psetsL keys cs xs = (bs.drop a).take (q - a) := by
  by_cases h0 : schE keys cs = 0
  · by_cases h1 : (vget bs at_).2.2 = 0
    · by_cases h2 : (vget bs at_).1 < 1 ∨ 12 < (vget bs at_).1
      · unfold gsetsS at h
        rw [if_neg (fun q => q h0), if_neg (fun q => q h1), if_pos h2] at h
        exact absurd h (by decide)
      · have e : gsetsS keys cs bs at_ = gsetsA cs bs (vget bs at_).1 (keys - 1) (vget bs at_).2.1 [] := by
          unfold gsetsS
          rw [if_neg (fun q => q h0), if_neg (fun q => q h1), if_neg h2]
        rw [e] at h ⊢
        obtain ⟨u, nx, hv⟩ : ∃ u nx, vget bs at_ = (u, nx, 0) := ⟨(vget bs at_).1, (vget bs at_).2.1, by rw [← h1]⟩
        rw [hv] at h h2 ⊢
        simp only at h h2 ⊢
        obtain ⟨v1, v2, v3, v4, v5⟩ := vget_at hu hv
        obtain ⟨a, rfl⟩ := Int.eq_ofNat_of_zero_le v1
        obtain ⟨p, rfl⟩ := Int.eq_ofNat_of_zero_le (show 0 ≤ nx by omega)
        obtain ⟨ts, q, g1, g2, g3, g4, g5, g6⟩ := gsetsA_ok hu (cs := cs) (k := u) (L := keys - 1) (a := p) (acc := []) (by omega) h
        rw [List.nil_append] at g1
        refine ⟨a, q, rfl, by rw [g1], by omega, g3, fun xs hxs => ?_⟩
        rw [g1] at hxs
        simp only at hxs
        have hr : setsS keys cs xs = 0 := by
          rw [setsS_V hxs]
          unfold setsSV
          rw [if_neg (fun q => q h0), if_neg (by omega)]
          exact g6
        refine ⟨hr, ?_⟩
        unfold psetsL setsB
        rw [if_pos hr, hxs, g4, g5, v5, Int.toNat_natCast, Int.toNat_natCast, take_join bs (by omega) g2]
    · unfold gsetsS at h
      rw [if_neg (fun q => q h0), if_pos h1] at h
      exact absurd h h1
  · unfold gsetsS at h
    rw [if_pos h0] at h
    exact absurd h h0
theorem gsetsS_bad {keys : Int} {cs : List Col} {bs : List Nat} {at_ : Int} (h : (gsetsS keys cs bs at_).2.2 ≠ 0) : gsetsS keys cs bs at_ = ([], 0, (gsetsS keys cs bs at_).2.2) := by
  unfold gsetsS at h ⊢
  split
  · rfl
  · rename_i h0
    rw [if_neg h0] at h
    split
    · rfl
    · rename_i h1
      rw [if_neg h1] at h
      split
      · rfl
      · rename_i h2
        rw [if_neg h2] at h
        exact gsetsA_bad h

end Go.Proofs.Ytlagbgcolgbbhaa
