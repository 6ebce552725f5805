/-
  Plain mathematics of layer 5: what was put is got, and is the only way to write it.
-/
import Derived.Test.YtdnbmffedccakaaE14
namespace Go.Proofs.Ytdnbmffedccakaa
open Go.RowKit

theorem cval_ok {k : Int} {bs : List Nat} {a : Nat} (hu : U8 bs) (h : (cval k bs a).err = 0) :
    ∃ m : Nat, (cval k bs a).next = (m : Int) ∧ a < m ∧ m ≤ bs.length ∧ (cval k bs a).nul = false ∧ chk k true false (cval k bs a).num (cval k bs a).txt = 0 ∧
      cby k false (cval k bs a).num (cval k bs a).txt = 1 :: (bs.drop a).take (m - a) ∧ U8 (cval k bs a).txt ∧ -9223372036854775808 ≤ (cval k bs a).num ∧ (cval k bs a).num ≤ 9223372036854775807 := by
  rcases hg : vget bs (a : Int) with ⟨u, nx, e⟩
  by_cases he : e = 0
  · subst he
    obtain ⟨_, h1, h2, h3, h4⟩ := vget_at hu hg
    obtain ⟨m, rfl⟩ := Int.eq_ofNat_of_zero_le (show 0 ≤ nx by omega)
    simp only [Int.toNat_natCast] at h4
    by_cases hk6 : k ≤ 6
    · rw [cval_num hg hk6] at h ⊢
      by_cases hr : chk k true false (unfS u) [] = 0
      · rw [if_neg (fun q => q hr)] at h ⊢
        have hrg := unfS_range h3
        refine ⟨m, rfl, by omega, by omega, rfl, hr, ?_, (by intro v hv; cases hv), hrg.1, hrg.2⟩
        simp only
        unfold cby
        rw [if_neg (by decide), if_pos hk6, fold_unf (by omega), Int.toNat_natCast, h4]
      · rw [if_pos hr] at h; exact absurd h hr
    · by_cases hlong : 200 < u
      · rw [cval_long hg hk6 hlong] at h; exact absurd h (by decide)
      · by_cases hshort : bs.length < m + u
        · rw [cval_short hg hk6 hlong hshort] at h; exact absurd h (by decide)
        · rw [cval_txt hg hk6 hlong hshort] at h ⊢
          by_cases hr : chk k true false 0 (cut bs m u) = 0
          · rw [if_neg (fun q => q hr)] at h ⊢
            have hcl : (cut bs m u).length = u := cut_len (by omega)
            refine ⟨m + u, by simp, by omega, by omega, rfl, hr, ?_, cut_u8 hu m u, by show (-9223372036854775808 : Int) ≤ 0; omega, by show (0 : Int) ≤ 9223372036854775807; omega⟩
            simp only
            rw [cby_txt hk6, hcl, h4]
            congr 1
            unfold cut
            rw [show m + u - a = (m - a) + u from by omega, List.take_add, List.drop_drop, show a + (m - a) = m from by omega]
          · rw [if_pos hr] at h; exact absurd h hr
  · rw [cval_err hg he] at h; exact absurd h he

/-- A cell that was got: where it stands, and as what. -/
theorem cget_ok {k : Int} {bs : List Nat} {at_ : Int} (hu : U8 bs) (h : (cget k bs at_).err = 0) :
    ∃ a m : Nat, at_ = (a : Int) ∧ (cget k bs at_).next = (m : Int) ∧ a < m ∧ m ≤ bs.length ∧ (1 ≤ k ∧ k ≤ 8) ∧ chk k true (cget k bs at_).nul (cget k bs at_).num (cget k bs at_).txt = 0 ∧
      cby k (cget k bs at_).nul (cget k bs at_).num (cget k bs at_).txt = (bs.drop a).take (m - a) ∧ U8 (cget k bs at_).txt ∧ -9223372036854775808 ≤ (cget k bs at_).num ∧ (cget k bs at_).num ≤ 9223372036854775807 := by
  by_cases hbad : ¬ (1 ≤ k ∧ k ≤ 8) ∨ at_ < 0 ∨ (bs.length : Int) < at_
  · rw [cget_arg hbad] at h; exact absurd h (by decide)
  · have hk : 1 ≤ k ∧ k ≤ 8 := by omega
    obtain ⟨a, rfl⟩ := Int.eq_ofNat_of_zero_le (show 0 ≤ at_ by omega)
    rcases Nat.lt_or_ge a bs.length with hlt | hge
    · have hd := drop_cons hlt
      by_cases h0 : bs.getD a 0 = 0
      · rw [cget_null hk hlt h0]
        refine ⟨a, a + 1, rfl, rfl, by omega, by omega, hk, ?_, ?_, (by intro v hv; cases hv), by show (-9223372036854775808 : Int) ≤ 0; omega, by show (0 : Int) ≤ 9223372036854775807; omega⟩
        · simp only; rw [chk_null hk]; simp
        · simp only
          rw [hd, h0, show a + 1 - a = 1 from by omega]
          rfl
      · by_cases h1 : bs.getD a 0 = 1
        · rw [cget_val hk hlt h1] at h ⊢
          obtain ⟨m, e1, e2, e3, e4, e5, e6, e7, e8, e9⟩ := cval_ok hu h
          refine ⟨a, m, rfl, e1, by omega, e3, hk, by rw [e4]; exact e5, ?_, e7, e8, e9⟩
          rw [e4, e6, hd, h1, show m - a = (m - (a + 1)) + 1 from by omega, List.take_succ_cons]
        · rw [cget_form hk hlt h0 h1] at h; exact absurd h (by decide)
    · have : a = bs.length := by omega
      subst this
      rw [cget_end hk] at h; exact absurd h (by decide)

theorem crE_of {k : Int} {bs : List Nat} {a : Nat} (h : (cval k bs a).err ≠ 0) : cval k bs a = crE (cval k bs a).err := by
  rcases hg : vget bs (a : Int) with ⟨u, nx, e⟩
  by_cases he : e = 0
  · subst he
    by_cases hk6 : k ≤ 6
    · rw [cval_num hg hk6] at h ⊢
      by_cases hr : chk k true false (unfS u) [] = 0
      · rw [if_neg (fun q => q hr)] at h; exact absurd rfl h
      · rw [if_pos hr]; rfl
    · by_cases hlong : 200 < u
      · rw [cval_long hg hk6 hlong]; rfl
      · by_cases hshort : bs.length < nx.toNat + u
        · unfold cval; rw [hg, if_neg (fun q => q rfl), if_neg hk6, if_neg hlong, if_pos hshort]; rfl
        · unfold cval at h ⊢
          rw [hg, if_neg (fun q => q rfl), if_neg hk6, if_neg hlong, if_neg hshort] at h ⊢
          by_cases hr : chk k true false 0 (cut bs nx.toNat u) = 0
          · rw [if_neg (fun q => q hr)] at h; exact absurd rfl h
          · rw [if_pos hr]; rfl
  · rw [cval_err hg he]; rfl

theorem cget_crE {k : Int} {bs : List Nat} {at_ : Int} (h : (cget k bs at_).err ≠ 0) : cget k bs at_ = crE (cget k bs at_).err := by
  by_cases hbad : ¬ (1 ≤ k ∧ k ≤ 8) ∨ at_ < 0 ∨ (bs.length : Int) < at_
  · rw [cget_arg hbad]; rfl
  · have hk : 1 ≤ k ∧ k ≤ 8 := by omega
    obtain ⟨a, rfl⟩ := Int.eq_ofNat_of_zero_le (show 0 ≤ at_ by omega)
    rcases Nat.lt_or_ge a bs.length with hlt | hge
    · by_cases h0 : bs.getD a 0 = 0
      · rw [cget_null hk hlt h0] at h; exact absurd rfl h
      · by_cases h1 : bs.getD a 0 = 1
        · rw [cget_val hk hlt h1] at h ⊢; exact crE_of h
        · rw [cget_form hk hlt h0 h1]; rfl
    · have : a = bs.length := by omega
      subst this
      rw [cget_end hk]; rfl

theorem cget_txt {k : Int} {bs : List Nat} {at_ : Int} (hu : U8 bs) : U8 (cget k bs at_).txt ∧ (cget k bs at_).txt.length ≤ 200 := by
  by_cases h : (cget k bs at_).err = 0
  · obtain ⟨a, m, _, _, _, _, hk, hc, _, hu', _, _⟩ := cget_ok hu h
    refine ⟨hu', ?_⟩
    cases hn : (cget k bs at_).nul with
    | true => rw [hn] at hc; have := chk_nul0 hc; rw [this.2.2]; simp
    | false =>
      rw [hn] at hc
      by_cases hk6 : k ≤ 6
      · have := chk_num0 ⟨hk.1, hk6⟩ hc; rw [this.1]; simp
      · exact (chk_txt0 (by omega) hc).2.1
  · rw [cget_crE h]
    exact ⟨(fun v hv => by cases hv), Nat.zero_le _⟩

/-- What was put is got, whatever stands around it. -/
theorem cget_put {k : Int} {nul : Bool} {num : Int} {txt xs ys : List Nat} (h : chk k true nul num txt = 0) (h0 : -9223372036854775808 ≤ num) (h1 : num ≤ 9223372036854775807) :
    cget k ((xs ++ cby k nul num txt) ++ ys) (xs.length : Int) = ⟨nul, num, txt, (xs.length : Int) + ((cby k nul num txt).length : Int), 0⟩ := by
  have hk := chk_kind h
  have hlen : ∀ z : List Nat, 0 < z.length → xs.length < ((xs ++ z) ++ ys).length := by intro z hz; simp; omega
  have hget : ∀ (c : Nat) (z : List Nat), ((xs ++ c :: z) ++ ys).getD xs.length 0 = c := by
    intro c z; simp [List.getD]
  have hdrop : ∀ (c : Nat) (z : List Nat), ((xs ++ c :: z) ++ ys).drop (xs.length + 1) = z ++ ys := by
    intro c z
    rw [List.append_assoc, List.drop_append]
    simp
  cases nul with
  | true =>
    obtain ⟨_, e1, e2⟩ := chk_nul0 h
    subst e1 e2
    have hb : cby k true 0 [] = [0] := rfl
    rw [hb, cget_null hk (hlen _ (by simp)) (hget 0 [])]
    rfl
  | false =>
    by_cases hk6 : k ≤ 6
    · obtain ⟨U, hU, hl⟩ := foldS_nat h0 h1
      obtain ⟨e1, e2⟩ := chk_num0 ⟨hk.1, hk6⟩ h
      subst e1
      rw [cby_num hk6 hU, cget_val hk (hlen _ (by simp)) (hget 1 _)]
      have hv := vget_ok (bs := (xs ++ 1 :: vput U) ++ ys) (a := xs.length + 1) (by simp) (by rw [hdrop]; exact vgetF_vput hl ys)
      rw [cval_num hv hk6, ← hU, unf_fold, if_neg (fun q => q h)]
      simp [vput_len]; omega
    · obtain ⟨e1, e2, _⟩ := chk_txt0 (by omega) h
      subst e1
      have hl : txt.length < 18446744073709551616 := by omega
      rw [cby_txt hk6, cget_val hk (hlen _ (by simp)) (hget 1 _)]
      have hv := vget_ok (bs := (xs ++ 1 :: (vput txt.length ++ txt)) ++ ys) (a := xs.length + 1) (by simp) (by rw [hdrop, List.append_assoc]; exact vgetF_vput hl (txt ++ ys))
      have hv' : vget ((xs ++ 1 :: (vput txt.length ++ txt)) ++ ys) ((xs.length + 1 : Nat) : Int) = (txt.length, ((xs.length + 1 + vsize txt.length : Nat) : Int), 0) := by rw [hv]; simp
      have hc : cut ((xs ++ 1 :: (vput txt.length ++ txt)) ++ ys) (xs.length + 1 + vsize txt.length) txt.length = txt := by
        unfold cut
        rw [← List.drop_drop, hdrop, List.append_assoc, ← vput_len, List.drop_left, List.take_left]
      rw [cval_txt hv' hk6 (by omega) (by simp [vput_len]; omega), hc, if_neg (fun q => q h)]
      simp [vput_len]; omega

/-- One byte less is too short. -/
theorem cget_cut {k : Int} {nul : Bool} {num : Int} {txt : List Nat} (h : chk k true nul num txt = 0) (h0 : -9223372036854775808 ≤ num) (h1 : num ≤ 9223372036854775807) :
    (cget k ((cby k nul num txt).take ((cby k nul num txt).length - 1)) 0).err = 2 := by
  have hk := chk_kind h
  have hz : ∀ (z : List Nat), 0 < z.length → cget k ((1 :: z).take ((1 :: z).length - 1)) 0 = cval k (1 :: z.take (z.length - 1)) 1 := by
    intro z hz
    have e : (1 :: z).take ((1 :: z).length - 1) = 1 :: z.take (z.length - 1) := by
      rw [show (1 :: z).length - 1 = (z.length - 1) + 1 from by simp; omega, List.take_succ_cons]
    rw [e]
    exact cget_val (a := 0) hk (by simp) rfl
  cases nul with
  | true =>
    have hb : (cby k true num txt).take ((cby k true num txt).length - 1) = [] := rfl
    rw [hb]
    have := cget_end (bs := []) hk
    rw [show ((([] : List Nat).length : Nat) : Int) = 0 from rfl] at this
    rw [this]; rfl
  | false =>
    by_cases hk6 : k ≤ 6
    · obtain ⟨U, hU, hl⟩ := foldS_nat h0 h1
      rw [cby_num hk6 hU, hz _ (by rw [vput_len]; unfold vsize; omega), vput_len]
      have hv : vget (1 :: (vput U).take (vsize U - 1)) ((1 : Nat) : Int) = (0, 0, ((2 : Nat) : Int)) := vget_err (by simp) (by rw [List.drop_succ_cons, List.drop_zero]; exact vget_cut hl) (by decide)
      rw [cval_err hv (by decide)]; rfl
    · obtain ⟨e1, e2, _⟩ := chk_txt0 (by omega) h
      have hl : txt.length < 18446744073709551616 := by omega
      have hvl := vput_len txt.length
      have hv1 : 1 ≤ vsize txt.length := by unfold vsize; omega
      rw [cby_txt hk6, hz _ (by rw [List.length_append, hvl]; omega)]
      rcases Nat.eq_zero_or_pos txt.length with h0 | h0
      · have ht : txt = [] := List.eq_nil_of_length_eq_zero h0
        subst ht
        have hv : vget (1 :: (vput 0 ++ []).take ((vput 0 ++ []).length - 1)) ((1 : Nat) : Int) = (0, 0, ((2 : Nat) : Int)) := vget_err (by simp) (by rw [List.drop_succ_cons, List.drop_zero, List.append_nil, vput_len]; exact vget_cut (by decide)) (by decide)
        rw [show ([] : List Nat).length = 0 from rfl, cval_err hv (by decide)]; rfl
      · have e3 : (vput txt.length ++ txt).take ((vput txt.length ++ txt).length - 1) = vput txt.length ++ txt.take (txt.length - 1) := by
          rw [List.take_append, List.take_of_length_le (by simp; omega)]
          congr 2
          simp; omega
        rw [e3]
        have hv := vget_ok (bs := 1 :: (vput txt.length ++ txt.take (txt.length - 1))) (a := 1) (by simp) (by rw [List.drop_succ_cons, List.drop_zero]; exact vgetF_vput hl _)
        have hv' : vget (1 :: (vput txt.length ++ txt.take (txt.length - 1))) ((1 : Nat) : Int) = (txt.length, ((1 + vsize txt.length : Nat) : Int), 0) := by rw [hv]; simp
        rw [cval_short hv' hk6 (by omega) (by simp [vput_len]; omega)]; rfl

end Go.Proofs.Ytdnbmffedccakaa
