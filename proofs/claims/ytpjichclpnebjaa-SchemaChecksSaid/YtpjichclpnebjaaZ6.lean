import Derived.Test.YtpjichclpnebjaaE7m
import Derived.Test.YtpjichclpnebjaaE14s
import Derived.Test.YtpjichclpnebjaaZ3

-- part E14m
/-
  The order of cells, as mathematics.
-/
namespace Go.Proofs.Ytpjichclpnebjaa
open Go.RowKit

theorem ordT_neg : ∀ {xs ys : List Nat}, ordT ys xs = - ordT xs ys
  | [], [] => rfl
  | [], _ :: _ => rfl
  | _ :: _, [] => rfl
  | x :: r, y :: s => by
    rcases Nat.lt_trichotomy x y with h | h | h
    · rw [ordT_lt h, ordT_gt h]; rfl
    · subst h; rw [ordT_eq rfl, ordT_eq rfl]; exact ordT_neg
    · rw [ordT_gt h, ordT_lt h]
theorem ordT_zero : ∀ {xs ys : List Nat}, ordT xs ys = 0 ↔ xs = ys
  | [], [] => by simp [ordT]
  | [], _ :: _ => by simp [ordT]
  | _ :: _, [] => by simp [ordT]
  | x :: r, y :: s => by
    rcases Nat.lt_trichotomy x y with h | h | h
    · rw [ordT_lt h]; simp; omega
    · subst h; rw [ordT_eq rfl, ordT_zero]; simp
    · rw [ordT_gt h]; simp; omega
theorem ordT_trans : ∀ {xs ys zs : List Nat}, ordT xs ys ≤ 0 → ordT ys zs ≤ 0 → ordT xs zs ≤ 0
  | [], _, [], _, _ => Int.le_refl _
  | [], _, _ :: _, _, _ => by rw [ordT_nil_cons]; decide
  | _ :: _, [], _, h, _ => by rw [ordT_cons_nil] at h; omega
  | _ :: _, _ :: _, [], _, h => by rw [ordT_cons_nil] at h; omega
  | x :: r, y :: s, z :: t, h, h2 => by
    have hxy : x ≤ y := by
      rcases Nat.lt_or_ge y x with q | q
      · rw [ordT_gt q] at h; omega
      · exact q
    have hyz : y ≤ z := by
      rcases Nat.lt_or_ge z y with q | q
      · rw [ordT_gt q] at h2; omega
      · exact q
    rcases Nat.lt_or_ge x z with q | q
    · rw [ordT_lt q]; decide
    · obtain rfl : x = y := by omega
      obtain rfl : x = z := by omega
      rw [ordT_eq rfl] at h h2 ⊢
      exact ordT_trans h h2

theorem rnk_neg {nul : Bool} {num : Int} {txt : List Nat} {nul2 : Bool} {num2 : Int} {txt2 : List Nat} : rnk nul2 num2 txt2 nul num txt = - rnk nul num txt nul2 num2 txt2 := by
  cases nul <;> cases nul2 <;> simp only [rnk, if_true, if_false, Bool.false_eq_true]
  · rcases Int.lt_trichotomy num num2 with h | h | h
    · rw [if_neg (by omega), if_pos h, if_pos h]; rfl
    · subst h; rw [if_neg (by omega), if_neg (by omega), if_neg (by omega), if_neg (by omega)]; exact ordT_neg
    · rw [if_pos h, if_neg (by omega), if_pos h]
  all_goals rfl
theorem rnk_trans {nul : Bool} {num : Int} {txt : List Nat} {nul2 : Bool} {num2 : Int} {txt2 : List Nat} {nul3 : Bool} {num3 : Int} {txt3 : List Nat}
    (h : rnk nul num txt nul2 num2 txt2 ≤ 0) (h2 : rnk nul2 num2 txt2 nul3 num3 txt3 ≤ 0) : rnk nul num txt nul3 num3 txt3 ≤ 0 := by
  cases nul <;> cases nul2 <;> cases nul3 <;> simp only [rnk, if_true, if_false, Bool.false_eq_true] at h h2 ⊢ <;> try omega
  · rcases Int.lt_trichotomy num num2 with q | q | q
    · rcases Int.lt_trichotomy num2 num3 with q2 | q2 | q2
      · rw [if_pos (by omega)]; decide
      · subst q2; rw [if_pos q]; decide
      · rw [if_neg (by omega), if_pos q2] at h2; omega
    · subst q
      rw [if_neg (by omega), if_neg (by omega)] at h
      rcases Int.lt_trichotomy num num3 with q2 | q2 | q2
      · rw [if_pos q2]; decide
      · subst q2
        rw [if_neg (by omega), if_neg (by omega)] at h2 ⊢
        exact ordT_trans h h2
      · rw [if_neg (by omega), if_pos q2] at h2; omega
    · rw [if_neg (by omega), if_pos q] at h; omega

/-- Cells without an error are alike just where neither stands ahead. -/
theorem rnk_zero {k : Int} {nul : Bool} {num : Int} {txt : List Nat} {nul2 : Bool} {num2 : Int} {txt2 : List Nat} (h : chk k true nul num txt = 0) (h2 : chk k true nul2 num2 txt2 = 0) :
    rnk nul num txt nul2 num2 txt2 = 0 ↔ alk nul num txt nul2 num2 txt2 = true := by
  rw [alk_iff]
  cases nul <;> cases nul2 <;> simp only [rnk, if_true, if_false, Bool.false_eq_true]
  · rcases Int.lt_trichotomy num num2 with q | q | q
    · rw [if_pos q]; simp; omega
    · subst q; rw [if_neg (by omega), if_neg (by omega), ordT_zero]; simp
    · rw [if_neg (by omega), if_pos q]; simp; omega
  · simp
  · simp
  · obtain ⟨_, e1, e2⟩ := chk_nul0 h
    obtain ⟨_, e3, e4⟩ := chk_nul0 h2
    simp [e1, e2, e3, e4]

end Go.Proofs.Ytpjichclpnebjaa

-- part E16
/-
  Plain mathematics of layer 5: what was put is got, and is the only way to write it.
-/
namespace Go.Proofs.Ytpjichclpnebjaa
open Go.RowKit

theorem cval_ok {k : Int} {bs : List Nat} {a : Nat} (hu : U8 bs) (h : (cval k bs a).err = 0) :
    ∃ m : Nat, (cval k bs a).next = (m : Int) ∧ a < m ∧ m ≤ bs.length ∧ (cval k bs a).nul = false ∧ chk k true false (cval k bs a).num (cval k bs a).txt = 0 ∧
      cby k false (cval k bs a).num (cval k bs a).txt = 1 :: (bs.drop a).take (m - a) ∧ U8 (cval k bs a).txt ∧ -9223372036854775808 ≤ (cval k bs a).num ∧ (cval k bs a).num ≤ 9223372036854775807 := by
  rcases hg : vget bs (a : Int) with ⟨u, nx, e⟩
  by_cases he : e = 0
  · subst he
    obtain ⟨_, h1, h2, h3, h4⟩ := vget_at hu hg
    obtain ⟨m, rfl⟩ := Int.eq_ofNat_of_zero_le (show 0 ≤ nx by omega)
    simp only [Int.toNat_natCast] at h4
    by_cases hk6 : k ≤ 6
    · rw [cval_num hg hk6] at h ⊢
      by_cases hr : chk k true false (unfS u) [] = 0
      · rw [if_neg (fun q => q hr)] at h ⊢
        have hrg := unfS_range h3
        refine ⟨m, rfl, by omega, by omega, rfl, hr, ?_, (by intro v hv; cases hv), hrg.1, hrg.2⟩
        simp only
        unfold cby
        rw [if_neg (by decide), if_pos hk6, fold_unf (by omega), Int.toNat_natCast, h4]
      · rw [if_pos hr] at h; exact absurd h hr
    · by_cases hlong : 200 < u
      · rw [cval_long hg hk6 hlong] at h; exact absurd h (by decide)
      · by_cases hshort : bs.length < m + u
        · rw [cval_short hg hk6 hlong hshort] at h; exact absurd h (by decide)
        · rw [cval_txt hg hk6 hlong hshort] at h ⊢
          by_cases hr : chk k true false 0 (cut bs m u) = 0
          · rw [if_neg (fun q => q hr)] at h ⊢
            have hcl : (cut bs m u).length = u := cut_len (by omega)
            refine ⟨m + u, by simp, by omega, by omega, rfl, hr, ?_, cut_u8 hu m u, by show (-9223372036854775808 : Int) ≤ 0; omega, by show (0 : Int) ≤ 9223372036854775807; omega⟩
            simp only
            rw [cby_txt hk6, hcl, h4]
            congr 1
            unfold cut
            rw [show m + u - a = (m - a) + u from by omega, List.take_add, List.drop_drop, show a + (m - a) = m from by omega]
          · rw [if_pos hr] at h; exact absurd h hr
  · rw [cval_err hg he] at h; exact absurd h he

/-- A cell that was got: where it stands, and as what. -/
theorem cget_ok {k : Int} {bs : List Nat} {at_ : Int} (hu : U8 bs) (h : (cget k bs at_).err = 0) :
    ∃ a m : Nat, at_ = (a : Int) ∧ (cget k bs at_).next = (m : Int) ∧ a < m ∧ m ≤ bs.length ∧ (1 ≤ k ∧ k ≤ 8) ∧ chk k true (cget k bs at_).nul (cget k bs at_).num (cget k bs at_).txt = 0 ∧
      cby k (cget k bs at_).nul (cget k bs at_).num (cget k bs at_).txt = (bs.drop a).take (m - a) ∧ U8 (cget k bs at_).txt ∧ -9223372036854775808 ≤ (cget k bs at_).num ∧ (cget k bs at_).num ≤ 9223372036854775807 := by
  by_cases hbad : ¬ (1 ≤ k ∧ k ≤ 8) ∨ at_ < 0 ∨ (bs.length : Int) < at_
  · rw [cget_arg hbad] at h; exact absurd h (by decide)
  · have hk : 1 ≤ k ∧ k ≤ 8 := by omega
    obtain ⟨a, rfl⟩ := Int.eq_ofNat_of_zero_le (show 0 ≤ at_ by omega)
    rcases Nat.lt_or_ge a bs.length with hlt | hge
    · have hd := drop_cons hlt
      by_cases h0 : bs.getD a 0 = 0
      · rw [cget_null hk hlt h0]
        refine ⟨a, a + 1, rfl, rfl, by omega, by omega, hk, ?_, ?_, (by intro v hv; cases hv), by show (-9223372036854775808 : Int) ≤ 0; omega, by show (0 : Int) ≤ 9223372036854775807; omega⟩
        · simp only; rw [chk_null hk]; simp
        · simp only
          rw [hd, h0, show a + 1 - a = 1 from by omega]
          rfl
      · by_cases h1 : bs.getD a 0 = 1
        · rw [cget_val hk hlt h1] at h ⊢
          obtain ⟨m, e1, e2, e3, e4, e5, e6, e7, e8, e9⟩ := cval_ok hu h
          refine ⟨a, m, rfl, e1, by omega, e3, hk, by rw [e4]; exact e5, ?_, e7, e8, e9⟩
          rw [e4, e6, hd, h1, show m - a = (m - (a + 1)) + 1 from by omega, List.take_succ_cons]
        · rw [cget_form hk hlt h0 h1] at h; exact absurd h (by decide)
    · have : a = bs.length := by omega
      subst this
      rw [cget_end hk] at h; exact absurd h (by decide)

theorem crE_of {k : Int} {bs : List Nat} {a : Nat} (h : (cval k bs a).err ≠ 0) : cval k bs a = crE (cval k bs a).err := by
  rcases hg : vget bs (a : Int) with ⟨u, nx, e⟩
  by_cases he : e = 0
  · subst he
    by_cases hk6 : k ≤ 6
    · rw [cval_num hg hk6] at h ⊢
      by_cases hr : chk k true false (unfS u) [] = 0
      · rw [if_neg (fun q => q hr)] at h; exact absurd rfl h
      · rw [if_pos hr]; rfl
    · by_cases hlong : 200 < u
      · rw [cval_long hg hk6 hlong]; rfl
      · by_cases hshort : bs.length < nx.toNat + u
        · unfold cval; rw [hg, if_neg (fun q => q rfl), if_neg hk6, if_neg hlong, if_pos hshort]; rfl
        · unfold cval at h ⊢
          rw [hg, if_neg (fun q => q rfl), if_neg hk6, if_neg hlong, if_neg hshort] at h ⊢
          by_cases hr : chk k true false 0 (cut bs nx.toNat u) = 0
          · rw [if_neg (fun q => q hr)] at h; exact absurd rfl h
          · rw [if_pos hr]; rfl
  · rw [cval_err hg he]; rfl

theorem cget_crE {k : Int} {bs : List Nat} {at_ : Int} (h : (cget k bs at_).err ≠ 0) : cget k bs at_ = crE (cget k bs at_).err := by
  by_cases hbad : ¬ (1 ≤ k ∧ k ≤ 8) ∨ at_ < 0 ∨ (bs.length : Int) < at_
  · rw [cget_arg hbad]; rfl
  · have hk : 1 ≤ k ∧ k ≤ 8 := by omega
    obtain ⟨a, rfl⟩ := Int.eq_ofNat_of_zero_le (show 0 ≤ at_ by omega)
    rcases Nat.lt_or_ge a bs.length with hlt | hge
    · by_cases h0 : bs.getD a 0 = 0
      · rw [cget_null hk hlt h0] at h; exact absurd rfl h
      · by_cases h1 : bs.getD a 0 = 1
        · rw [cget_val hk hlt h1] at h ⊢; exact crE_of h
        · rw [cget_form hk hlt h0 h1]; rfl
    · have : a = bs.length := by omega
      subst this
      rw [cget_end hk]; rfl

theorem cget_txt {k : Int} {bs : List Nat} {at_ : Int} (hu : U8 bs) : U8 (cget k bs at_).txt ∧ (cget k bs at_).txt.length ≤ 200 := by
  by_cases h : (cget k bs at_).err = 0
  · obtain ⟨a, m, _, _, _, _, hk, hc, _, hu', _, _⟩ := cget_ok hu h
    refine ⟨hu', ?_⟩
    cases hn : (cget k bs at_).nul with
    | true => rw [hn] at hc; have := chk_nul0 hc; rw [this.2.2]; simp
    | false =>
      rw [hn] at hc
      by_cases hk6 : k ≤ 6
      · have := chk_num0 ⟨hk.1, hk6⟩ hc; rw [this.1]; simp
      · exact (chk_txt0 (by omega) hc).2.1
  · rw [cget_crE h]
    exact ⟨(fun v hv => by cases hv), Nat.zero_le _⟩

/-- What was put is got, whatever stands around it. -/
theorem cget_put {k : Int} {nul : Bool} {num : Int} {txt xs ys : List Nat} (h : chk k true nul num txt = 0) (h0 : -9223372036854775808 ≤ num) (h1 : num ≤ 9223372036854775807) :
    cget k ((xs ++ cby k nul num txt) ++ ys) (xs.length : Int) = ⟨nul, num, txt, (xs.length : Int) + ((cby k nul num txt).length : Int), 0⟩ := by
  have hk := chk_kind h
  have hlen : ∀ z : List Nat, 0 < z.length → xs.length < ((xs ++ z) ++ ys).length := by intro z hz; simp; omega
  have hget : ∀ (c : Nat) (z : List Nat), ((xs ++ c :: z) ++ ys).getD xs.length 0 = c := by
    intro c z; simp [List.getD]
  have hdrop : ∀ (c : Nat) (z : List Nat), ((xs ++ c :: z) ++ ys).drop (xs.length + 1) = z ++ ys := by
    intro c z
    rw [List.append_assoc, List.drop_append]
    simp
  cases nul with
  | true =>
    obtain ⟨_, e1, e2⟩ := chk_nul0 h
    subst e1 e2
    have hb : cby k true 0 [] = [0] := rfl
    rw [hb, cget_null hk (hlen _ (by simp)) (hget 0 [])]
    rfl
  | false =>
    by_cases hk6 : k ≤ 6
    · obtain ⟨U, hU, hl⟩ := foldS_nat h0 h1
      obtain ⟨e1, e2⟩ := chk_num0 ⟨hk.1, hk6⟩ h
      subst e1
      rw [cby_num hk6 hU, cget_val hk (hlen _ (by simp)) (hget 1 _)]
      have hv := vget_ok (bs := (xs ++ 1 :: vput U) ++ ys) (a := xs.length + 1) (by simp) (by rw [hdrop]; exact vgetF_vput hl ys)
      rw [cval_num hv hk6, ← hU, unf_fold, if_neg (fun q => q h)]
      simp [vput_len]; omega
    · obtain ⟨e1, e2, _⟩ := chk_txt0 (by omega) h
      subst e1
      have hl : txt.length < 18446744073709551616 := by omega
      rw [cby_txt hk6, cget_val hk (hlen _ (by simp)) (hget 1 _)]
      have hv := vget_ok (bs := (xs ++ 1 :: (vput txt.length ++ txt)) ++ ys) (a := xs.length + 1) (by simp) (by rw [hdrop, List.append_assoc]; exact vgetF_vput hl (txt ++ ys))
      have hv' : vget ((xs ++ 1 :: (vput txt.length ++ txt)) ++ ys) ((xs.length + 1 : Nat) : Int) = (txt.length, ((xs.length + 1 + vsize txt.length : Nat) : Int), 0) := by rw [hv]; simp
      have hc : cut ((xs ++ 1 :: (vput txt.length ++ txt)) ++ ys) (xs.length + 1 + vsize txt.length) txt.length = txt := by
        unfold cut
        rw [← List.drop_drop, hdrop, List.append_assoc, ← vput_len, List.drop_left, List.take_left]
      rw [cval_txt hv' hk6 (by omega) (by simp [vput_len]; omega), hc, if_neg (fun q => q h)]
      simp [vput_len]; omega

/-- One byte less is too short. -/
theorem cget_cut {k : Int} {nul : Bool} {num : Int} {txt : List Nat} (h : chk k true nul num txt = 0) (h0 : -9223372036854775808 ≤ num) (h1 : num ≤ 9223372036854775807) :
    (cget k ((cby k nul num txt).take ((cby k nul num txt).length - 1)) 0).err = 2 := by
  have hk := chk_kind h
  have hz : ∀ (z : List Nat), 0 < z.length → cget k ((1 :: z).take ((1 :: z).length - 1)) 0 = cval k (1 :: z.take (z.length - 1)) 1 := by
    intro z hz
    have e : (1 :: z).take ((1 :: z).length - 1) = 1 :: z.take (z.length - 1) := by
      rw [show (1 :: z).length - 1 = (z.length - 1) + 1 from by simp; omega, List.take_succ_cons]
    rw [e]
    exact cget_val (a := 0) hk (by simp) rfl
  cases nul with
  | true =>
    have hb : (cby k true num txt).take ((cby k true num txt).length - 1) = [] := rfl
    rw [hb]
    have := cget_end (bs := []) hk
    rw [show ((([] : List Nat).length : Nat) : Int) = 0 from rfl] at this
    rw [this]; rfl
  | false =>
    by_cases hk6 : k ≤ 6
    · obtain ⟨U, hU, hl⟩ := foldS_nat h0 h1
      rw [cby_num hk6 hU, hz _ (by rw [vput_len]; unfold vsize; omega), vput_len]
      have hv : vget (1 :: (vput U).take (vsize U - 1)) ((1 : Nat) : Int) = (0, 0, ((2 : Nat) : Int)) := vget_err (by simp) (by rw [List.drop_succ_cons, List.drop_zero]; exact vget_cut hl) (by decide)
      rw [cval_err hv (by decide)]; rfl
    · obtain ⟨e1, e2, _⟩ := chk_txt0 (by omega) h
      have hl : txt.length < 18446744073709551616 := by omega
      have hvl := vput_len txt.length
      have hv1 : 1 ≤ vsize txt.length := by unfold vsize; omega
      rw [cby_txt hk6, hz _ (by rw [List.length_append, hvl]; omega)]
      rcases Nat.eq_zero_or_pos txt.length with h0 | h0
      · have ht : txt = [] := List.eq_nil_of_length_eq_zero h0
        subst ht
        have hv : vget (1 :: (vput 0 ++ []).take ((vput 0 ++ []).length - 1)) ((1 : Nat) : Int) = (0, 0, ((2 : Nat) : Int)) := vget_err (by simp) (by rw [List.drop_succ_cons, List.drop_zero, List.append_nil, vput_len]; exact vget_cut (by decide)) (by decide)
        rw [show ([] : List Nat).length = 0 from rfl, cval_err hv (by decide)]; rfl
      · have e3 : (vput txt.length ++ txt).take ((vput txt.length ++ txt).length - 1) = vput txt.length ++ txt.take (txt.length - 1) := by
          rw [List.take_append, List.take_of_length_le (by simp; omega)]
          congr 2
          simp; omega
        rw [e3]
        have hv := vget_ok (bs := 1 :: (vput txt.length ++ txt.take (txt.length - 1))) (a := 1) (by simp) (by rw [List.drop_succ_cons, List.drop_zero]; exact vgetF_vput hl _)
        have hv' : vget (1 :: (vput txt.length ++ txt.take (txt.length - 1))) ((1 : Nat) : Int) = (txt.length, ((1 + vsize txt.length : Nat) : Int), 0) := by rw [hv]; simp
        rw [cval_short hv' hk6 (by omega) (by simp [vput_len]; omega)]; rfl

end Go.Proofs.Ytpjichclpnebjaa

-- part M6
/-
  Plain mathematics of layer 6: rows and sets changed, written and read.
-/
namespace Go.Proofs.Ytpjichclpnebjaa
open Go.RowKit

abbrev CV := Bool × Int × List Nat
/-- A value as it may be handed in. -/
def CVok (v : CV) : Prop := U8 v.2.2 ∧ -9223372036854775808 ≤ v.2.1 ∧ v.2.1 ≤ 9223372036854775807
theorem Ci.In.ok {w : World} {x : Ci} (h : x.In w) : CVok x.val := ⟨h.u8, h.lo, h.hi⟩

def chkW (c : Col) (v : CV) : Int := chk c.kind c.null v.1 v.2.1 v.2.2
theorem chkC_val (c : Col) (x : Ci) : chkC c x = chkW c x.val := rfl
def rowW : List Col → List CV → Int
  | c :: r, v :: s => if chkW c v ≠ 0 then chkW c v else rowW r s
  | _, _ => 0
theorem rowF_val : ∀ (cs : List Col) (xs : List Ci), rowF cs xs = rowW cs (xs.map Ci.val)
  | [], xs => by cases xs <;> rfl
  | c :: r, [] => rfl
  | c :: r, x :: s => by
    show (if chkC c x ≠ 0 then chkC c x else rowF r s) = if chkW c x.val ≠ 0 then chkW c x.val else rowW r (s.map Ci.val)
    rw [rowF_val r s, chkC_val]
theorem rowW_iff : ∀ {cs : List Col} {vs : List CV}, rowW cs vs = 0 ↔ ∀ (j : Nat) (c : Col) (v : CV), cs[j]? = some c → vs[j]? = some v → chkW c v = 0
  | [], vs => by simp [rowW]
  | c :: r, [] => by simp [rowW]
  | c :: r, v :: s => by
    have ih := rowW_iff (cs := r) (vs := s)
    show (if chkW c v ≠ 0 then chkW c v else rowW r s) = 0 ↔ _
    constructor
    · intro h j d u hd hu
      by_cases q : chkW c v = 0
      · rw [if_neg (fun e => e q)] at h
        cases j with
        | zero => simp at hd hu; subst hd; subst hu; exact q
        | succ j => exact ih.1 h j d u (by simpa using hd) (by simpa using hu)
      · rw [if_pos q] at h
        exact absurd h q
    · intro h
      rw [if_neg (fun e => e (h 0 c v rfl rfl))]
      exact ih.2 (fun j d u hd hu => h (j + 1) d u (by simpa using hd) (by simpa using hu))

theorem chk_up {k : Int} {ok nul : Bool} {num : Int} {txt : List Nat} (h : chk k ok nul num txt = 0) : chk k true nul num txt = 0 := by
  cases nul with
  | false => rw [chk_ok (ok2 := ok)]; exact h
  | true =>
    obtain ⟨e, _⟩ := chk_nul0 h
    subst e
    exact h

theorem cby_len {k : Int} {nul : Bool} {num : Int} {txt : List Nat} (h : chk k true nul num txt = 0) (h0 : -9223372036854775808 ≤ num) (h1 : num ≤ 9223372036854775807) : (cby k nul num txt).length ≤ 300 := by
  cases nul with
  | true => simp [cby]
  | false =>
    have hk := chk_kind h
    by_cases h6 : k ≤ 6
    · obtain ⟨U, hU, hb⟩ := foldS_nat h0 h1
      rw [cby_num h6 hU, List.length_cons, vput_len]
      have := vsize_le hb
      omega
    · obtain ⟨_, hl, _⟩ := chk_txt0 (show k = 7 ∨ k = 8 by omega) h
      rw [cby_txt h6, List.length_cons, List.length_append, vput_len]
      have := vsize_le (u := txt.length) (by omega)
      omega

/-- A cell's bytes by its column; a row's. -/
def putB (c : Col) (v : CV) : List Nat := cputL c.kind v.1 v.2.1 v.2.2
def rowB : List Col → List CV → List Nat
  | c :: r, v :: s => putB c v ++ rowB r s
  | _, _ => []
theorem putB_ok {c : Col} {v : CV} (h : chkW c v = 0) : putB c v = cby c.kind v.1 v.2.1 v.2.2 := by
  unfold putB cputL
  rw [if_pos (chk_up h)]
theorem putB_len {c : Col} {v : CV} (hv : CVok v) : (putB c v).length ≤ 300 := by
  unfold putB cputL
  split
  · rename_i h
    exact cby_len h hv.2.1 hv.2.2
  · simp
theorem rowB_step : ∀ {cs : List Col} {vs : List CV} {j : Nat} {c : Col} {v : CV}, cs[j]? = some c → vs[j]? = some v → rowB (cs.take (j + 1)) (vs.take (j + 1)) = rowB (cs.take j) (vs.take j) ++ putB c v
  | [], _, j, c, v, hc, _ => by simp at hc
  | d :: r, [], j, c, v, _, hv => by simp at hv
  | d :: r, u :: s, 0, c, v, hc, hv => by
    simp at hc hv
    subst hc hv
    simp [rowB]
  | d :: r, u :: s, j + 1, c, v, hc, hv => by
    have := rowB_step (cs := r) (vs := s) (j := j) (by simpa using hc) (by simpa using hv)
    show putB d u ++ rowB (r.take (j + 1)) (s.take (j + 1)) = putB d u ++ rowB (r.take j) (s.take j) ++ putB c v
    rw [this, List.append_assoc]
theorem rowB_len : ∀ {cs : List Col} {vs : List CV}, (∀ v ∈ vs, CVok v) → (rowB cs vs).length ≤ 300 * cs.length
  | [], vs, _ => by simp [rowB]
  | c :: r, [], _ => by simp [rowB]
  | c :: r, v :: s, h => by
    show (putB c v ++ rowB r s).length ≤ _
    have h1 := putB_len (c := c) (h v List.mem_cons_self)
    have h2 := rowB_len (cs := r) (fun u hu => h u (List.mem_cons_of_mem _ hu))
    rw [List.length_append, List.length_cons]
    omega

/-- What a cell of a column reads as. -/
def gcell (c : Col) (bs : List Nat) (at_ : Int) : CR :=
  if (cget c.kind bs at_).err ≠ 0 then crE (cget c.kind bs at_).err else if (cget c.kind bs at_).nul = true ∧ c.null = false then crE 51 else cget c.kind bs at_
def CR.val (r : CR) : CV := (r.nul, r.num, r.txt)
theorem gcell_bad {c : Col} {bs : List Nat} {at_ : Int} (h : (gcell c bs at_).err ≠ 0) : gcell c bs at_ = crE (gcell c bs at_).err := by
  unfold gcell at h ⊢
  split
  · rfl
  · split
    · rfl
    · rename_i h1 h2
      rw [if_neg h1, if_neg h2] at h
      exact absurd h h1
theorem gcell_txt {c : Col} {bs : List Nat} {at_ : Int} (hu : U8 bs) : CVok (gcell c bs at_).val ∧ (gcell c bs at_).txt.length ≤ 200 := by
  have hz : ∀ e, CVok (crE e).val ∧ (crE e).txt.length ≤ 200 := fun e => ⟨⟨fun v hv => (by cases hv), (by show (-9223372036854775808 : Int) ≤ 0; decide), (by show (0 : Int) ≤ 9223372036854775807; decide)⟩, by simp [crE]⟩
  unfold gcell
  split
  · exact hz _
  · split
    · exact hz _
    · rename_i h1 h2
      obtain ⟨a, m, _, _, _, _, _, _, _, h3, h4, h5⟩ := cget_ok hu (Decidable.of_not_not h1)
      exact ⟨⟨h3, h4, h5⟩, (cget_txt hu).2⟩
theorem gcell_ok {c : Col} {bs : List Nat} {at_ : Int} (hu : U8 bs) (h : (gcell c bs at_).err = 0) :
    ∃ a m : Nat, at_ = (a : Int) ∧ (gcell c bs at_).next = (m : Int) ∧ a < m ∧ m ≤ bs.length ∧ chkW c (gcell c bs at_).val = 0 ∧ putB c (gcell c bs at_).val = (bs.drop a).take (m - a) := by
  by_cases h1 : (cget c.kind bs at_).err ≠ 0
  · unfold gcell at h
    rw [if_pos h1] at h
    exact absurd h h1
  · by_cases h2 : (cget c.kind bs at_).nul = true ∧ c.null = false
    · unfold gcell at h
      rw [if_neg h1, if_pos h2] at h
      exact absurd h (by decide)
    · have e : gcell c bs at_ = cget c.kind bs at_ := by unfold gcell; rw [if_neg h1, if_neg h2]
      rw [e]
      obtain ⟨a, m, e1, e2, e3, e4, e5, e6, e7, _⟩ := cget_ok hu (Decidable.of_not_not h1)
      have hck : chkW c (cget c.kind bs at_).val = 0 := by
        show chk c.kind c.null (cget c.kind bs at_).nul _ _ = 0
        cases hn : (cget c.kind bs at_).nul with
        | false => rw [chk_ok (ok2 := true)]; rw [hn] at e6; exact e6
        | true =>
          have : c.null = true := by
            cases hc : c.null with
            | true => rfl
            | false => exact absurd ⟨hn, hc⟩ h2
          rw [this]
          rw [hn] at e6
          exact e6
      exact ⟨a, m, e1, e2, e3, e4, hck, by rw [putB_ok hck]; exact e7⟩
theorem gcell_put {c : Col} {v : CV} (xs ys : List Nat) (h : chkW c v = 0) (hv : CVok v) : gcell c ((xs ++ putB c v) ++ ys) (xs.length : Int) = ⟨v.1, v.2.1, v.2.2, (xs.length : Int) + ((putB c v).length : Int), 0⟩ := by
  rw [putB_ok h]
  have e := cget_put (xs := xs) (ys := ys) (chk_up h) hv.2.1 hv.2.2
  unfold gcell
  rw [e, if_neg (fun q => q rfl), if_neg ?_]
  rintro ⟨h1, h2⟩
  simp only at h1
  unfold chkW at h
  rw [h1] at h
  have := (chk_nul0 h).1
  rw [h2] at this
  cases this

/-- What a row reads as. -/
def growA (bs : List Nat) : List Col → Int → List CV → List CV × Int × Int
  | [], at_, acc => (acc, at_, 0)
  | c :: r, at_, acc => if (gcell c bs at_).err ≠ 0 then ([], 0, (gcell c bs at_).err) else growA bs r (gcell c bs at_).next (acc ++ [(gcell c bs at_).val])
theorem growA_at {bs : List Nat} {cs : List Col} {j : Nat} {c : Col} {at_ : Int} {acc : List CV} (hc : cs[j]? = some c) : growA bs (cs.drop j) at_ acc = if (gcell c bs at_).err ≠ 0 then ([], 0, (gcell c bs at_).err) else growA bs (cs.drop (j + 1)) (gcell c bs at_).next (acc ++ [(gcell c bs at_).val]) := by
  obtain ⟨h1, rfl⟩ := List.getElem?_eq_some_iff.1 hc
  rw [List.drop_eq_getElem_cons h1]
  rfl
theorem growA_end {bs : List Nat} {cs : List Col} {j : Nat} {at_ : Int} {acc : List CV} (h : cs.length ≤ j) : growA bs (cs.drop j) at_ acc = (acc, at_, 0) := by
  rw [List.drop_of_length_le h]
  rfl
theorem take_join (bs : List Nat) {a m1 m : Nat} (h1 : a ≤ m1) (h2 : m1 ≤ m) : (bs.drop a).take (m1 - a) ++ (bs.drop m1).take (m - m1) = (bs.drop a).take (m - a) := by
  have : m - a = (m1 - a) + (m - m1) := by omega
  rw [this, List.take_add, List.drop_drop, show a + (m1 - a) = m1 by omega]
theorem growA_len {bs : List Nat} : ∀ {cs : List Col} {at_ : Int} {acc : List CV}, (growA bs cs at_ acc).1.length ≤ acc.length + cs.length
  | [], at_, acc => Nat.le_refl _
  | c :: r, at_, acc => by
    rw [growA]
    split
    · simp
    · have := growA_len (bs := bs) (cs := r) (at_ := (gcell c bs at_).next) (acc := acc ++ [(gcell c bs at_).val])
      rw [List.length_append, List.length_singleton] at this
      rw [List.length_cons]
      omega
theorem growA_all {bs : List Nat} (hu : U8 bs) : ∀ {cs : List Col} {at_ : Int} {acc : List CV}, (∀ v ∈ acc, CVok v ∧ v.2.2.length ≤ 200) → ∀ v ∈ (growA bs cs at_ acc).1, CVok v ∧ v.2.2.length ≤ 200
  | [], at_, acc, h => h
  | c :: r, at_, acc, h => by
    rw [growA]
    split
    · intro v hv; cases hv
    · refine growA_all hu (fun v hv => ?_)
      rcases List.mem_append.1 hv with hv | hv
      · exact h v hv
      · rw [List.mem_singleton.1 hv]
        exact gcell_txt hu
theorem growA_bad {bs : List Nat} : ∀ {cs : List Col} {at_ : Int} {acc : List CV}, (growA bs cs at_ acc).2.2 ≠ 0 → growA bs cs at_ acc = ([], 0, (growA bs cs at_ acc).2.2)
  | [], at_, acc, h => absurd rfl h
  | c :: r, at_, acc, h => by
    rw [growA] at h ⊢
    split
    · rfl
    · rename_i q
      rw [if_neg q] at h
      exact growA_bad h
theorem growA_ok {bs : List Nat} (hu : U8 bs) : ∀ {cs : List Col} {a : Nat} {acc : List CV}, a ≤ bs.length → (growA bs cs (a : Int) acc).2.2 = 0 →
    ∃ vs m, growA bs cs (a : Int) acc = (acc ++ vs, ((m : Nat) : Int), 0) ∧ a ≤ m ∧ m ≤ bs.length ∧ vs.length = cs.length ∧ rowB cs vs = (bs.drop a).take (m - a) ∧ rowW cs vs = 0
  | [], a, acc, ha, _ => ⟨[], a, by simp [growA], Nat.le_refl _, ha, rfl, by simp [rowB], rfl⟩
  | c :: r, a, acc, ha, h => by
    rw [growA] at h ⊢
    by_cases q : (gcell c bs (a : Int)).err = 0
    · rw [if_neg (fun e => e q)] at h ⊢
      obtain ⟨a', m1, e1, e2, e3, e4, e5, e6⟩ := gcell_ok hu q
      obtain rfl : a = a' := by omega
      rw [e2] at h ⊢
      obtain ⟨vs, m, g1, g2, g3, g4, g5, g6⟩ := growA_ok hu e4 h
      refine ⟨(gcell c bs (a : Int)).val :: vs, m, by rw [g1]; simp, by omega, g3, by simp [g4], ?_, ?_⟩
      · show putB c _ ++ rowB r vs = _
        rw [e6, g5, take_join bs (by omega) (by omega)]
      · show (if chkW c _ ≠ 0 then _ else rowW r vs) = 0
        rw [if_neg (fun e => e e5)]
        exact g6
    · rw [if_pos q] at h
      exact absurd h q
theorem growA_put : ∀ {cs : List Col} {vs : List CV} (xs ys : List Nat) {acc : List CV}, vs.length = cs.length → rowW cs vs = 0 → (∀ v ∈ vs, CVok v) →
    growA ((xs ++ rowB cs vs) ++ ys) cs (xs.length : Int) acc = (acc ++ vs, (xs.length : Int) + ((rowB cs vs).length : Int), 0)
  | [], [], xs, ys, acc, _, _, _ => by simp [growA, rowB]
  | [], v :: s, xs, ys, acc, h, _, _ => by simp at h
  | c :: r, [], xs, ys, acc, h, _, _ => by simp at h
  | c :: r, v :: s, xs, ys, acc, h, hw, hv => by
    have h0 : chkW c v = 0 := rowW_iff.1 hw 0 c v rfl rfl
    have h1 : rowW r s = 0 := rowW_iff.2 (fun j d u hd hu => rowW_iff.1 hw (j + 1) d u (by simpa using hd) (by simpa using hu))
    have hvv := hv v List.mem_cons_self
    have hb : rowB (c :: r) (v :: s) = putB c v ++ rowB r s := rfl
    have e1 : (xs ++ rowB (c :: r) (v :: s)) ++ ys = (xs ++ putB c v) ++ (rowB r s ++ ys) := by rw [hb]; simp
    have e2 : (xs ++ rowB (c :: r) (v :: s)) ++ ys = ((xs ++ putB c v) ++ rowB r s) ++ ys := by rw [hb]; simp
    have hg := gcell_put xs (rowB r s ++ ys) h0 hvv
    rw [growA, e1, hg, if_neg (fun e => e rfl)]
    have ih := growA_put (cs := r) (vs := s) (xs ++ putB c v) ys (acc := acc ++ [v]) (by simpa using h) h1 (fun u hu => hv u (List.mem_cons_of_mem _ hu))
    rw [← e1, e2]
    have hl : ((xs ++ putB c v).length : Int) = (xs.length : Int) + ((putB c v).length : Int) := by rw [List.length_append]; omega
    rw [hl] at ih
    show growA _ r _ (acc ++ [v]) = _
    rw [ih, hb, List.length_append]
    simp
    omega

/-- Sets by values. -/
def setW (cs : List Col) : Int → List (Int × CV) → Int
  | _, [] => 0
  | L, t :: r => if t.1 ≤ L ∨ (cs.length : Int) ≤ t.1 then 61 else if chkW (colAt cs t.1.toNat) t.2 ≠ 0 then chkW (colAt cs t.1.toNat) t.2 else setW cs t.1 r
theorem setF_val (cs : List Col) : ∀ (L : Int) (ts : List Si), setF cs L ts = setW cs L (ts.map Si.val)
  | _, [] => rfl
  | L, t :: r => by
    show (if t.col ≤ L ∨ (cs.length : Int) ≤ t.col then 61 else if chkC (colAt cs t.col.toNat) t.cell ≠ 0 then chkC (colAt cs t.col.toNat) t.cell else setF cs t.col r) = if t.col ≤ L ∨ (cs.length : Int) ≤ t.col then 61 else if chkW (colAt cs t.col.toNat) t.cell.val ≠ 0 then chkW (colAt cs t.col.toNat) t.cell.val else setW cs t.col (r.map Si.val)
    rw [setF_val cs t.col r, chkC_val]
theorem setW_cons {cs : List Col} {L : Int} {t : Int × CV} {r : List (Int × CV)} (h : setW cs L (t :: r) = 0) : L < t.1 ∧ t.1 < (cs.length : Int) ∧ chkW (colAt cs t.1.toNat) t.2 = 0 ∧ setW cs t.1 r = 0 := by
  rw [setW] at h
  by_cases h1 : t.1 ≤ L ∨ (cs.length : Int) ≤ t.1
  · rw [if_pos h1] at h; exact absurd h (by decide)
  · rw [if_neg h1] at h
    by_cases h2 : chkW (colAt cs t.1.toNat) t.2 = 0
    · rw [if_neg (fun e => e h2)] at h
      exact ⟨by omega, by omega, h2, h⟩
    · rw [if_pos h2] at h; exact absurd h h2
theorem setW_mk {cs : List Col} {L : Int} {t : Int × CV} {r : List (Int × CV)} (h1 : L < t.1) (h2 : t.1 < (cs.length : Int)) (h3 : chkW (colAt cs t.1.toNat) t.2 = 0) (h4 : setW cs t.1 r = 0) : setW cs L (t :: r) = 0 := by
  rw [setW, if_neg (by omega), if_neg (fun e => e h3)]
  exact h4

def setB (cs : List Col) : List (Int × CV) → List Nat
  | [] => []
  | t :: r => vput t.1.toNat ++ (putB (colAt cs t.1.toNat) t.2 ++ setB cs r)
def setsB (cs : List Col) (ts : List (Int × CV)) : List Nat := vput ts.length ++ setB cs ts
theorem setB_step (cs : List Col) : ∀ {ts : List (Int × CV)} {j : Nat} {t : Int × CV}, ts[j]? = some t → setB cs (ts.take (j + 1)) = (setB cs (ts.take j) ++ vput t.1.toNat) ++ putB (colAt cs t.1.toNat) t.2
  | [], j, t, h => by simp at h
  | u :: r, 0, t, h => by simp at h; subst h; simp [setB]
  | u :: r, j + 1, t, h => by
    have := setB_step cs (ts := r) (j := j) (by simpa using h)
    show vput u.1.toNat ++ (putB (colAt cs u.1.toNat) u.2 ++ setB cs (r.take (j + 1))) = ((vput u.1.toNat ++ (putB (colAt cs u.1.toNat) u.2 ++ setB cs (r.take j))) ++ vput t.1.toNat) ++ putB (colAt cs t.1.toNat) t.2
    rw [this]
    simp
theorem setB_len (cs : List Col) : ∀ {ts : List (Int × CV)}, (∀ t ∈ ts, t.1 < 18446744073709551616 ∧ CVok t.2) → (setB cs ts).length ≤ 310 * ts.length
  | [], _ => by simp [setB]
  | t :: r, h => by
    have h1 := putB_len (c := colAt cs t.1.toNat) (h t List.mem_cons_self).2
    have h2 := setB_len cs (ts := r) (fun u hu => h u (List.mem_cons_of_mem _ hu))
    have h3 := vsize_le (u := t.1.toNat) (by have := (h t List.mem_cons_self).1; omega)
    rw [setB, List.length_append, List.length_append, vput_len, List.length_cons]
    omega

def gsetsA (cs : List Col) (bs : List Nat) : Nat → Int → Int → List (Int × CV) → List (Int × CV) × Int × Int
  | 0, _, at_, acc => (acc, at_, 0)
  | k + 1, L, at_, acc =>
    if (vget bs at_).2.2 ≠ 0 then ([], 0, (vget bs at_).2.2)
    else if ((vget bs at_).1 : Int) ≤ L ∨ (cs.length : Int) ≤ ((vget bs at_).1 : Int) then ([], 0, 61)
    else if (gcell (colAt cs (vget bs at_).1) bs (vget bs at_).2.1).err ≠ 0 then ([], 0, (gcell (colAt cs (vget bs at_).1) bs (vget bs at_).2.1).err)
    else gsetsA cs bs k ((vget bs at_).1 : Int) (gcell (colAt cs (vget bs at_).1) bs (vget bs at_).2.1).next (acc ++ [(((vget bs at_).1 : Int), (gcell (colAt cs (vget bs at_).1) bs (vget bs at_).2.1).val)])
theorem gsetsA_len {cs : List Col} {bs : List Nat} : ∀ {k : Nat} {L at_ : Int} {acc : List (Int × CV)}, (gsetsA cs bs k L at_ acc).1.length ≤ acc.length + k
  | 0, _, _, acc => Nat.le_refl _
  | k + 1, L, at_, acc => by
    rw [gsetsA]
    split
    · simp
    · split
      · simp
      · split
        · simp
        · refine Nat.le_trans gsetsA_len ?_
          simp
          omega
theorem gsetsA_bad {cs : List Col} {bs : List Nat} : ∀ {k : Nat} {L at_ : Int} {acc : List (Int × CV)}, (gsetsA cs bs k L at_ acc).2.2 ≠ 0 → gsetsA cs bs k L at_ acc = ([], 0, (gsetsA cs bs k L at_ acc).2.2)
  | 0, _, _, acc, h => absurd rfl h
  | k + 1, L, at_, acc, h => by
    rw [gsetsA] at h ⊢
    split
    · rfl
    · rename_i q1
      rw [if_neg q1] at h
      split
      · rfl
      · rename_i q2
        rw [if_neg q2] at h
        split
        · rfl
        · rename_i q3
          rw [if_neg q3] at h
          exact gsetsA_bad h
theorem gsetsA_all {cs : List Col} {bs : List Nat} (hu : U8 bs) (hcs : cs.length ≤ 12) : ∀ {k : Nat} {L at_ : Int} {acc : List (Int × CV)}, (∀ t ∈ acc, 0 ≤ t.1 ∧ t.1 ≤ 12 ∧ CVok t.2 ∧ t.2.2.2.length ≤ 200) → ∀ t ∈ (gsetsA cs bs k L at_ acc).1, 0 ≤ t.1 ∧ t.1 ≤ 12 ∧ CVok t.2 ∧ t.2.2.2.length ≤ 200
  | 0, _, _, acc, h => h
  | k + 1, L, at_, acc, h => by
    rw [gsetsA]
    split
    · intro v hv; cases hv
    · split
      · intro v hv; cases hv
      · rename_i q2
        split
        · intro v hv; cases hv
        · refine gsetsA_all hu hcs (fun v hv => ?_)
          rcases List.mem_append.1 hv with hv | hv
          · exact h v hv
          · rw [List.mem_singleton.1 hv]
            obtain ⟨g1, g2⟩ := gcell_txt (c := colAt cs (vget bs at_).1) (at_ := (vget bs at_).2.1) hu
            exact ⟨Int.natCast_nonneg _, by show ((vget bs at_).1 : Int) ≤ 12; omega, g1, g2⟩
theorem gsetsA_ok {cs : List Col} {bs : List Nat} (hu : U8 bs) : ∀ {k : Nat} {L : Int} {a : Nat} {acc : List (Int × CV)}, a ≤ bs.length → (gsetsA cs bs k L (a : Int) acc).2.2 = 0 →
    ∃ ts m, gsetsA cs bs k L (a : Int) acc = (acc ++ ts, ((m : Nat) : Int), 0) ∧ a ≤ m ∧ m ≤ bs.length ∧ ts.length = k ∧ setB cs ts = (bs.drop a).take (m - a) ∧ setW cs L ts = 0
  | 0, L, a, acc, ha, _ => ⟨[], a, by simp [gsetsA], Nat.le_refl _, ha, rfl, by simp [setB], rfl⟩
  | k + 1, L, a, acc, ha, h => by
    rw [gsetsA] at h ⊢
    by_cases q1 : (vget bs (a : Int)).2.2 = 0
    · rw [if_neg (fun e => e q1)] at h ⊢
      by_cases q2 : ((vget bs (a : Int)).1 : Int) ≤ L ∨ (cs.length : Int) ≤ ((vget bs (a : Int)).1 : Int)
      · rw [if_pos q2] at h
        exact absurd h (by decide)
      · rw [if_neg q2] at h ⊢
        obtain ⟨u, nx, hv⟩ : ∃ u nx, vget bs (a : Int) = (u, nx, 0) := ⟨(vget bs (a : Int)).1, (vget bs (a : Int)).2.1, by rw [← q1]⟩
        rw [hv] at h q2 ⊢
        simp only at h q2 ⊢
        obtain ⟨v1, v2, v3, v4, v5⟩ := vget_at hu hv
        obtain ⟨p, rfl⟩ := Int.eq_ofNat_of_zero_le (show 0 ≤ nx by omega)
        by_cases q3 : (gcell (colAt cs u) bs (p : Int)).err = 0
        · rw [if_neg (fun e => e q3)] at h ⊢
          obtain ⟨p', m1, e1, e2, e3, e4, e5, e6⟩ := gcell_ok hu q3
          obtain rfl : p = p' := by omega
          rw [e2] at h ⊢
          obtain ⟨ts, m, g1, g2, g3, g4, g5, g6⟩ := gsetsA_ok hu e4 h
          refine ⟨((u : Int), (gcell (colAt cs u) bs (p : Int)).val) :: ts, m, by rw [g1]; simp, by omega, g3, by simp [g4], ?_, ?_⟩
          · show vput ((u : Int)).toNat ++ (putB (colAt cs ((u : Int)).toNat) _ ++ setB cs ts) = _
            rw [Int.toNat_natCast, e6, g5, v5, take_join bs (by omega) (by omega)]
            rw [Int.toNat_natCast, Int.toNat_natCast, take_join bs (by omega) (by omega)]
          · exact setW_mk (by show L < (u : Int); omega) (by show (u : Int) < _; omega) (by show chkW (colAt cs ((u : Int)).toNat) _ = 0; rw [Int.toNat_natCast]; exact e5) g6
        · rw [if_pos q3] at h
          exact absurd h q3
    · rw [if_pos q1] at h
      exact absurd h q1
theorem vget_put {u : Nat} (hu : u < 18446744073709551616) (xs ys : List Nat) : vget ((xs ++ vput u) ++ ys) (xs.length : Int) = (u, (xs.length : Int) + ((vput u).length : Int), 0) := by
  have hd : ((xs ++ vput u) ++ ys).drop xs.length = vput u ++ ys := by rw [List.append_assoc, List.drop_left]
  rw [vput_len]
  exact vget_ok (by simp) (by rw [hd]; exact vgetF_vput hu ys)
theorem gsetsA_put (cs : List Col) (hcs : cs.length ≤ 12) : ∀ {ts : List (Int × CV)} {L : Int} (xs ys : List Nat) {acc : List (Int × CV)}, 0 ≤ L → setW cs L ts = 0 → (∀ t ∈ ts, CVok t.2) →
    gsetsA cs ((xs ++ setB cs ts) ++ ys) ts.length L (xs.length : Int) acc = (acc ++ ts, (xs.length : Int) + ((setB cs ts).length : Int), 0)
  | [], L, xs, ys, acc, _, _, _ => by simp [gsetsA, setB]
  | t :: r, L, xs, ys, acc, hL, hw, hv => by
    obtain ⟨w1, w2, w3, w4⟩ := setW_cons hw
    obtain ⟨p, v⟩ := t
    simp only at w1 w2 w3 w4
    obtain ⟨u, rfl⟩ := Int.eq_ofNat_of_zero_le (show 0 ≤ p by omega)
    rw [Int.toNat_natCast] at w3
    have hvv := hv _ List.mem_cons_self
    have hb : setB cs (((u : Int), v) :: r) = vput u ++ (putB (colAt cs u) v ++ setB cs r) := rfl
    have e1 : (xs ++ setB cs (((u : Int), v) :: r)) ++ ys = (xs ++ vput u) ++ (putB (colAt cs u) v ++ (setB cs r ++ ys)) := by rw [hb]; simp
    have e2 : (xs ++ setB cs (((u : Int), v) :: r)) ++ ys = ((xs ++ vput u) ++ putB (colAt cs u) v) ++ (setB cs r ++ ys) := by rw [hb]; simp
    have e3 : (xs ++ setB cs (((u : Int), v) :: r)) ++ ys = (((xs ++ vput u) ++ putB (colAt cs u) v) ++ setB cs r) ++ ys := by rw [hb]; simp
    have g1 := vget_put (u := u) (by omega) xs (putB (colAt cs u) v ++ (setB cs r ++ ys))
    rw [← e1] at g1
    have g2 := gcell_put (c := colAt cs u) (v := v) (xs ++ vput u) (setB cs r ++ ys) w3 hvv
    rw [← e2] at g2
    have hl1 : ((xs ++ vput u).length : Int) = (xs.length : Int) + ((vput u).length : Int) := by rw [List.length_append]; omega
    rw [hl1] at g2
    have ih := gsetsA_put cs hcs (ts := r) (L := (u : Int)) ((xs ++ vput u) ++ putB (colAt cs u) v) ys (acc := acc ++ [((u : Int), v)]) (Int.natCast_nonneg _) w4 (fun t ht => hv t (List.mem_cons_of_mem _ ht))
    rw [← e3] at ih
    have hl2 : (((xs ++ vput u) ++ putB (colAt cs u) v).length : Int) = (xs.length : Int) + ((vput u).length : Int) + ((putB (colAt cs u) v).length : Int) := by rw [List.length_append, List.length_append]; omega
    rw [hl2] at ih
    rw [List.length_cons, gsetsA, g1]
    simp only
    rw [if_neg (fun e => e rfl), if_neg (by omega), g2]
    simp only
    rw [if_neg (fun e => e rfl)]
    show gsetsA cs _ r.length (u : Int) _ (acc ++ [((u : Int), v)]) = _
    rw [ih, hb]
    simp only [List.length_append, List.append_assoc, List.singleton_append, Prod.mk.injEq, true_and, and_true]
    omega

/-- A row with sets. -/
def withV : List CV → List (Int × CV) → List CV
  | vs, [] => vs
  | vs, t :: r => withV (vs.set t.1.toNat t.2) r
theorem withV_snoc : ∀ {ts : List (Int × CV)} {vs : List CV} {t : Int × CV}, withV vs (ts ++ [t]) = (withV vs ts).set t.1.toNat t.2
  | [], _vs, _t => rfl
  | _u :: r, _vs, _t => withV_snoc (ts := r)
theorem withV_len : ∀ {ts : List (Int × CV)} {vs : List CV}, (withV vs ts).length = vs.length
  | [], vs => rfl
  | u :: r, vs => by rw [withV, withV_len (ts := r), List.length_set]
theorem withV_step {ts : List (Int × CV)} {vs : List CV} {j : Nat} {t : Int × CV} (h : ts[j]? = some t) : withV vs (ts.take (j + 1)) = (withV vs (ts.take j)).set t.1.toNat t.2 := by
  rw [List.take_add_one, h]
  exact withV_snoc

end Go.Proofs.Ytpjichclpnebjaa
