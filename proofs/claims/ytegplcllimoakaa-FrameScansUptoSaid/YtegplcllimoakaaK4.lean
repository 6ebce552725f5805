/-
  Layer 4, as mathematics: frames one behind the other, cut somewhere: the whole ones are found.
-/
import Derived.Test.YtegplcllimoakaaG4
namespace Go.Proofs.Ytegplcllimoakaa
open Go.RowKit

/-- Frames one behind the other. -/
def allB (fl : List (Nat × List Nat)) : List Nat := (fl.map fun p => fr p.1 p.2).flatten
/-- How many of them are whole in the first c bytes. -/
def whole : List (Nat × List Nat) → Nat → Nat
  | [], _ => 0
  | p :: r, c => if p.2.length + 13 ≤ c then whole r (c - (p.2.length + 13)) + 1 else 0

def GoodF (p : Nat × List Nat) : Prop := 1 ≤ p.1 ∧ p.1 ≤ 255 ∧ p.2.length ≤ 65536 ∧ U8 p.2

theorem allB_cons (p : Nat × List Nat) (r : List (Nat × List Nat)) : allB (p :: r) = fr p.1 p.2 ++ allB r := by simp [allB]
theorem allB_snoc (p : Nat × List Nat) (r : List (Nat × List Nat)) : allB (r ++ [p]) = allB r ++ fr p.1 p.2 := by simp [allB]
theorem allB_nil : allB [] = [] := rfl
theorem allB_u8 {fl : List (Nat × List Nat)} (h : ∀ p ∈ fl, GoodF p) : U8 (allB fl) := by
  induction fl with
  | nil => intro v hv; cases hv
  | cons p r ih =>
    rw [allB_cons]
    exact u8_append (fr_u8 (h p (by simp)).2.2.2 _) (ih fun q hq => h q (by simp [hq]))

/-- The beginning of a frame is short. -/
theorem fgetN_short {bs : List Nat} {a k t : Nat} {body : List Nat} (hk : 1 ≤ k) (hk2 : k ≤ 255) (hb : body.length ≤ 65536) (h : cut bs a t = (fr k body).take t) (hl : bs.length = a + t) (ht : t < body.length + 13) :
    fgetN bs a = (0, [], 0, 2) := by
  by_cases h9 : t < 9
  · unfold fgetN
    rw [if_pos (by omega)]
  · have e9 : cut bs a 9 = sl (fhead k body.length) := by
      have := cut_cut (bs := bs) (a := a) (m := t) (b := 0) (k := 9) (by omega)
      rw [h, Nat.add_zero] at this
      rw [← this, ← fr_parts.1, cut, List.drop_zero, List.take_take, show min 9 t = 9 from by omega]
    have e4 : cut bs (a + 1) 4 = cut (sl (fhead k body.length)) 1 4 := by
      have := cut_cut (bs := bs) (a := a) (m := 9) (b := 1) (k := 4) (by omega)
      rw [e9] at this
      exact this.symm
    have e0 : bs.getD a 0 = k := by
      have := cut_getD (bs := bs) (a := a) (m := 9) (b := 0) (by omega)
      rw [Nat.add_zero, e9, head_kind (by omega)] at this
      exact this.symm
    unfold fgetN
    rw [if_neg (by omega), e9, if_neg (fun q => q (head_sld _ _)), e0, if_neg (by omega), e4, head_size (by omega), if_neg (by omega), if_pos (by omega)]

theorem scn_all (fl : List (Nat × List Nat)) : ∀ (pre : List Nat) (c f : Nat), (∀ p ∈ fl, GoodF p) → pre.length ≤ c → c ≤ (pre ++ allB fl).length → c < f + pre.length →
    scn ((pre ++ allB fl).take c) f pre.length = (fl.take (whole fl (c - pre.length)), pre.length + (allB (fl.take (whole fl (c - pre.length)))).length, if pre.length + (allB (fl.take (whole fl (c - pre.length)))).length = c then 0 else 2) := by
  induction fl with
  | nil =>
    intro pre c f _ h1 h2 h3
    simp [allB] at h2
    rw [scn_end (by simp [allB]; omega)]
    simp [whole, allB]
    omega
  | cons p r ih =>
    intro pre c f hg h1 h2 h3
    obtain ⟨k, body⟩ := p
    obtain ⟨g1, g2, g3, g4⟩ := hg (k, body) (by simp)
    simp only at g1 g2 g3 g4
    have hfl := fr_len k body
    have hlen : ((pre ++ allB ((k, body) :: r)).take c).length = c := by rw [List.length_take]; omega
    obtain ⟨f, rfl⟩ : ∃ g, f = g + 1 := ⟨f - 1, by omega⟩
    rw [allB_cons] at h2 hlen ⊢
    simp only at h2 hlen ⊢
    by_cases hc : c = pre.length
    · have hw : whole ((k, body) :: r) (c - pre.length) = 0 := by
        rw [whole, if_neg (by show ¬ (body.length + 13 ≤ _); omega)]
      rw [hw, scn_end (by omega)]
      simp [allB]
      omega
    · by_cases hf : body.length + 13 ≤ c - pre.length
      · have hcut : cut ((pre ++ (fr k body ++ allB r)).take c) pre.length (body.length + 13) = fr k body := by
          rw [cut, List.drop_take, List.drop_left, List.take_take, show min (body.length + 13) (c - pre.length) = (fr k body).length from by omega, List.take_left]
        have hgn := fgetN_fr g4 g1 g2 g3 (by omega) hcut
        have hw : whole ((k, body) :: r) (c - pre.length) = whole r (c - (pre ++ fr k body).length) + 1 := by
          rw [whole, if_pos hf, List.length_append, hfl, Nat.sub_sub]
        have hi := ih (pre ++ fr k body) c f (fun q hq => hg q (by simp [hq])) (by rw [List.length_append]; omega) (by rw [List.append_assoc]; exact h2) (by rw [List.length_append]; omega)
        rw [List.append_assoc] at hi
        rw [scn_ok (by omega) (by rw [hgn]), hgn, hw]
        simp only
        rw [show pre.length + 13 + body.length = (pre ++ fr k body).length from by rw [List.length_append]; omega, hi, List.take_succ_cons, allB_cons]
        simp only [List.length_append, Nat.add_assoc]
      · have hcut : cut ((pre ++ (fr k body ++ allB r)).take c) pre.length (c - pre.length) = (fr k body).take (c - pre.length) := by
          rw [cut, List.drop_take, List.drop_left, List.take_take, Nat.min_self, List.take_append_of_le_length (by omega)]
        have hgn := fgetN_short g1 g2 g3 hcut (by omega) (by omega)
        have hw : whole ((k, body) :: r) (c - pre.length) = 0 := by rw [whole, if_neg hf]
        rw [scn_err (by omega) (by rw [hgn]; decide), hgn, hw]
        simp [allB]
        omega

/-- What Scan answers of frames one behind the other, cut at c. -/
theorem fscan_all {fl : List (Nat × List Nat)} {c : Nat} (h : ∀ p ∈ fl, GoodF p) (hc : c ≤ (allB fl).length) :
    fscan ((allB fl).take c) = (fl.take (whole fl c), (allB (fl.take (whole fl c))).length, if (allB (fl.take (whole fl c))).length = c then 0 else 2) := by
  have hl : ((allB fl).take c).length = c := by rw [List.length_take]; omega
  have := scn_all fl [] c (c + 1) h (Nat.zero_le _) (by simpa using hc) (by simp)
  unfold fscan
  rw [hl]
  simpa using this

/-- The count of the whole ones by the places where they end. -/
theorem whole_step {fl : List (Nat × List Nat)} {c m : Nat} (hm : m < whole fl c) : m < fl.length ∧ (allB (fl.take (m + 1))).length ≤ c := by
  induction fl generalizing c m with
  | nil => simp [whole] at hm
  | cons p r ih =>
    by_cases hf : p.2.length + 13 ≤ c
    · rw [whole, if_pos hf] at hm
      cases m with
      | zero => simp [allB_cons, fr_len, allB_nil]; omega
      | succ m =>
        obtain ⟨i1, i2⟩ := ih (c := c - (p.2.length + 13)) (m := m) (by omega)
        refine ⟨by simp; omega, ?_⟩
        rw [List.take_succ_cons, allB_cons, List.length_append, fr_len]
        omega
    · rw [whole, if_neg hf] at hm
      omega

theorem whole_stop {fl : List (Nat × List Nat)} {c : Nat} (h : whole fl c < fl.length) : c < (allB (fl.take (whole fl c + 1))).length := by
  induction fl generalizing c with
  | nil => simp at h
  | cons p r ih =>
    by_cases hf : p.2.length + 13 ≤ c
    · rw [whole, if_pos hf] at h ⊢
      have := ih (c := c - (p.2.length + 13)) (by simpa using h)
      rw [List.take_succ_cons, allB_cons, List.length_append, fr_len]
      omega
    · rw [whole, if_neg hf]
      simp [allB_cons, fr_len, allB_nil]
      omega

theorem whole_le (fl : List (Nat × List Nat)) (c : Nat) : whole fl c ≤ fl.length := by
  induction fl generalizing c with
  | nil => simp [whole]
  | cons p r ih =>
    rw [whole]
    split
    · have := ih (c - (p.2.length + 13)); simp; omega
    · omega

end Go.Proofs.Ytegplcllimoakaa
