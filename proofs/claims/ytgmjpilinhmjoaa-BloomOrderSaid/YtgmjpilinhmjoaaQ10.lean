/-
  Layer 13: what is added is had, also behind merging, writing and reading.
-/
import Derived.Test.YtgmjpilinhmjoaaQ9
namespace Go.Proofs.Ytgmjpilinhmjoaa
open Go.RowKit
set_option maxRecDepth 100000

theorem tb_setB {bs : List Nat} {k : Nat} (h : k < 8 * bs.length) (i : Nat) : tb (setB bs k) i = (decide (i = k) || tb bs i) := by
  have hk : k / 8 < bs.length := by omega
  unfold tb setB
  by_cases hq : k / 8 = i / 8
  · rw [hq, List.getD, List.getElem?_set_self (by omega), Option.getD_some, Nat.testBit_or, Nat.testBit_two_pow]
    by_cases hm : k % 8 = i % 8
    · rw [decide_eq_true hm, decide_eq_true (show i = k by omega)]; simp
    · rw [decide_eq_false hm, decide_eq_false (show ¬ i = k by omega)]; simp
  · rw [List.getD, List.getElem?_set_ne hq, decide_eq_false (show ¬ i = k by omega), Bool.false_or, List.getD]

theorem tb_addK (h m : Nat) : ∀ (is fs : List Nat), m = 8 * fs.length → 0 < m → ∀ i, tb (addK fs h m is) i = (is.any (fun x => decide (i = kk h m x)) || tb fs i) := by
  intro is
  induction is with
  | nil => intro fs _ _ i; rfl
  | cons x is ih =>
    intro fs hm h0 i
    have := ih (setB fs (kk h m x)) (by rw [setB_len]; exact hm) h0 i
    have e : addK fs h m (x :: is) = addK (setB fs (kk h m x)) h m is := rfl
    rw [e, this, tb_setB (by rw [← hm]; exact kk_lt h0), List.any_cons]
    cases decide (i = kk h m x) <;> cases is.any (fun x => decide (i = kk h m x)) <;> simp
theorem tb_addF {fs : List Nat} (h0 : 0 < fs.length) (key : List Nat) (i : Nat) : tb (addF fs key) i = ((List.range 6).any (fun x => decide (i = kk (fnv key) (8 * fs.length) x)) || tb fs i) :=
  tb_addK _ _ _ _ rfl (by omega) i
theorem has_addF {fs : List Nat} (h0 : 0 < fs.length) (key : List Nat) : hasF (addF fs key) key = true := by
  refine hasF_yes fun i hi => ?_
  rw [addF_len, tb_addF h0]
  have : (List.range 6).any (fun x => decide (kk (fnv key) (8 * fs.length) i = kk (fnv key) (8 * fs.length) x)) = true := List.any_eq_true.2 ⟨i, hi, decide_eq_true rfl⟩
  rw [this, Bool.true_or]
/-- All bits of the one are set in the other. -/
def Sub (fs os : List Nat) : Prop := fs.length = os.length ∧ ∀ i, tb fs i = true → tb os i = true
theorem Sub.refl (fs : List Nat) : Sub fs fs := ⟨rfl, fun _ h => h⟩
theorem Sub.trans {a b c : List Nat} (h : Sub a b) (k : Sub b c) : Sub a c := ⟨h.1.trans k.1, fun i hi => k.2 i (h.2 i hi)⟩
theorem Sub.has {fs os : List Nat} (h : Sub fs os) {key : List Nat} (hk : hasF fs key = true) : hasF os key = true := by
  refine hasF_yes fun i hi => ?_
  rw [← h.1]
  exact h.2 _ (List.all_eq_true.1 hk i hi)
theorem sub_addF {fs : List Nat} (h0 : 0 < fs.length) (key : List Nat) : Sub fs (addF fs key) := ⟨(addF_len _ _).symm, fun i hi => by rw [tb_addF h0, hi, Bool.or_true]⟩
theorem sub_addAll : ∀ (keys : List (List Nat)) {fs : List Nat}, 0 < fs.length → Sub fs (addAll fs keys) := by
  intro keys
  induction keys with
  | nil => intro fs _; exact Sub.refl _
  | cons k ks ih => intro fs h0; exact (sub_addF h0 k).trans (ih (fs := addF fs k) (by rw [addF_len]; exact h0))
theorem has_addAll : ∀ (keys : List (List Nat)) {fs : List Nat}, 0 < fs.length → ∀ k ∈ keys, hasF (addAll fs keys) k = true := by
  intro keys
  induction keys with
  | nil => intro fs _ k hk; cases hk
  | cons x ks ih =>
    intro fs h0 k hk
    have h1 : 0 < (addF fs x).length := by rw [addF_len]; exact h0
    rcases List.mem_cons.1 hk with rfl | hk
    · exact (sub_addAll ks (fs := addF fs k) h1).has (has_addF h0 k)
    · exact ih h1 k hk
theorem merge_get {fs os : List Nat} (h : fs.length = os.length) (i : Nat) : (mergeF fs os).getD i 0 = fs.getD i 0 ||| os.getD i 0 := by
  by_cases hi : i < fs.length
  · rw [← mrg_all h, mrg_get h hi, if_pos hi]
  · rw [List.getD, List.getD, List.getD, List.getElem?_eq_none (by rw [mergeF_len h]; omega), List.getElem?_eq_none (by omega), List.getElem?_eq_none (by omega)]; rfl
theorem tb_merge {fs os : List Nat} (h : fs.length = os.length) (i : Nat) : tb (mergeF fs os) i = (tb fs i || tb os i) := by
  unfold tb
  rw [merge_get h, Nat.testBit_or]
theorem sub_mergeL {fs os : List Nat} (h : fs.length = os.length) : Sub fs (mergeF fs os) := ⟨(mergeF_len h).symm, fun i hi => by rw [tb_merge h, hi, Bool.true_or]⟩
theorem sub_mergeR {fs os : List Nat} (h : fs.length = os.length) : Sub os (mergeF fs os) := ⟨by rw [mergeF_len h, h], fun i hi => by rw [tb_merge h, hi, Bool.or_true]⟩

/-- What is written is read again. -/
theorem body_enc (fs : List Nat) : bodyF (encF fs) = vput fs.length ++ fs := by
  have hl : (vput fs.length ++ fs).length = (encF fs).length - 4 := by rw [encF, sl_len]; omega
  rw [bodyF, ← hl, encF, sl, List.take_left]
theorem vget_enc {fs : List Nat} (hi : fs.length ≤ 5120) : vget (vput fs.length ++ fs) 0 = (fs.length, (vsize fs.length : Int), 0) := by
  have h := vget_ok (bs := vput fs.length ++ fs) (a := 0) (Nat.zero_le _) (by rw [List.drop_zero]; exact vgetF_vput (by omega) fs)
  simpa using h
theorem enc_dec {fs : List Nat} (hu : U8 fs) (lo : 8 ≤ fs.length) (hi : fs.length ≤ 5120) : fdecE (encF fs) = 0 ∧ fdecR (encF fs) = fs := by
  have hs : sld (encF fs) := sld_seal (u8_append (vput_u8 _) hu)
  have hv := vget_enc hi
  have hbl : (vput fs.length ++ fs).length = vsize fs.length + fs.length := by rw [List.length_append, vput_len]
  constructor
  · unfold fdecE
    rw [if_neg (by simpa using hs), body_enc, hv]
    simp only
    rw [if_neg (by simp), if_neg (by omega), hbl, if_neg (by omega), if_neg (by omega)]
  · unfold fdecR
    rw [body_enc, hv]
    simp only [Int.toNat_natCast]
    rw [← vput_len, List.drop_left]

end Go.Proofs.Ytgmjpilinhmjoaa
