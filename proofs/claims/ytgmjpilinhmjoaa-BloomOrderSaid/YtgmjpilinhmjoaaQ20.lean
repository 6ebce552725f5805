/-
  Layer 13: in whatever order keys are added: the same filter.
-/
import Derived.Test.YtgmjpilinhmjoaaQ17
namespace Go.Proofs.Ytgmjpilinhmjoaa
open Go.RowKit
set_option maxRecDepth 100000

/-- Is bit i among the key's, of m bits? -/
def kb (m : Nat) (key : List Nat) (i : Nat) : Bool := (List.range 6).any fun x => decide (i = kk (fnv key) m x)
theorem tb_addAll : ∀ (ks : List (List Nat)) {fs : List Nat}, 0 < fs.length → ∀ i, tb (addAll fs ks) i = (ks.any (fun k => kb (8 * fs.length) k i) || tb fs i) := by
  intro ks
  induction ks with
  | nil => intro fs _ i; rfl
  | cons k ks ih =>
    intro fs h0 i
    have e : addAll fs (k :: ks) = addAll (addF fs k) ks := rfl
    rw [e, ih (fs := addF fs k) (by rw [addF_len]; exact h0), addF_len, tb_addF h0, List.any_cons]
    show _ = ((kb (8 * fs.length) k i || _) || _)
    unfold kb
    cases (List.range 6).any (fun x => decide (i = kk (fnv k) (8 * fs.length) x)) <;> cases ks.any (fun k => (List.range 6).any fun x => decide (i = kk (fnv k) (8 * fs.length) x)) <;> simp
theorem tb_ext {a b : List Nat} (ha : U8 a) (hb : U8 b) (hl : a.length = b.length) (h : ∀ i, tb a i = tb b i) : a = b := by
  apply List.ext_getElem hl
  intro q h1 h2
  have ga : a.getD q 0 = a[q] := by simp [List.getD, h1]
  have gb : b.getD q 0 = b[q] := by simp [List.getD, h2]
  rw [← ga, ← gb]
  apply Nat.eq_of_testBit_eq
  intro i
  by_cases hi : i < 8
  · have := h (8 * q + i)
    unfold tb at this
    rwa [show (8 * q + i) / 8 = q by omega, show (8 * q + i) % 8 = i by omega] at this
  · have hp : (256 : Nat) ≤ 2 ^ i := Nat.pow_le_pow_right (n := 2) (by decide) (show 8 ≤ i by omega)
    rw [Nat.testBit_lt_two_pow (Nat.lt_of_lt_of_le (ha.at_ q) hp), Nat.testBit_lt_two_pow (Nat.lt_of_lt_of_le (hb.at_ q) hp)]
theorem merge_cut {Z : List Nat} (h0 : 0 < Z.length) (hz : U8 Z) (ks : List (List Nat)) (q : Nat) : mergeF (addAll Z (ks.drop q)) (addAll Z (ks.take q)) = addAll Z ks := by
  have e : (addAll Z (ks.drop q)).length = (addAll Z (ks.take q)).length := by rw [addAll_len, addAll_len]
  refine tb_ext (mergeF_u8 (addAll_u8 _ hz) (addAll_u8 _ hz)) (addAll_u8 _ hz) (by rw [mergeF_len e, addAll_len, addAll_len]) fun i => ?_
  rw [tb_merge e, tb_addAll _ h0, tb_addAll _ h0, tb_addAll _ h0]
  have : ks.any (fun k => kb (8 * Z.length) k i) = ((ks.take q).any (fun k => kb (8 * Z.length) k i) || (ks.drop q).any (fun k => kb (8 * Z.length) k i)) := by
    rw [← List.any_append, List.take_append_drop]
  rw [this]
  cases (ks.take q).any (fun k => kb (8 * Z.length) k i) <;> cases (ks.drop q).any (fun k => kb (8 * Z.length) k i) <;> cases tb Z i <;> rfl
/-- Added from the last to the first, each twice, as far down as j. -/
def Back (Z : List Nat) (ks : List (List Nat)) (j : Nat) (C : List Nat) : Prop := C.length = Z.length ∧ U8 C ∧ ∀ i, tb C i = ((ks.drop j).any (fun k => kb (8 * Z.length) k i) || tb Z i)
theorem back_start {Z : List Nat} (hz : U8 Z) (ks : List (List Nat)) : Back Z ks ks.length Z := ⟨rfl, hz, fun i => by rw [List.drop_length]; rfl⟩
theorem back_step {Z C : List Nat} {ks : List (List Nat)} {j : Nat} (h0 : 0 < Z.length) (hj : j < ks.length) (h : Back Z ks (j + 1) C) : Back Z ks j (addAll C [ks.getD j [], ks.getD j []]) := by
  refine ⟨by rw [addAll_len, h.1], addAll_u8 _ h.2.1, fun i => ?_⟩
  rw [tb_addAll _ (by rw [h.1]; exact h0), h.1, h.2.2 i, List.drop_eq_getElem_cons hj, List.any_cons, show ks.getD j [] = ks[j] by simp [List.getD, hj]]
  simp only [List.any_cons, List.any_nil]
  cases kb (8 * Z.length) ks[j] i <;> simp
theorem back_end {Z C : List Nat} {ks : List (List Nat)} (h0 : 0 < Z.length) (hz : U8 Z) (h : Back Z ks 0 C) : C = addAll Z ks :=
  tb_ext h.2.1 (addAll_u8 _ hz) (by rw [h.1, addAll_len]) fun i => by rw [h.2.2, tb_addAll _ h0, List.drop_zero]
theorem zeros_u8 (n : Int) : U8 (zeros n) := by
  intro x hx
  rw [(List.mem_replicate.1 hx).2]; decide
theorem count_zeros (n : Int) : countF (zeros n) = 0 := by
  unfold countF zeros
  rw [List.map_replicate]
  have : pop 0 = 0 := by decide
  rw [this]
  simp

end Go.Proofs.Ytgmjpilinhmjoaa
