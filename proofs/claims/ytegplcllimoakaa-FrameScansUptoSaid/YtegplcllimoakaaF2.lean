/-
  The document's answers of layer 4, by definition: a frame read (so far: at a place that isn't there, and with too few bytes).
-/
import Derived.Test.YtegplcllimoakaaK2
namespace Go.Proofs.Ytegplcllimoakaa
open Go.RowKit

/-- What Get of the reference answers. -/
def FGetPost (bs : List Nat) (at_ : Int) (w : World) (e : Ending) (w' : World) : Prop :=
  ∃ A' c', e = .returned (.tuple #[.agg #[.int .i64 (fget bs at_).1, .slice A' (fget bs at_).2.1.length c'], .int .i64 (fget bs at_).2.2.1, .int .i64 (fget bs at_).2.2.2]) ∧ Own .u8 5 w' w.heap.size A' c' (fget bs at_).2.1 ∧ Ext w w'

theorem FGetPost.err {bs : List Nat} {at_ r : Int} {w w' : World} (h : fget bs at_ = (0, [], 0, r)) (he : Ext w w') :
    FGetPost bs at_ w (.returned (.tuple #[.agg #[.int .i64 0, .slice none 0 0], .int .i64 0, .int .i64 r])) w' :=
  ⟨none, 0, by rw [h]; rfl, by rw [h]; exact Own.nil .., he⟩

theorem fget_arg {bs : List Nat} {at_ : Int} (h : at_ < 0 ∨ (bs.length : Int) < at_) : fget bs at_ = (0, [], 0, 1) := if_pos h
theorem fget_in {bs : List Nat} {a : Nat} (h : a ≤ bs.length) : fget bs a = fgetN bs a := by
  unfold fget
  rw [if_neg (by omega)]
  rfl
theorem fget_short {bs : List Nat} {a : Nat} (h : a ≤ bs.length) (h2 : bs.length < a + 9) : fget bs a = (0, [], 0, 2) := by
  rw [fget_in h, fgetN, if_pos h2]

set_option maxHeartbeats 800000 in
theorem refFGet_bad (A : Option Addr) (n c : Nat) (at_ : Int) (bs : List Nat) (w : World) (hx : Rd .u8 w A n bs) (hn : n ≤ 140737488355328) (hk : at_ < 0 ∨ (n : Int) < at_ + 9) (hs : at_ ≤ 9223372036854775807) :
    Calls Try.prog 34 #[.slice A n c, .int .i64 at_] w (FGetPost bs at_ w) := by
  have hl := hx.len
  by_cases hk : at_ < 0 ∨ (n : Int) < at_
  · have HE := Lib.hid (fget_arg (bs := bs) (at_ := at_) (by rw [hl]; exact hk))
    clear hl
    go_enter Try.func34, Try.ntmps34
    rcases hk with h | h
    · go_wp2
      refine bodyPost_ret (v := .tuple #[.agg #[.int .i64 0, .slice none 0 0], .int .i64 0, .int .i64 1]) (by simp [results, Try.results34, go_sem]) rfl ?_
      exact FGetPost.err HE.out ((Ext.refl w).alloc _)
    · have b1 : decide (at_ < 0) = false := by simp; omega
      go_wp2
      refine bodyPost_ret (v := .tuple #[.agg #[.int .i64 0, .slice none 0 0], .int .i64 0, .int .i64 1]) (by simp [results, Try.results34, go_sem]) rfl ?_
      exact FGetPost.err HE.out ((Ext.refl w).alloc _)
  · obtain ⟨a, rfl⟩ := Int.eq_ofNat_of_zero_le (show 0 ≤ at_ by omega)
    have HE := Lib.hid (fget_short (bs := bs) (a := a) (by omega) (by omega))
    have b1 : decide ((a : Int) < 0) = false := by simp
    have b2 : decide ((n : Int) < (a : Int)) = false := by simp; omega
    clear hl
    go_enter Try.func34, Try.ntmps34
    go_wp2
    refine bodyPost_ret (v := .tuple #[.agg #[.int .i64 0, .slice none 0 0], .int .i64 0, .int .i64 2]) (by simp [results, Try.results34, go_sem]) rfl ?_
    exact FGetPost.err HE.out ((Ext.refl w).alloc _)

end Go.Proofs.Ytegplcllimoakaa
