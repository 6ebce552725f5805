/-
  Numbers narrowed.
-/
import Derived.Test.YtpjichclpnebjaaB10t
namespace Go.Proofs.Ytpjichclpnebjaa
open Go.RowKit

/-- What Narrow answers. -/
def narV (v size : Int) : Int :=
  if size = 1 then (v + 128) % 256 - 128 else if size = 2 then (v + 32768) % 65536 - 32768 else if size = 4 then (v + 2147483648) % 4294967296 - 2147483648 else if size = 8 then v else 0
def narB (v size : Int) : Bool := if size = 1 ∨ size = 2 ∨ size = 4 ∨ size = 8 then decide (narV v size = v) else false

theorem ret_nar {a a' : Int} {b b' : Bool} (h : a = a') (h2 : b = b') : Ending.returned (.tuple #[.int .i64 a, .bool b]) = .returned (.tuple #[.int .i64 a', .bool b']) := by rw [h, h2]

theorem wrap_i8_eq (n : Int) : IntKind.i8.wrap n = (n + 128) % 256 - 128 := by simp [IntKind.wrap, IntKind.bits, IntKind.signed]; split <;> omega
theorem wrap_i16_eq (n : Int) : IntKind.i16.wrap n = (n + 32768) % 65536 - 32768 := by simp [IntKind.wrap, IntKind.bits, IntKind.signed]; split <;> omega

theorem beq_dec (a b : Int) : (a == b) = decide (a = b) := by rw [Bool.eq_iff_iff]; simp

set_option maxHeartbeats 800000 in
theorem narrow_any (v size : Int) (w : World) (_h0 : -9223372036854775808 ≤ v) (_h1 : v ≤ 9223372036854775807) :
    Calls Try.prog 100 #[.int .i64 v, .int .i64 size] w fun e w' => e = .returned (.tuple #[.int .i64 (narV v size), .bool (narB v size)]) ∧ w = w' := by
  obtain ⟨a, ha⟩ : ∃ a, a = narV v size := ⟨_, rfl⟩
  obtain ⟨b, hb⟩ : ∃ b, b = narB v size := ⟨_, rfl⟩
  rw [← ha, ← hb]
  have Ha := Lib.hid ha
  have Hb := Lib.hid hb
  clear ha hb
  go_enter Try.func100, Try.ntmps100
  go_wp2
  all_goals go_ret2
  · have hs : size = 1 := by have h : (size == 1) = true := by assumption
                             exact beq_iff_eq.1 h
    subst hs
    have e : wrap64 (IntKind.i8.wrap v) = narV v 1 := by unfold wrap64 narV; rw [wrap_i8_eq, if_pos rfl]; omega
    exact ⟨ret_nar (by rw [Ha.out, e]) (by rw [Hb.out, beq_dec, e]; rfl), rfl⟩
  · have hs : size = 2 := by have h : (size == 2) = true := by assumption
                             exact beq_iff_eq.1 h
    subst hs
    have e : wrap64 (IntKind.i16.wrap v) = narV v 2 := by unfold wrap64 narV; rw [wrap_i16_eq, if_neg (by omega), if_pos rfl]; omega
    exact ⟨ret_nar (by rw [Ha.out, e]) (by rw [Hb.out, beq_dec, e]; rfl), rfl⟩
  · have hs : size = 4 := by have h : (size == 4) = true := by assumption
                             exact beq_iff_eq.1 h
    subst hs
    have e : wrap64 (wrap32 v) = narV v 4 := by unfold wrap64 wrap32 narV; rw [if_neg (by omega), if_neg (by omega), if_pos rfl]; omega
    exact ⟨ret_nar (by rw [Ha.out, e]) (by rw [Hb.out, beq_dec, e]; rfl), rfl⟩
  · have hs : size = 8 := by have h : (size == 8) = true := by assumption
                             exact beq_iff_eq.1 h
    subst hs
    have e : v = narV v 8 := by unfold narV; rw [if_neg (by omega), if_neg (by omega), if_neg (by omega), if_pos rfl]
    exact ⟨ret_nar (by rw [Ha.out, ← e]) (by rw [Hb.out]; unfold narB; rw [if_pos (by omega), ← e]; simp), rfl⟩
  · have q1 : ¬ size = 1 := by have h : (size == 1) = false := by assumption
                               simpa using h
    have q2 : ¬ size = 2 := by have h : (size == 2) = false := by assumption
                               simpa using h
    have q4 : ¬ size = 4 := by have h : (size == 4) = false := by assumption
                               simpa using h
    have q8 : ¬ size = 8 := by have h : (size == 8) = false := by assumption
                               simpa using h
    exact ⟨ret_nar (by rw [Ha.out]; unfold narV; rw [if_neg q1, if_neg q2, if_neg q4, if_neg q8]) (by rw [Hb.out]; unfold narB; rw [if_neg (by omega)]), rfl⟩

end Go.Proofs.Ytpjichclpnebjaa
