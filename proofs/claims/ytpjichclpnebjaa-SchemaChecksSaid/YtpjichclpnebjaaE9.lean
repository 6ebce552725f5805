/-
  Plain mathematics of layer 5: a cell read.
-/
import Derived.Test.YtpjichclpnebjaaE8
import Derived.Test.YtpjichclpnebjaaV3s
namespace Go.Proofs.Ytpjichclpnebjaa
open Go.RowKit

/-- A cell that was read, the place behind it, the error's number. -/
structure CR where
  nul : Bool
  num : Int
  txt : List Nat
  next : Int
  err : Int

def crE (e : Int) : CR := ⟨false, 0, [], 0, e⟩

/-- What stands behind the mark of a value. -/
def cval (k : Int) (bs : List Nat) (a : Nat) : CR :=
  if (vget bs a).2.2 ≠ 0 then crE (vget bs a).2.2
  else if k ≤ 6 then (if chk k true false (unfS (vget bs a).1) [] ≠ 0 then crE (chk k true false (unfS (vget bs a).1) []) else ⟨false, unfS (vget bs a).1, [], (vget bs a).2.1, 0⟩)
  else if 200 < (vget bs a).1 then crE 4
  else if bs.length < (vget bs a).2.1.toNat + (vget bs a).1 then crE 2
  else if chk k true false 0 (cut bs (vget bs a).2.1.toNat (vget bs a).1) ≠ 0 then crE (chk k true false 0 (cut bs (vget bs a).2.1.toNat (vget bs a).1))
  else ⟨false, 0, cut bs (vget bs a).2.1.toNat (vget bs a).1, (vget bs a).2.1 + ((vget bs a).1 : Int), 0⟩

/-- What Get answers. -/
def cget (k : Int) (bs : List Nat) (at_ : Int) : CR :=
  if ¬ (1 ≤ k ∧ k ≤ 8) ∨ at_ < 0 ∨ (bs.length : Int) < at_ then crE 1
  else if at_ = (bs.length : Int) then crE 2
  else if bs.getD at_.toNat 0 = 0 then ⟨true, 0, [], at_ + 1, 0⟩
  else if bs.getD at_.toNat 0 ≠ 1 then crE 5
  else cval k bs (at_.toNat + 1)

theorem chk_ok {k : Int} {ok ok2 : Bool} {num : Int} {txt : List Nat} : chk k ok false num txt = chk k ok2 false num txt := by
  unfold chk; simp

/-- What Get leaves. -/
def CGetPost (r : CR) (w : World) (e : Ending) (w' : World) : Prop :=
  ∃ A' c', e = .returned (.tuple #[.agg #[.bool r.nul, .int .i64 r.num, .slice A' r.txt.length c'], .int .i64 r.next, .int .i64 r.err]) ∧ Own .u8 5 w' w.heap.size A' c' r.txt ∧ Ext w w'

theorem CGetPost.of {r : CR} {w w' : World} {nul : Bool} {num next err : Int} (h : r = ⟨nul, num, [], next, err⟩) (he : Ext w w') :
    CGetPost r w (.returned (.tuple #[.agg #[.bool nul, .int .i64 num, .slice none 0 0], .int .i64 next, .int .i64 err])) w' := by
  subst h
  exact ⟨none, 0, rfl, Own.nil .., he⟩

theorem cget_arg {k : Int} {bs : List Nat} {at_ : Int} (h : ¬ (1 ≤ k ∧ k ≤ 8) ∨ at_ < 0 ∨ (bs.length : Int) < at_) : cget k bs at_ = crE 1 := if_pos h
theorem cget_end {k : Int} {bs : List Nat} (h : 1 ≤ k ∧ k ≤ 8) : cget k bs (bs.length : Int) = crE 2 := by
  unfold cget; rw [if_neg (by omega), if_pos rfl]
theorem cget_null {k : Int} {bs : List Nat} {a : Nat} (h : 1 ≤ k ∧ k ≤ 8) (ha : a < bs.length) (h0 : bs.getD a 0 = 0) : cget k bs (a : Int) = ⟨true, 0, [], (a : Int) + 1, 0⟩ := by
  unfold cget; rw [if_neg (by omega), if_neg (by omega), Int.toNat_natCast, if_pos h0]
theorem cget_form {k : Int} {bs : List Nat} {a : Nat} (h : 1 ≤ k ∧ k ≤ 8) (ha : a < bs.length) (h0 : bs.getD a 0 ≠ 0) (h1 : bs.getD a 0 ≠ 1) : cget k bs (a : Int) = crE 5 := by
  unfold cget; rw [if_neg (by omega), if_neg (by omega), Int.toNat_natCast, if_neg h0, if_pos h1]
theorem cget_val {k : Int} {bs : List Nat} {a : Nat} (h : 1 ≤ k ∧ k ≤ 8) (ha : a < bs.length) (h1 : bs.getD a 0 = 1) : cget k bs (a : Int) = cval k bs (a + 1) := by
  unfold cget; rw [if_neg (by omega), if_neg (by omega), Int.toNat_natCast, if_neg (by omega), if_neg (fun q => q h1)]

theorem cval_err {k : Int} {bs : List Nat} {a : Nat} {u : Nat} {nx e : Int} (h : vget bs a = (u, nx, e)) (he : e ≠ 0) : cval k bs a = crE e := by
  unfold cval; rw [h, if_pos he]
theorem cval_num {k : Int} {bs : List Nat} {a : Nat} {u : Nat} {nx : Int} (h : vget bs a = (u, nx, 0)) (hk : k ≤ 6) :
    cval k bs a = if chk k true false (unfS u) [] ≠ 0 then crE (chk k true false (unfS u) []) else ⟨false, unfS u, [], nx, 0⟩ := by
  unfold cval; rw [h, if_neg (fun q => q rfl), if_pos hk]
theorem cval_long {k : Int} {bs : List Nat} {a : Nat} {u : Nat} {nx : Int} (h : vget bs a = (u, nx, 0)) (hk : ¬ k ≤ 6) (hu : 200 < u) : cval k bs a = crE 4 := by
  unfold cval; rw [h, if_neg (fun q => q rfl), if_neg hk, if_pos hu]
theorem cval_short {k : Int} {bs : List Nat} {a : Nat} {u m : Nat} (h : vget bs a = (u, (m : Int), 0)) (hk : ¬ k ≤ 6) (hu : ¬ 200 < u) (hs : bs.length < m + u) : cval k bs a = crE 2 := by
  unfold cval; rw [h, if_neg (fun q => q rfl), if_neg hk, if_neg hu, if_pos (by simpa using hs)]
theorem cval_txt {k : Int} {bs : List Nat} {a : Nat} {u m : Nat} (h : vget bs a = (u, (m : Int), 0)) (hk : ¬ k ≤ 6) (hu : ¬ 200 < u) (hs : ¬ bs.length < m + u) :
    cval k bs a = if chk k true false 0 (cut bs m u) ≠ 0 then crE (chk k true false 0 (cut bs m u)) else ⟨false, 0, cut bs m u, (m : Int) + (u : Int), 0⟩ := by
  unfold cval; rw [h, if_neg (fun q => q rfl), if_neg hk, if_neg hu, if_neg (by simpa using hs)]; simp only [Int.toNat_natCast]

theorem unfS_range {u : Nat} (h : u < 18446744073709551616) : -9223372036854775808 ≤ unfS (u : Int) ∧ unfS (u : Int) ≤ 9223372036854775807 := by
  unfold unfS; split <;> omega
theorem unf_fold {v : Int} : unfS (foldS v) = v := by unfold unfS foldS; split <;> split <;> omega
theorem fold_unf {u : Int} (h : 0 ≤ u) : foldS (unfS u) = u := by unfold unfS foldS; split <;> split <;> omega

end Go.Proofs.Ytpjichclpnebjaa
