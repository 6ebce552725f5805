import Derived.Test.YtdndhogpcdhamaaA1
namespace Go.Proofs.Ytdndhogpcdhamaa

/-- Each number and one more, modulo 2 to the 64th. -/
def bump (j : Nat) (xs : List Nat) : List Nat := (xs.take j).map (fun x => (x + 1) % 18446744073709551616) ++ xs.drop j
theorem bump_len (j : Nat) (xs : List Nat) : (bump j xs).length = xs.length := by simp [bump]; omega
theorem bump_zero (xs : List Nat) : bump 0 xs = xs := by simp [bump]
theorem bump_at {j : Nat} {xs : List Nat} (h : j < xs.length) : (bump j xs).getD j 0 = xs.getD j 0 := by
  unfold bump
  rw [List.getD, List.getElem?_append_right (by simp; omega)]
  simp [List.getD, Nat.min_eq_left (Nat.le_of_lt h)]
theorem bump_succ {j : Nat} {xs : List Nat} (h : j < xs.length) : bump (j + 1) xs = (bump j xs).set j ((xs.getD j 0 + 1) % 18446744073709551616) := by
  unfold bump
  rw [List.set_append_right _ _ (by simp; omega), take_next _ _ h]
  have hd : xs.drop j = xs.getD j 0 :: xs.drop (j + 1) := by rw [List.drop_eq_getElem_cons h]; simp [List.getD, h]
  rw [hd]
  simp [Nat.min_eq_left (Nat.le_of_lt h)]

end Go.Proofs.Ytdndhogpcdhamaa
