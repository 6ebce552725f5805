/-
  Layer 6: a column's name, the program's and the document's.
-/
import Derived.Test.YtpjichclpnebjaaE2
namespace Go.Proofs.Ytpjichclpnebjaa
open Go.RowKit

/-- A letter of a name. -/
def letter (x : Nat) : Bool := decide ((97 ≤ x ∧ x ≤ 122) ∨ (48 ≤ x ∧ x ≤ 57) ∨ x = 95)
theorem letter_yes {x : Nat} (h : (97 ≤ x ∧ x ≤ 122) ∨ (48 ≤ x ∧ x ≤ 57) ∨ x = 95) : letter x = true := decide_eq_true h
theorem letter_no {x : Nat} (h : ¬ ((97 ≤ x ∧ x ≤ 122) ∨ (48 ≤ x ∧ x ≤ 57) ∨ x = 95)) : letter x = false := decide_eq_false h

set_option maxHeartbeats 800000 in
theorem isLetter_any (x : Nat) (w : World) :
    Calls Try.prog 74 #[.int .u8 (x : Int)] w fun e w' => e = .returned (.bool (letter x)) ∧ w = w' := by
  have key : (letter x = true ∧ decide ((97 : Int) ≤ (x : Int)) = true ∧ decide ((x : Int) ≤ 122) = true) ∨
      (letter x = true ∧ ((decide ((97 : Int) ≤ (x : Int)) = true ∧ decide ((x : Int) ≤ 122) = false) ∨ decide ((97 : Int) ≤ (x : Int)) = false) ∧ decide ((48 : Int) ≤ (x : Int)) = true ∧ decide ((x : Int) ≤ 57) = true) ∨
      (letter x = true ∧ x = 95) ∨
      (letter x = false ∧ ((decide ((97 : Int) ≤ (x : Int)) = true ∧ decide ((x : Int) ≤ 122) = false) ∨ decide ((97 : Int) ≤ (x : Int)) = false) ∧ ((decide ((48 : Int) ≤ (x : Int)) = true ∧ decide ((x : Int) ≤ 57) = false) ∨ decide ((48 : Int) ≤ (x : Int)) = false) ∧ ((x : Int) == 95) = false) := by
    simp only [decide_eq_true_eq, decide_eq_false_iff_not, beq_eq_false_iff_ne]
    by_cases h : (97 ≤ x ∧ x ≤ 122) ∨ (48 ≤ x ∧ x ≤ 57) ∨ x = 95
    · have := letter_yes h
      rw [this]
      simp only [true_and, Bool.true_eq_false, false_and, or_false]
      omega
    · have := letter_no h
      rw [this]
      simp only [Bool.false_eq_true, false_and, false_or, true_and]
      omega
  generalize letter x = L at *
  rcases key with ⟨rfl, a1, a2⟩ | ⟨rfl, a1, a2, a3⟩ | ⟨rfl, rfl⟩ | ⟨rfl, a1, a2, a3⟩
  · go_enter Try.func74, Try.ntmps74
    go_wp2
    go_ret
    exact ⟨rfl, rfl⟩
  · rcases a1 with ⟨a1, b1⟩ | a1
    all_goals
      go_enter Try.func74, Try.ntmps74
      go_wp2
      go_ret
      exact ⟨rfl, rfl⟩
  · go_enter Try.func74, Try.ntmps74
    go_wp2
    go_ret
    exact ⟨rfl, rfl⟩
  · rcases a1 with ⟨a1, b1⟩ | a1 <;> rcases a2 with ⟨a2, b2⟩ | a2
    all_goals
      go_enter Try.func74, Try.ntmps74
      go_wp2
      go_ret
      exact ⟨rfl, rfl⟩

/-- A column's name. -/
def nameB (s : ByteArray) : Bool := decide (1 ≤ s.size ∧ s.size ≤ 24) && s.data.toList.all (fun b => letter b.toNat)
theorem nameB_len {s : ByteArray} (h : ¬ (1 ≤ s.size ∧ s.size ≤ 24)) : nameB s = false := by unfold nameB; rw [decide_eq_false h]; rfl
theorem nameB_bad {s : ByteArray} {j : Nat} (hj : j < s.size) (h : letter s[j].toNat = false) : nameB s = false := by
  unfold nameB
  rw [Bool.and_eq_false_iff]
  right
  rw [List.all_eq_false]
  exact ⟨s[j], List.getElem_mem (l := s.data.toList) (n := j) (by simpa using hj), by rw [h]; decide⟩
theorem nameB_ok {s : ByteArray} (h : 1 ≤ s.size ∧ s.size ≤ 24) (h2 : ∀ j (hj : j < s.size), letter s[j].toNat = true) : nameB s = true := by
  unfold nameB
  rw [decide_eq_true h, Bool.true_and, List.all_eq_true]
  intro b hb
  obtain ⟨i, hi, rfl⟩ := List.getElem_of_mem hb
  exact h2 i (by simpa using hi)

set_option maxHeartbeats 800000 in
theorem isName_any (s : ByteArray) (w : World) (hs : s.size ≤ 140737488355328) :
    Calls Try.prog 52 #[.string s] w fun e w' => e = .returned (.bool (nameB s)) ∧ w = w' := by
  by_cases h : 1 ≤ s.size ∧ s.size ≤ 24
  · obtain ⟨B, hB⟩ : ∃ B, B = nameB s := ⟨_, rfl⟩
    rw [← hB]
    have HB := Lib.hid hB
    have h1 : 1 ≤ s.size := h.1
    have h2 : s.size ≤ 24 := h.2
    have a1 : decide (s.size < 1) = false := decide_eq_false (by omega)
    have a2 : decide (24 < s.size) = false := decide_eq_false (by omega)
    have a3 : decide ((s.size : Int) < 1) = false := decide_eq_false (by omega)
    have Hh := Lib.hid h
    clear hB h
    go_enter Try.func52, Try.ntmps52
    go_wp2
    go_loop [3, 14] (fun _ i => ∃ j : Nat, j ≤ s.size ∧ i = .int .i64 j ∧ Hid (∀ t (ht : t < s.size), t < j → letter s[t].toNat = true)) (fun _ i => s.size - (intOf i).toNat)
    case atStart => exact ⟨0, Nat.zero_le _, rfl, fun t _ ht => absurd ht (by omega)⟩
    case round =>
      obtain ⟨j, hj, rfl, Hs⟩ := hrel
      by_cases hlt : j < s.size
      · obtain ⟨u, hu⟩ : ∃ u, u = s[j].toNat := ⟨_, rfl⟩
        cases hl : letter s[j].toNat with
        | false =>
          have HE := Lib.hid (HB.out.trans (nameB_bad hlt hl))
          have Hl := Lib.hid hl
          clear hl hu
          go_wp2_with fail
          refine (isLetter_any _ _).mono ?_
          rintro e w1 ⟨rfl, rfl⟩
          rw [Hl.out]
          go_wp2
          go_ret
          exact ⟨by rw [HE.out]; rfl, rfl⟩
        | true =>
          have Hl := Lib.hid hl
          clear hl hu
          go_wp2_with fail
          refine (isLetter_any _ _).mono ?_
          rintro e w1 ⟨rfl, rfl⟩
          rw [Hl.out]
          go_wp2
          go_round
          case rel => exact ⟨j + 1, by omega, by go_num, fun t ht hlt2 => by
            by_cases q : t < j
            · exact Hs.out t ht q
            · obtain rfl : t = j := by omega
              exact Hl.out⟩
          case measure => simp [intOf]; omega
      · have HE := Lib.hid (HB.out.trans (nameB_ok Hh.out (fun t ht => Hs.out t ht (by omega))))
        go_wp2
        go_ret
        exact ⟨by rw [HE.out]; rfl, rfl⟩
  · rw [nameB_len h]
    by_cases h1 : s.size < 1
    · have a1 : (s.size : Int) < 1 := by omega
      clear h
      go_enter Try.func52, Try.ntmps52
      go_wp2
      go_ret
      exact ⟨rfl, rfl⟩
    · have a1 : decide ((s.size : Int) < 1) = false := decide_eq_false (by omega)
      have a2 : 24 < s.size := by omega
      clear h
      go_enter Try.func52, Try.ntmps52
      go_wp2
      go_ret
      exact ⟨rfl, rfl⟩

end Go.Proofs.Ytpjichclpnebjaa
