/-
  Layer 14: a file's name.
-/
import Derived.Test.YtjckfbpdnpehcaaDK0
namespace Go.Proofs.Ytjckfbpdnpehcaa
open Go.RowKit

def mayS (x : Nat) : Bool := decide ((97 ≤ x ∧ x ≤ 122) ∨ (48 ≤ x ∧ x ≤ 57) ∨ x = 46 ∨ x = 95 ∨ x = 45)

set_option maxHeartbeats 1600000 in
theorem mayStand_any (x : Nat) (w : World) :
    Calls Try.prog 83 #[.int .u8 (x : Int)] w fun e w' => e = .returned (.bool (mayS x)) ∧ w = w' := by
  obtain ⟨B, hB⟩ : ∃ B, B = mayS x := ⟨_, rfl⟩
  rw [← hB]
  unfold mayS at hB
  have HB := Lib.hid hB
  clear hB
  go_enter Try.func83, Try.ntmps83
  go_wp2
  all_goals
    go_ret
    refine ⟨?_, rfl⟩
    rw [HB.out]
    first
    | (rw [decide_eq_true (show (97 ≤ x ∧ x ≤ 122) ∨ (48 ≤ x ∧ x ≤ 57) ∨ x = 46 ∨ x = 95 ∨ x = 45 from by simp at *; omega)]; rfl)
    | (rw [decide_eq_false (show ¬ ((97 ≤ x ∧ x ≤ 122) ∨ (48 ≤ x ∧ x ≤ 57) ∨ x = 46 ∨ x = 95 ∨ x = 45) from by simp at *; omega)]; rfl)

/-- A file's name. -/
def isNm (s : ByteArray) : Bool := decide (1 ≤ s.size ∧ s.size ≤ 40) && s.data.toList.all (fun b => mayS b.toNat)
theorem isNm_len {s : ByteArray} (h : ¬ (1 ≤ s.size ∧ s.size ≤ 40)) : isNm s = false := by unfold isNm; rw [decide_eq_false h]; rfl
theorem isNm_bad {s : ByteArray} {j : Nat} (hj : j < s.size) (h : mayS s[j].toNat = false) : isNm s = false := by
  unfold isNm
  rw [Bool.and_eq_false_iff]
  right
  rw [List.all_eq_false]
  exact ⟨s[j], List.getElem_mem (l := s.data.toList) (n := j) (by simpa using hj), by rw [h]; decide⟩
theorem isNm_ok {s : ByteArray} (h : 1 ≤ s.size ∧ s.size ≤ 40) (h2 : ∀ j (hj : j < s.size), mayS s[j].toNat = true) : isNm s = true := by
  unfold isNm
  rw [decide_eq_true h, Bool.true_and, List.all_eq_true]
  intro b hb
  obtain ⟨i, hi, rfl⟩ := List.getElem_of_mem hb
  exact h2 i (by simpa using hi)

set_option maxHeartbeats 800000 in
theorem disName_any (s : ByteArray) (w : World) (hs : s.size ≤ 140737488355328) :
    Calls Try.prog 61 #[.string s] w fun e w' => e = .returned (.bool (isNm s)) ∧ w = w' := by
  by_cases h : 1 ≤ s.size ∧ s.size ≤ 40
  · obtain ⟨B, hB⟩ : ∃ B, B = isNm s := ⟨_, rfl⟩
    rw [← hB]
    have HB := Lib.hid hB
    have h1 : 1 ≤ s.size := h.1
    have h2 : s.size ≤ 40 := h.2
    have a1 : decide (s.size < 1) = false := decide_eq_false (by omega)
    have a2 : decide (40 < s.size) = false := decide_eq_false (by omega)
    have a3 : decide ((s.size : Int) < 1) = false := decide_eq_false (by omega)
    have Hh := Lib.hid h
    clear hB h
    go_enter Try.func61, Try.ntmps61
    go_wp2
    go_loop [3, 14] (fun _ i => ∃ j : Nat, j ≤ s.size ∧ i = .int .i64 j ∧ Hid (∀ t (ht : t < s.size), t < j → mayS s[t].toNat = true)) (fun _ i => s.size - (intOf i).toNat)
    case atStart => exact ⟨0, Nat.zero_le _, rfl, fun t _ ht => absurd ht (by omega)⟩
    case round =>
      obtain ⟨j, hj, rfl, Hs⟩ := hrel
      by_cases hlt : j < s.size
      · obtain ⟨u, hu⟩ : ∃ u, u = s[j].toNat := ⟨_, rfl⟩
        cases hl : mayS s[j].toNat with
        | false =>
          have HE := Lib.hid (HB.out.trans (isNm_bad hlt hl))
          have Hl := Lib.hid hl
          clear hl hu
          go_wp2_with fail
          refine (mayStand_any _ _).mono ?_
          rintro e w1 ⟨rfl, rfl⟩
          rw [Hl.out]
          go_wp2
          go_ret
          exact ⟨by rw [HE.out]; rfl, rfl⟩
        | true =>
          have Hl := Lib.hid hl
          clear hl hu
          go_wp2_with fail
          refine (mayStand_any _ _).mono ?_
          rintro e w1 ⟨rfl, rfl⟩
          rw [Hl.out]
          go_wp2
          go_round
          case rel => exact ⟨j + 1, by omega, by go_num, fun t ht hlt2 => by
            by_cases q : t < j
            · exact Hs.out t ht q
            · obtain rfl : t = j := by omega
              exact Hl.out⟩
          case measure => simp [intOf]; omega
      · have HE := Lib.hid (HB.out.trans (isNm_ok Hh.out (fun t ht => Hs.out t ht (by omega))))
        go_wp2
        go_ret
        exact ⟨by rw [HE.out]; rfl, rfl⟩
  · rw [isNm_len h]
    by_cases h1 : s.size < 1
    · have a1 : (s.size : Int) < 1 := by omega
      clear h
      go_enter Try.func61, Try.ntmps61
      go_wp2
      go_ret
      exact ⟨rfl, rfl⟩
    · have a1 : decide ((s.size : Int) < 1) = false := decide_eq_false (by omega)
      have a2 : 40 < s.size := by omega
      clear h
      go_enter Try.func61, Try.ntmps61
      go_wp2
      go_ret
      exact ⟨rfl, rfl⟩

end Go.Proofs.Ytjckfbpdnpehcaa
