/-
  Layer 11: is a text too long? The program's Encode.
-/
import Derived.Test.YtpdppldkebfikaaP11a
namespace Go.Proofs.Ytpdppldkebfikaa
open Go.RowKit

theorem isLong11_any (A : Option Addr) (n c : Nat) (w : World) :
    Calls Try.prog 63 #[.slice A n c] w fun e w' => e = .returned (.bool (decide (200 < n))) ∧ w' = w := by
  by_cases h : 200 < n
  · rw [decide_eq_true h]
    go_enter Try.func63, Try.ntmps63
    go_wp2
    go_ret
    exact ⟨by simp <;> omega, rfl⟩
  · rw [decide_eq_false h]
    go_enter Try.func63, Try.ntmps63
    go_wp2
    go_ret
    exact ⟨by simp <;> omega, rfl⟩

theorem indexLong11_any (A : Option Addr) (n c : Nat) (ss : List Sl) (w : World) (hx : RdL w A n ss) (hn : n ≤ 140737488355328) :
    Calls Try.prog 72 #[.slice A n c, .func (.func 63) #[] #[]] w fun e w' => ∃ r : Int, e = .returned (.int .i64 r) ∧ w' = w ∧ decide (0 ≤ r) = anyLong (bodies ss) := by
  have Hl := Lib.hid hx.1
  obtain ⟨R, hR⟩ : ∃ R, R = anyLong (bodies ss) := ⟨_, rfl⟩
  rw [← hR]
  have HR := Lib.hid hR
  clear hR
  go_enter Try.func72, Try.ntmps72
  go_wp2
  go_loopw [5, 8] (fun _ i wr => ∃ j : Nat, j ≤ n ∧ i = .int .i64 j ∧ wr = w ∧ Hid (anyLong (bodies (ss.take j)) = false)) (fun _ i _ => n - (intOf i).toNat)
  case atStart => exact ⟨0, Nat.zero_le _, rfl, rfl, rfl⟩
  case round =>
    obtain ⟨j, hj, rfl, rfl, HA⟩ := hrel
    by_cases hlt : j < n
    · obtain ⟨b, o, s, rfl, hf, h1⟩ := hx.at_ hlt
      obtain ⟨sA, sc, body⟩ := s
      simp only at h1
      have e0 : bodies (ss.take (j + 1)) = bodies (ss.take j) ++ [body] := by rw [List.take_add_one, hf]; unfold bodies; rw [List.map_append]; rfl
      by_cases hb : 200 < body.length
      · have hfin := Lib.hid (show true = R by rw [HR.out]; exact (anyLong_iff.2 ⟨body, List.mem_map.2 ⟨_, List.mem_of_getElem? hf, rfl⟩, hb⟩).symm)
        clear e0 hf
        obtain ⟨m, hm⟩ : ∃ m, m = body.length := ⟨_, rfl⟩
        rw [← hm] at h1 hb
        clear hm
        have hd : decide (200 < m) = true := decide_eq_true hb
        go_wp2_with (refine (isLong11_any _ _ _ _).mono ?_; rintro e w1 ⟨rfl, rfl⟩; rw [hd])
        go_ret
        exact ⟨_, rfl, rfl, by rw [← hfin.out]; exact decide_eq_true (by omega)⟩
      · have hN := Lib.hid (show anyLong (bodies (ss.take (j + 1))) = false by rw [e0, anyLong, List.any_append]; simp [anyLong] at HA; simp <;> first | omega | (refine ⟨HA.out, by omega⟩))
        clear e0 hf
        obtain ⟨m, hm⟩ : ∃ m, m = body.length := ⟨_, rfl⟩
        rw [← hm] at h1 hb
        clear hm
        have hd : decide (200 < m) = false := decide_eq_false hb
        go_wp2_with (refine (isLong11_any _ _ _ _).mono ?_; rintro e w1 ⟨rfl, rfl⟩; rw [hd])
        go_roundw
        case rel => exact ⟨j + 1, by omega, by go_num, by first | trivial | rfl, hN⟩
        case measure => simp [intOf]; omega
    · obtain rfl : j = n := by omega
      have hfin := Lib.hid (show false = R by rw [HR.out, ← HA.out, List.take_of_length_le (by rw [Hl.out]; exact Nat.le_refl _)])
      go_wp2
      go_ret
      exact ⟨_, rfl, by first | trivial | rfl, by rw [← hfin.out]; rfl⟩

theorem containsLong11_any (A : Option Addr) (n c : Nat) (ss : List Sl) (w : World) (hx : RdL w A n ss) (hn : n ≤ 140737488355328) :
    Calls Try.prog 36 #[.slice A n c, .func (.func 63) #[] #[]] w fun e w' => e = .returned (.bool (anyLong (bodies ss))) ∧ w' = w := by
  have H := Lib.hid (indexLong11_any A n c ss w hx hn)
  clear hx
  go_enter Try.func36, Try.ntmps36
  go_wp2_with fail
  refine H.out.mono ?_
  rintro e w1 ⟨r, rfl, rfl, hr⟩
  have Hr := Lib.hid hr
  clear hr
  go_wp2
  go_ret
  exact ⟨by rw [← Hr.out]; simp, by first | trivial | rfl⟩

theorem isWhole_any (j : Nat) (w : World) (hj : j ≤ 140737488355328) :
    Calls Try.prog 64 #[.int .i64 (j : Int)] w fun e w' => e = .returned (.bool (decide (j % 16 = 0))) ∧ w' = w := by
  by_cases h : j % 16 = 0
  · rw [decide_eq_true h]
    have hd : (((j : Int) % 16 : Int) == 0) = true := by rw [beq_iff_eq]; omega
    go_enter Try.func64, Try.ntmps64
    go_wp2
    go_ret
    exact ⟨by simp <;> omega, rfl⟩
  · rw [decide_eq_false h]
    go_enter Try.func64, Try.ntmps64
    go_wp2
    go_ret
    exact ⟨by simp <;> omega, rfl⟩

/-- What Encode answers. -/
def pencR (ss : List (List Nat)) : List Nat × Int := if 4096 < ss.length ∨ anyLong ss = true then ([], 4) else (penc ss, 0)
theorem pencR_bad {ss : List (List Nat)} (h : 4096 < ss.length ∨ anyLong ss = true) : pencR ss = ([], 4) := if_pos h
theorem pencR_good {ss : List (List Nat)} (h : ss.length ≤ 4096) (h2 : anyLong ss = false) : pencR ss = (penc ss, 0) := if_neg (fun q => by
  rcases q with q | q
  · omega
  · rw [h2] at q; cases q)

/-- What Encode leaves. -/
def PEncPost (R : List Nat × Int) (w : World) (e : Ending) (w' : World) : Prop :=
  ∃ A' c', e = .returned (.tuple #[.slice A' R.1.length c', .int .i64 R.2]) ∧ Own .u8 5 w' w.heap.size A' c' R.1 ∧ Ext w w'
theorem PEncPost.bad {w w' : World} (R : List Nat × Int) {E : Int} (h : R = ([], E)) (he : Ext w w') : PEncPost R w (.returned (.tuple #[.slice none 0 0, .int .i64 E])) w' := by
  subst h
  exact ⟨none, 0, rfl, Own.nil .., he⟩
theorem PEncPost.good {w w' : World} (R : List Nat × Int) {xs : List Nat} {A : Option Addr} {m c : Nat} (h : R = (xs, 0)) (hm : xs.length = m) (ho : Own .u8 5 w' w.heap.size A c xs) (he : Ext w w') : PEncPost R w (.returned (.tuple #[.slice A m c, .int .i64 0])) w' := by
  subst h
  subst hm
  exact ⟨A, c, rfl, ho, he⟩

end Go.Proofs.Ytpdppldkebfikaa
