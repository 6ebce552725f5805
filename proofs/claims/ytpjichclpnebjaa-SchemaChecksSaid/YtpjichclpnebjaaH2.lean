/-
  Layer 6: columns as they lie; a name by the document; a kind by the program.
-/
import Derived.Test.YtpjichclpnebjaaH1
import Derived.Test.YtpjichclpnebjaaE5
namespace Go.Proofs.Ytpjichclpnebjaa
open Go.RowKit

/-- A column. -/
structure Col where
  name : ByteArray
  kind : Int
  null : Bool

/-- The slice of columns (A, n) reads, in w, as cs. -/
def RdC (w : World) (A : Option Addr) (n : Nat) (cs : List Col) : Prop :=
  cs.length = n ∧ (0 < n → ∃ b o, A = some ⟨b, o, none⟩ ∧ b < w.heap.size ∧ ∀ j c, cs[j]? = some c →
    w.cell? ⟨b, o + j * 3, none⟩ = some (.string c.name) ∧ w.cell? ⟨b, o + j * 3 + 1, none⟩ = some (.int .i64 c.kind) ∧ w.cell? ⟨b, o + j * 3 + 2, none⟩ = some (.bool c.null))

theorem RdC.ext {w w' : World} {A : Option Addr} {n : Nat} {cs : List Col} (h : RdC w A n cs) (hb : Ext w w') : RdC w' A n cs :=
  ⟨h.1, fun hn => by
    obtain ⟨b, o, e, hlt, hc⟩ := h.2 hn
    refine ⟨b, o, e, Nat.lt_of_lt_of_le hlt hb.size, fun j f hj => ?_⟩
    obtain ⟨h1, h2, h3⟩ := hc j f hj
    exact ⟨(hb.cells b _ hlt).trans h1, (hb.cells b _ hlt).trans h2, (hb.cells b _ hlt).trans h3⟩⟩

theorem RdC.at_ {w : World} {A : Option Addr} {n : Nat} {cs : List Col} (h : RdC w A n cs) {j : Nat} (hj : j < n) :
    ∃ b o c, A = some ⟨b, o, none⟩ ∧ b < w.heap.size ∧ cs[j]? = some c ∧ w.cell? ⟨b, o + j * 3, none⟩ = some (.string c.name) ∧ w.cell? ⟨b, o + j * 3 + 1, none⟩ = some (.int .i64 c.kind) ∧ w.cell? ⟨b, o + j * 3 + 2, none⟩ = some (.bool c.null) := by
  obtain ⟨b, o, e, hlt, hc⟩ := h.2 (by omega)
  have hjl : j < cs.length := by rw [h.1]; exact hj
  have hf : cs[j]? = some cs[j] := List.getElem?_eq_getElem hjl
  obtain ⟨h1, h2, h3⟩ := hc j _ hf
  exact ⟨b, o, _, e, hlt, hf, h1, h2, h3⟩

theorem letter_key (x : Nat) : (letter x = true ∧ decide ((97 : Int) ≤ (x : Int)) = true ∧ decide ((x : Int) ≤ 122) = true) ∨
      (letter x = true ∧ ((decide ((97 : Int) ≤ (x : Int)) = true ∧ decide ((x : Int) ≤ 122) = false) ∨ decide ((97 : Int) ≤ (x : Int)) = false) ∧ decide ((48 : Int) ≤ (x : Int)) = true ∧ decide ((x : Int) ≤ 57) = true) ∨
      (letter x = true ∧ x = 95) ∨
      (letter x = false ∧ ((decide ((97 : Int) ≤ (x : Int)) = true ∧ decide ((x : Int) ≤ 122) = false) ∨ decide ((97 : Int) ≤ (x : Int)) = false) ∧ ((decide ((48 : Int) ≤ (x : Int)) = true ∧ decide ((x : Int) ≤ 57) = false) ∨ decide ((48 : Int) ≤ (x : Int)) = false) ∧ ((x : Int) == 95) = false) := by
  simp only [decide_eq_true_eq, decide_eq_false_iff_not, beq_eq_false_iff_ne]
  by_cases h : (97 ≤ x ∧ x ≤ 122) ∨ (48 ≤ x ∧ x ≤ 57) ∨ x = 95
  · have := letter_yes h
    rw [this]
    simp only [true_and, Bool.true_eq_false, false_and, or_false]
    omega
  · have := letter_no h
    rw [this]
    simp only [Bool.false_eq_true, false_and, false_or, true_and]
    omega

set_option maxHeartbeats 1600000 in
theorem refName_any (s : ByteArray) (w : World) (hs : s.size ≤ 140737488355328) :
    Calls Try.prog 54 #[.string s] w fun e w' => e = .returned (.bool (nameB s)) ∧ w = w' := by
  by_cases h : 1 ≤ s.size ∧ s.size ≤ 24
  · obtain ⟨B, hB⟩ : ∃ B, B = nameB s := ⟨_, rfl⟩
    rw [← hB]
    have HB := Lib.hid hB
    have h1 : 1 ≤ s.size := h.1
    have h2 : s.size ≤ 24 := h.2
    have a1 : decide (s.size < 1) = false := decide_eq_false (by omega)
    have a2 : decide (24 < s.size) = false := decide_eq_false (by omega)
    have a3 : decide ((s.size : Int) < 1) = false := decide_eq_false (by omega)
    have Hh := Lib.hid h
    clear hB h
    go_enter Try.func54, Try.ntmps54
    go_wp2
    go_loop [3] (fun i => ∃ j : Nat, j ≤ s.size ∧ i = .int .i64 j ∧ Hid (∀ t (ht : t < s.size), t < j → letter s[t].toNat = true)) (fun i => s.size - (intOf i).toNat)
    case atStart => exact ⟨0, Nat.zero_le _, rfl, fun t _ ht => absurd ht (by omega)⟩
    case round =>
      obtain ⟨j, hj, rfl, Hs⟩ := hrel
      by_cases hlt : j < s.size
      · have hkey := letter_key s[j].toNat
        obtain ⟨L, hL⟩ : ∃ L, L = letter s[j].toNat := ⟨_, rfl⟩
        rw [← hL] at hkey
        have HL := Lib.hid hL
        clear hL
        have yes : Hid (L = true → ∀ t (ht : t < s.size), t < j + 1 → letter s[t].toNat = true) := Lib.hid (fun e t ht hlt2 => by
          by_cases q : t < j
          · exact Hs.out t ht q
          · obtain rfl : t = j := by omega
            rw [← HL.out]; exact e)
        have no : Hid (L = false → B = false) := Lib.hid (fun e => HB.out.trans (nameB_bad hlt (by rw [← HL.out]; exact e)))
        rcases hkey with ⟨rfl, a1, a2⟩ | ⟨rfl, a1, a2, a3⟩ | ⟨rfl, a1⟩ | ⟨rfl, a1, a2, a3⟩
        · clear HL
          go_wp2
          go_round
          case rel => exact ⟨j + 1, by omega, by go_num, yes.out rfl⟩
          case measure => simp [intOf]; omega
        · clear HL
          rcases a1 with ⟨a1, b1⟩ | a1
          all_goals
            go_wp2
            go_round
            case rel => exact ⟨j + 1, by omega, by go_num, yes.out rfl⟩
            case measure => simp [intOf]; omega
        · clear HL
          have c1 : decide ((97 : Int) ≤ (s[j].toNat : Int)) = false := decide_eq_false (by omega)
          have c2 : decide ((s[j].toNat : Int) ≤ 57) = false := decide_eq_false (by omega)
          have c3 : decide ((48 : Int) ≤ (s[j].toNat : Int)) = true := decide_eq_true (by omega)
          have c4 : ((s[j].toNat : Int) == 95) = true := by rw [beq_iff_eq]; omega
          clear a1
          go_wp2
          go_round
          case rel => exact ⟨j + 1, by omega, by go_num, yes.out rfl⟩
          case measure => simp [intOf]; omega
        · clear HL
          have HE := Lib.hid (no.out rfl)
          rcases a1 with ⟨a1, b1⟩ | a1 <;> rcases a2 with ⟨a2, b2⟩ | a2
          all_goals
            go_wp2
            go_ret
            exact ⟨by rw [HE.out]; rfl, rfl⟩
      · have HE := Lib.hid (HB.out.trans (nameB_ok Hh.out (fun t ht => Hs.out t ht (by omega))))
        go_wp2
        go_ret
        exact ⟨by rw [HE.out]; rfl, rfl⟩
  · rw [nameB_len h]
    by_cases h1 : s.size < 1
    · have a1 : (s.size : Int) < 1 := by omega
      clear h
      go_enter Try.func54, Try.ntmps54
      go_wp2
      go_ret
      exact ⟨rfl, rfl⟩
    · have a1 : decide ((s.size : Int) < 1) = false := decide_eq_false (by omega)
      have a2 : 24 < s.size := by omega
      clear h
      go_enter Try.func54, Try.ntmps54
      go_wp2
      go_ret
      exact ⟨rfl, rfl⟩

theorem skind_any (k : Int) (w : World) :
    Calls Try.prog 53 #[.int .i64 k] w fun e w' => e = .returned (.bool (kindK k)) ∧ Ext w w' := by
  by_cases hk : 1 ≤ k ∧ k ≤ 8
  · rw [kindK_yes hk]
    have H := Lib.hid (show chk k true true 0 [] = 0 by rw [chk_null hk]; simp)
    clear hk
    go_enter Try.func53, Try.ntmps53
    go_wp2_with fail
    refine (check_any k true true 0 none 0 0 [] _ (Rd.nil ..) (by decide) (by decide) (by decide) (by decide)).mono ?_
    rintro e w1 ⟨rfl, he1⟩
    rw [H.out]
    go_wp2
    go_ret
    exact ⟨rfl, he1⟩
  · rw [kindK_no hk]
    have H := Lib.hid (chk_arg (ok := true) (nul := true) (num := 0) (txt := []) hk)
    clear hk
    go_enter Try.func53, Try.ntmps53
    go_wp2_with fail
    refine (check_any k true true 0 none 0 0 [] _ (Rd.nil ..) (by decide) (by decide) (by decide) (by decide)).mono ?_
    rintro e w1 ⟨rfl, he1⟩
    rw [H.out]
    go_wp2
    go_ret
    exact ⟨rfl, he1⟩

end Go.Proofs.Ytpjichclpnebjaa
