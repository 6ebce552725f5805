/-
  Texts as they are handed in; how much of two texts is alike, the program's and the document's.
-/
import Derived.Test.YtpdppldkebfikaaSLI
import Derived.Test.YtpdppldkebfikaaM11
namespace Go.Proofs.Ytpdppldkebfikaa
open Go.RowKit

/-- A slice that lies in w as it may be handed in. -/
structure TxI (w : World) (s : Sl) : Prop where
  rd : Rd .u8 w s.A s.body.length s.body
  u8 : U8 s.body
  cap : s.body.length ≤ s.c
  top : s.c ≤ 9223372036854775807
  len : s.body.length ≤ 140737488355328

theorem TxI.ext {w w' : World} {s : Sl} (h : TxI w s) (he : Ext w w') : TxI w' s := ⟨h.rd.ext he, h.u8, h.cap, h.top, h.len⟩
theorem RdL.ext {w w' : World} {A : Option Addr} {n : Nat} {ss : List Sl} (h : RdL w A n ss) (he : Ext w w') : RdL w' A n ss := h.kept ((Kept.refl w []).ext he) (fun _ => by intro s hs; cases hs)

/-- The slice of slices (A, n) holds the texts ss. -/
structure TxL (w : World) (A : Option Addr) (n : Nat) (ss : List Sl) : Prop where
  rd : RdL w A n ss
  each : ∀ s ∈ ss, TxI w s

theorem TxL.ext {w w' : World} {A : Option Addr} {n : Nat} {ss : List Sl} (h : TxL w A n ss) (he : Ext w w') : TxL w' A n ss := ⟨h.rd.ext he, fun s hs => (h.each s hs).ext he⟩
theorem TxL.len {w : World} {A : Option Addr} {n : Nat} {ss : List Sl} (h : TxL w A n ss) : ss.length = n := h.rd.1
theorem TxL.at_ {w : World} {A : Option Addr} {n : Nat} {ss : List Sl} (h : TxL w A n ss) {j : Nat} (hj : j < n) :
    ∃ b o s, A = some ⟨b, o, none⟩ ∧ ss[j]? = some s ∧ w.cell? ⟨b, o + j, none⟩ = some (.slice s.A s.body.length s.c) ∧ TxI w s := by
  obtain ⟨b, o, s, e, h1, h2⟩ := h.rd.at_ hj
  exact ⟨b, o, s, e, h1, h2, h.each s (List.mem_of_getElem? h1)⟩

/-- The texts themselves. -/
def bodies (ss : List Sl) : List (List Nat) := ss.map Sl.body
theorem bodies_len (ss : List Sl) : (bodies ss).length = ss.length := List.length_map ..
theorem bodies_at {ss : List Sl} {j : Nat} {s : Sl} (h : ss[j]? = some s) : (bodies ss)[j]? = some s.body := by unfold bodies; rw [List.getElem?_map, h]; rfl
theorem bodies_get {ss : List Sl} {j : Nat} {s : Sl} (h : ss[j]? = some s) : (bodies ss).getD j [] = s.body := by unfold List.getD; rw [bodies_at h]; rfl
theorem bodies_take (ss : List Sl) (j : Nat) : bodies (ss.take j) = (bodies ss).take j := List.map_take ..

/-- How far two texts are alike. -/
theorem palike_any (A A2 : Option Addr) (n c n2 c2 : Nat) (xs ys : List Nat) (w : World) (hx : Rd .u8 w A n xs) (hy : Rd .u8 w A2 n2 ys) (hn : n ≤ 140737488355328) (_hn2 : n2 ≤ 140737488355328) :
    Calls Try.prog 65 #[.slice A n c, .slice A2 n2 c2] w fun e w' => e = .returned (.int .i64 (cp xs ys)) ∧ ∃ q, w' = w.drewN q := by
  have hl := hx.len
  have hl2 := hy.len
  obtain ⟨R, hR⟩ : ∃ R, R = cp xs ys := ⟨_, rfl⟩
  rw [← hR]
  have HR := Lib.hid hR
  have Hl := Lib.hid hl
  have Hl2 := Lib.hid hl2
  clear hR hl hl2
  go_enter Try.func65, Try.ntmps65
  go_wp2
  go_loopw [5] (fun i wr => ∃ j q : Nat, j ≤ n ∧ j ≤ n2 ∧ i = .int .i64 j ∧ wr = w.drewN q ∧ Hid (j ≤ R)) (fun i _ => n - (intOf i).toNat)
  case atStart => exact ⟨0, 0, Nat.zero_le _, Nat.zero_le _, rfl, rfl, Nat.zero_le _⟩
  case round =>
    obtain ⟨j, q, hj, hj2, rfl, rfl, Hj⟩ := hrel
    by_cases hlt1 : j < n
    · by_cases hlt2 : j < n2
      · obtain ⟨b, o, rfl, hbl, hc⟩ := hx.at_ hlt1
        obtain ⟨b', o', rfl, hbl', hc'⟩ := hy.at_ hlt2
        have e0 : xs.getD j 0 = ys.getD j 0 → j + 1 ≤ R := fun e => by rw [HR.out]; exact cp_step (by rw [← HR.out]; exact Hj.out) (by rw [Hl.out]; exact hlt1) (by rw [Hl2.out]; exact hlt2) e
        have e1 : xs.getD j 0 ≠ ys.getD j 0 → R = j := fun e => by rw [HR.out]; exact cp_stop (by rw [← HR.out]; exact Hj.out) (.inr (.inr e))
        obtain ⟨u, hu⟩ : ∃ u, u = xs.getD j 0 := ⟨_, rfl⟩
        obtain ⟨v, hv⟩ : ∃ v, v = ys.getD j 0 := ⟨_, rfl⟩
        rw [← hu] at hc e0 e1
        rw [← hv] at hc' e0 e1
        clear hu hv
        have hji : (j : Int) < (n : Int) := by omega
        have hji2 : (j : Int) < (n2 : Int) := by omega
        by_cases huv : u = v
        · subst huv
          have HN := Lib.hid (e0 rfl)
          clear e0 e1
          go_wp2_with fail
          go_quiet (fail)
          go_wp2
          go_roundw
          case rel => exact ⟨j + 1, _, by omega, by omega, by go_num, rfl, HN⟩
          case measure => simp [intOf]; omega
        · have HE := Lib.hid (e1 huv)
          have d1 : ((u : Int) == (v : Int)) = false := by rw [beq_eq_false_iff_ne]; omega
          clear e0 e1 huv
          go_wp2_with fail
          go_quiet (fail)
          go_wp2
          go_ret
          exact ⟨by rw [HE.out]; rfl, _, by first | rfl | exact World.drewN_drewN .. | exact drew3 .. | fail⟩
      · have HE := Lib.hid (show R = j by rw [HR.out]; exact cp_stop (by rw [← HR.out]; exact Hj.out) (.inr (.inl (by rw [Hl2.out]; omega))))
        have d0 : decide (j < n) = true := decide_eq_true hlt1
        have d1 : decide (j < n2) = false := decide_eq_false hlt2
        have d0' : decide ((j : Int) < (n : Int)) = true := decide_eq_true (by omega)
        have d1' : decide ((j : Int) < (n2 : Int)) = false := decide_eq_false (by omega)
        go_wp2_with fail
        go_quiet (fail)
        go_wp2
        go_ret
        exact ⟨by rw [HE.out]; rfl, _, by first | rfl | exact World.drewN_drewN .. | exact drew3 .. | fail⟩
    · have HE := Lib.hid (show R = j by rw [HR.out]; exact cp_stop (by rw [← HR.out]; exact Hj.out) (.inl (by rw [Hl.out]; omega)))
      have d0 : decide (j < n) = false := decide_eq_false hlt1
      have d0' : decide ((j : Int) < (n : Int)) = false := decide_eq_false (by omega)
      go_wp2_with fail
      go_quiet (fail)
      go_wp2
      go_ret
      exact ⟨by rw [HE.out]; rfl, _, by first | rfl | exact World.drewN_drewN .. | exact drew3 .. | fail⟩

theorem refSame11_any (A A2 : Option Addr) (n c n2 c2 : Nat) (xs ys : List Nat) (w : World) (hx : Rd .u8 w A n xs) (hy : Rd .u8 w A2 n2 ys) (hn : n ≤ 140737488355328) (hn2 : n2 ≤ 140737488355328) :
    Calls Try.prog 66 #[.slice A n c, .slice A2 n2 c2] w fun e w' => e = .returned (.int .i64 (cp xs ys)) ∧ ∃ q, w' = w.drewN q := by
  have hl := hx.len
  have hl2 := hy.len
  obtain ⟨R, hR⟩ : ∃ R, R = cp xs ys := ⟨_, rfl⟩
  rw [← hR]
  have HR := Lib.hid hR
  have Hl := Lib.hid hl
  have Hl2 := Lib.hid hl2
  clear hR hl hl2
  go_enter Try.func66, Try.ntmps66
  go_wp2
  go_loopw [5] (fun i wr => ∃ j q : Nat, j ≤ n ∧ j ≤ n2 ∧ i = .int .i64 j ∧ wr = w.drewN q ∧ Hid (j ≤ R)) (fun i _ => n - (intOf i).toNat)
  case atStart => exact ⟨0, 0, Nat.zero_le _, Nat.zero_le _, rfl, rfl, Nat.zero_le _⟩
  case round =>
    obtain ⟨j, q, hj, hj2, rfl, rfl, Hj⟩ := hrel
    by_cases hlt1 : j < n
    · by_cases hlt2 : j < n2
      · obtain ⟨b, o, rfl, hbl, hc⟩ := hx.at_ hlt1
        obtain ⟨b', o', rfl, hbl', hc'⟩ := hy.at_ hlt2
        have e0 : xs.getD j 0 = ys.getD j 0 → j + 1 ≤ R := fun e => by rw [HR.out]; exact cp_step (by rw [← HR.out]; exact Hj.out) (by rw [Hl.out]; exact hlt1) (by rw [Hl2.out]; exact hlt2) e
        have e1 : xs.getD j 0 ≠ ys.getD j 0 → R = j := fun e => by rw [HR.out]; exact cp_stop (by rw [← HR.out]; exact Hj.out) (.inr (.inr e))
        obtain ⟨u, hu⟩ : ∃ u, u = xs.getD j 0 := ⟨_, rfl⟩
        obtain ⟨v, hv⟩ : ∃ v, v = ys.getD j 0 := ⟨_, rfl⟩
        rw [← hu] at hc e0 e1
        rw [← hv] at hc' e0 e1
        clear hu hv
        have hji : (j : Int) < (n : Int) := by omega
        have hji2 : (j : Int) < (n2 : Int) := by omega
        by_cases huv : u = v
        · subst huv
          have HN := Lib.hid (e0 rfl)
          clear e0 e1
          go_wp2_with fail
          go_quiet (fail)
          go_wp2
          go_roundw
          case rel => exact ⟨j + 1, _, by omega, by omega, by go_num, rfl, HN⟩
          case measure => simp [intOf]; omega
        · have HE := Lib.hid (e1 huv)
          have d1 : ((u : Int) == (v : Int)) = false := by rw [beq_eq_false_iff_ne]; omega
          have d2 : ((u : Int) != (v : Int)) = true := by rw [bne_iff_ne]; omega
          clear e0 e1 huv
          go_wp2_with fail
          go_quiet (fail)
          go_wp2
          go_ret
          exact ⟨by rw [HE.out]; rfl, _, by first | rfl | exact World.drewN_drewN .. | exact drew3 .. | fail⟩
      · have HE := Lib.hid (show R = j by rw [HR.out]; exact cp_stop (by rw [← HR.out]; exact Hj.out) (.inr (.inl (by rw [Hl2.out]; omega))))
        have hji : (j : Int) < (n : Int) := by omega
        obtain rfl : j = n2 := by omega
        go_wp2_with fail
        go_quiet (fail)
        go_wp2
        go_ret
        exact ⟨by rw [HE.out]; rfl, _, by first | rfl | exact World.drewN_drewN .. | exact drew3 .. | fail⟩
    · have HE := Lib.hid (show R = j by rw [HR.out]; exact cp_stop (by rw [← HR.out]; exact Hj.out) (.inl (by rw [Hl.out]; omega)))
      have hji : ¬ (j : Int) < (n : Int) := by omega
      obtain rfl : j = n := by omega
      go_wp2
      go_ret
      exact ⟨by rw [HE.out]; rfl, _, by first | rfl | exact World.drewN_drewN .. | exact drew3 .. | fail⟩

end Go.Proofs.Ytpdppldkebfikaa
