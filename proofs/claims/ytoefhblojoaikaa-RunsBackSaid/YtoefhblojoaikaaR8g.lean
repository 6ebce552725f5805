/-
  Layer 8: one run told.
-/
import Derived.Test.YtoefhblojoaikaaR8c
import Derived.Deep.RegionHeld3
namespace Go.Proofs.Ytoefhblojoaikaa
open Go.RowKit

/-- What tell answers. -/
def tellF (vs : List Int) (v : Int) (k : Nat) : List Int × Int := if vs.getLast? = some v then ([], 5) else if 4096 - (vs.length : Int) < k then ([], 4) else (vs ++ List.replicate k v, 0)
def TellPost (R : List Int × Int) (base : Nat) (w : World) (e : Ending) (w' : World) : Prop :=
  ∃ A' c', e = .returned (.tuple #[.slice A' R.1.length c', .int .i64 R.2]) ∧ OwnG shZ 2 w' base A' c' R.1 ∧ Below base w w' ∧ base ≤ w'.heap.size

theorem last_getD {vs : List Int} {m : Nat} (h : vs.length = m + 1) : vs.getLast? = some (vs.getD m 0) := by
  rw [List.getLast?_eq_getElem?, h, Nat.add_sub_cancel, List.getD, List.getElem?_eq_getElem (by omega)]; rfl

set_option maxHeartbeats 800000 in
theorem tell_last (A : Option Addr) (m c base : Nat) (vs : List Int) (v : Int) (k : Nat) (w : World) (hown : OwnG shZ 2 w base A c vs) (hn : vs.length = m + 1) (hn4 : m + 1 ≤ 4096) (hz : base ≤ w.heap.size) (hv : vs.getD m 0 = v) :
    Calls Try.prog 46 #[.slice A (m + 1) c, .int .i64 v, .int .u64 k] w (TellPost ([], 5) base w) := by
  obtain ⟨b, o, rfl, hbl, hc⟩ := (hown.rd' hn).atZ (j := m) (by omega)
  rw [hv] at hc
  clear hn hown hv
  go_enter Try.func46, Try.ntmps46
  go_wp2_with fail
  go_ret2
  exact ⟨none, 0, rfl, OwnG.nil _ _ _ _, Below.refl _ _, hz⟩

set_option maxHeartbeats 800000 in
theorem tell_long (A : Option Addr) (m c base : Nat) (vs : List Int) (v : Int) (k : Nat) (w : World) (hown : OwnG shZ 2 w base A c vs) (hn : vs.length = m + 1) (hn4 : m + 1 ≤ 4096) (hz : base ≤ w.heap.size) (hv : vs.getD m 0 ≠ v) (hk : 4096 - ((m : Int) + 1) < k) :
    Calls Try.prog 46 #[.slice A (m + 1) c, .int .i64 v, .int .u64 k] w (TellPost ([], 4) base w) := by
  obtain ⟨b, o, rfl, hbl, hc⟩ := (hown.rd' hn).atZ (j := m) (by omega)
  obtain ⟨x, hx⟩ : ∃ x, x = vs.getD m 0 := ⟨_, rfl⟩
  rw [← hx] at hc hv
  have hne : (x == v) = false := by simpa using hv
  have hw : IntKind.u64.wrap (4096 - ((m : Int) + 1)) = 4096 - ((m : Int) + 1) := IntWalk.u64_in _ (by omega)
  clear hn hown hv hx
  go_enter Try.func46, Try.ntmps46
  go_wp2_with fail
  go_ret2
  exact ⟨none, 0, rfl, OwnG.nil _ _ _ _, Below.refl _ _, hz⟩

set_option maxHeartbeats 800000 in
theorem tell_long0 (A : Option Addr) (c base : Nat) (v : Int) (k : Nat) (w : World) (hz : base ≤ w.heap.size) (hk : (4096 : Int) < k) :
    Calls Try.prog 46 #[.slice A 0 c, .int .i64 v, .int .u64 k] w (TellPost ([], 4) base w) := by
  go_enter Try.func46, Try.ntmps46
  go_wp2_with fail
  go_ret2
  exact ⟨none, 0, rfl, OwnG.nil _ _ _ _, Below.refl _ _, hz⟩

set_option maxHeartbeats 1600000 in
theorem tell_go (A : Option Addr) (m c base : Nat) (vs : List Int) (v : Int) (k : Nat) (w : World) (hown : OwnG shZ 2 w base A c vs) (hn : vs.length = m + 1) (hn4 : m + 1 ≤ 4096) (hz : base ≤ w.heap.size) (hv : vs.getD m 0 ≠ v) (hk : (k : Int) ≤ 4096 - ((m : Int) + 1)) :
    Calls Try.prog 46 #[.slice A (m + 1) c, .int .i64 v, .int .u64 k] w (TellPost (vs ++ List.replicate k v, 0) base w) := by
  have Hn := Lib.hid hn
  have HO := Lib.hid hown
  obtain ⟨b, o, rfl, hbl, hc⟩ := (hown.rd' hn).atZ (j := m) (by omega)
  obtain ⟨x, hx⟩ : ∃ x, x = vs.getD m 0 := ⟨_, rfl⟩
  rw [← hx] at hc hv
  have hne : (x == v) = false := by simpa using hv
  have hw : IntKind.u64.wrap (4096 - ((m : Int) + 1)) = 4096 - ((m : Int) + 1) := IntWalk.u64_in _ (by omega)
  have hd : decide (4096 - ((m : Int) + 1) < (k : Int)) = false := decide_eq_false (by omega)
  clear hn hown hv hx
  go_enter Try.func46, Try.ntmps46
  go_wp2_with fail
  go_loopw [0, 28] (fun y i wr => ∃ (j : Nat) (A' : Option Addr) (c' : Nat), j ≤ k ∧ i = .int .u64 j ∧ y = .slice A' (m + 1 + j : Nat) c' ∧ OwnG shZ 2 wr base A' c' (vs ++ List.replicate j v) ∧ Below base w wr ∧ base ≤ wr.heap.size) (fun _ i _ => k - (intOf i).toNat)
  case atStart => exact ⟨0, _, _, Nat.zero_le _, rfl, rfl, by simpa using HO.out, Below.refl _ _, hz⟩
  case round =>
    obtain ⟨j, A', c', hj, rfl, rfl, hown, hb, hz2⟩ := hrel
    have Hb := Lib.hid hb
    by_cases hlt : j < k
    · have hl : (vs ++ List.replicate j v).length = m + 1 + j := by rw [List.length_append, List.length_replicate, Hn.out]
      have Hl := Lib.hid hl
      have Ho := Lib.hid hown
      have hu1 : IntKind.u64.wrap ((j : Int) + 1) = (j : Int) + 1 := IntWalk.u64_in _ (by omega)
      clear hl hown hb
      go_wp2_with (at_builtin; refine wpList_pushG (w0 := w) (base := base) shZ v 2 rfl _ _ 22 rfl _ 8 Try.underlying22 Try.infoI64 rfl (by decide) (Ho.out.ext ((Ext.refl _).alloc _)) (m + 1 + j) Hl.out rfl rfl (heap_alloc_new _ _) (by omega) (by omega) (Below.alloc Hb.out hz2 _) (by simp; omega) ?_; intro A1 c1 w1 hown1 _ hb1 hz1)
      go_roundw
      case rel => exact ⟨j + 1, A1, c1, by omega, by go_num, (by first | rfl | (congr 1; omega)), by rw [List.replicate_succ', ← List.append_assoc]; exact hown1, hb1, hz1⟩
      case measure => simp [intOf]; omega
    · obtain rfl : j = k := by omega
      go_wp2_with fail
      go_ret2
      refine ⟨A', c', ?_, hown, hb, hz2⟩
      show _ = Ending.returned (.tuple #[.slice A' (vs ++ List.replicate j v).length c', .int .i64 0])
      rw [List.length_append, List.length_replicate, Hn.out]
      rfl

set_option maxHeartbeats 1600000 in
theorem tell_go0 (A : Option Addr) (c base : Nat) (vs : List Int) (v : Int) (k : Nat) (w : World) (hown : OwnG shZ 2 w base A c vs) (hn : vs.length = 0) (hz : base ≤ w.heap.size) (hk : (k : Int) ≤ 4096) :
    Calls Try.prog 46 #[.slice A 0 c, .int .i64 v, .int .u64 k] w (TellPost (vs ++ List.replicate k v, 0) base w) := by
  have Hn := Lib.hid hn
  have HO := Lib.hid hown
  have hd : decide ((4096 : Int) < (k : Int)) = false := decide_eq_false (by omega)
  clear hn hown
  go_enter Try.func46, Try.ntmps46
  go_wp2_with fail
  go_loopw [0, 28] (fun y i wr => ∃ (j : Nat) (A' : Option Addr) (c' : Nat), j ≤ k ∧ i = .int .u64 j ∧ y = .slice A' (0 + j : Nat) c' ∧ OwnG shZ 2 wr base A' c' (vs ++ List.replicate j v) ∧ Below base w wr ∧ base ≤ wr.heap.size) (fun _ i _ => k - (intOf i).toNat)
  case atStart => exact ⟨0, _, _, Nat.zero_le _, rfl, rfl, by simpa using HO.out, Below.refl _ _, hz⟩
  case round =>
    obtain ⟨j, A', c', hj, rfl, rfl, hown, hb, hz2⟩ := hrel
    have Hb := Lib.hid hb
    by_cases hlt : j < k
    · have hl : (vs ++ List.replicate j v).length = 0 + j := by rw [List.length_append, List.length_replicate, Hn.out]
      have Hl := Lib.hid hl
      have Ho := Lib.hid hown
      have hu1 : IntKind.u64.wrap ((j : Int) + 1) = (j : Int) + 1 := IntWalk.u64_in _ (by omega)
      clear hl hown hb
      go_wp2_with (at_builtin; refine wpList_pushG (w0 := w) (base := base) shZ v 2 rfl _ _ 22 rfl _ 8 Try.underlying22 Try.infoI64 rfl (by decide) (Ho.out.ext ((Ext.refl _).alloc _)) (0 + j) Hl.out rfl rfl (heap_alloc_new _ _) (by omega) (by omega) (Below.alloc Hb.out hz2 _) (by simp; omega) ?_; intro A1 c1 w1 hown1 _ hb1 hz1)
      go_roundw
      case rel => exact ⟨j + 1, A1, c1, by omega, by go_num, (by first | rfl | (congr 1; omega)), by rw [List.replicate_succ', ← List.append_assoc]; exact hown1, hb1, hz1⟩
      case measure => simp [intOf]; omega
    · obtain rfl : j = k := by omega
      go_wp2_with fail
      go_ret2
      refine ⟨A', c', ?_, hown, hb, hz2⟩
      show _ = Ending.returned (.tuple #[.slice A' (vs ++ List.replicate j v).length c', .int .i64 0])
      rw [List.length_append, List.length_replicate, Hn.out]
      rfl

theorem tell_any (A : Option Addr) (n c base : Nat) (vs : List Int) (v : Int) (k : Nat) (w : World) (hown : OwnG shZ 2 w base A c vs) (hn : vs.length = n) (hn4 : n ≤ 4096) (hz : base ≤ w.heap.size) :
    Calls Try.prog 46 #[.slice A n c, .int .i64 v, .int .u64 k] w (TellPost (tellF vs v k) base w) := by
  rcases Nat.eq_zero_or_pos n with rfl | hp
  · obtain rfl : vs = [] := List.eq_nil_of_length_eq_zero hn
    unfold tellF
    rw [if_neg (by simp)]
    by_cases hbig : 4096 - (([] : List Int).length : Int) < k
    · rw [if_pos hbig]; exact tell_long0 A c base v k w hz (by simpa using hbig)
    · rw [if_neg hbig]; exact tell_go0 A c base [] v k w hown hn hz (by simp at hbig; omega)
  · obtain ⟨m, rfl⟩ : ∃ m, n = m + 1 := ⟨n - 1, by omega⟩
    unfold tellF
    rw [last_getD hn]
    by_cases hv : vs.getD m 0 = v
    · rw [if_pos (by rw [hv])]; exact tell_last A m c base vs v k w hown hn hn4 hz hv
    · rw [if_neg (by intro h; injection h with h; exact hv h), hn]
      by_cases hbig : 4096 - ((m + 1 : Nat) : Int) < k
      · rw [if_pos hbig]; exact tell_long A m c base vs v k w hown hn hn4 hz hv (by omega)
      · rw [if_neg hbig]; exact tell_go A m c base vs v k w hown hn hn4 hz hv (by omega)

end Go.Proofs.Ytoefhblojoaikaa
