/-
  Layer 17: the document's lists of times.
-/
import Derived.Test.YtkmnhapeohlooaaMR1
namespace Go.Proofs.Ytkmnhapeohlooaa
open Go.RowKit Go.Maps
set_option maxRecDepth 100000

set_option maxHeartbeats 800000 in
theorem rput_any (A : Option Addr) (n c : Nat) (xs : List Int) (t : Int) (w : World) (hx : RdG shZ w A n xs) (hn : n ≤ 17592186044417) :
    Calls Try.prog 84 #[.slice A n c, .int .i64 t] w fun e w' => ∃ A' c', e = .returned (.slice A' (n + 1) c') ∧ OwnG shZ 2 w' w.heap.size A' c' (xs ++ [t]) ∧ Ext w w' := by
  have hl := hx.len
  go_enter Try.func84, Try.ntmps84
  go_wp2_with fail
  go_loopw [5, 6] (fun v i wr => ∃ (j : Nat) (A' : Option Addr) (c' : Nat), j ≤ n ∧ i = .int .i64 j ∧ v = .slice A' j c' ∧ OwnG shZ 2 wr w.heap.size A' c' (xs.take j) ∧ Below w.heap.size w wr) (fun _ i _ => n - (intOf i).toNat)
  case atStart => exact ⟨0, _, _, Nat.zero_le _, rfl, rfl, OwnG.made _ _ _ (Nat.le_refl _), (Ext.refl w).alloc _⟩
  case round =>
    obtain ⟨j, A', c', hj, rfl, rfl, hown, hb⟩ := hrel
    have hz := hb.size
    by_cases hlt : j < n
    · obtain ⟨b, o, rfl, hbl, hc⟩ := (hx.ext hb).atZ hlt
      have htl : (xs.take j).length = j := by rw [List.length_take]; omega
      have htk := take_nextG xs j (x := xs.getD j 0) (by rw [List.getD, List.getElem?_eq_getElem (by omega)]; rfl)
      have Htl := Lib.hid htl
      have Htk := Lib.hid htk
      have Hl := Lib.hid hl
      clear htl hl htk
      go_wp2_with (at_builtin; refine wpList_pushG (w0 := w) (base := w.heap.size) shZ (xs.getD j 0) 2 rfl _ _ 26 rfl _ 8 Try.underlying26 Try.infoI64 rfl (by decide) (hown.ext ((Ext.refl _).alloc _)) j Htl.out rfl rfl (heap_alloc_new _ _) (by omega) (by omega) (Ext.trans hb ((Ext.refl _).alloc _)) (by simp; omega) ?_; intro A1 c1 w1 hown1 _ hb1 hz1)
      go_roundw
      case rel => exact ⟨j + 1, A1, c1, by omega, by go_num, rfl, by rw [Htk.out]; exact hown1, hb1⟩
      case measure => simp [intOf]; omega
    · obtain rfl : j = n := by omega
      rw [List.take_of_length_le (by omega)] at hown
      have Hl := Lib.hid hl
      clear hl
      go_wp2_with (at_builtin; refine wpList_pushG (w0 := w) (base := w.heap.size) shZ t 2 rfl _ _ 26 rfl _ 8 Try.underlying26 Try.infoI64 rfl (by decide) (hown.ext ((Ext.refl _).alloc _)) j Hl.out rfl rfl (heap_alloc_new _ _) (by omega) (by omega) (Ext.trans hb ((Ext.refl _).alloc _)) (by simp; omega) ?_; intro A1 c1 w1 hown1 _ hb1 hz1)
      go_ret
      exact ⟨_, _, rfl, hown1, hb1⟩

theorem erase_take_no {xs : List Int} {t : Int} {j : Nat} (h : t ∉ xs.take j) : (xs.take j).erase t = xs.take j := List.erase_of_not_mem h
theorem erase_snoc_in {l : List Int} {t y : Int} (h : t ∈ l) : (l ++ [y]).erase t = l.erase t ++ [y] := List.erase_append_left _ h
theorem erase_snoc_new {l : List Int} {t : Int} (h : t ∉ l) : (l ++ [t]).erase t = l := by
  rw [List.erase_append_right _ h]; simp
theorem erase_snoc_not {l : List Int} {t y : Int} (h : t ∉ l) (hy : y ≠ t) : (l ++ [y]).erase t = l ++ [y] :=
  List.erase_of_not_mem (by
    intro q
    rcases List.mem_append.1 q with q | q
    · exact h q
    · exact hy (List.mem_singleton.1 q).symm)

set_option maxHeartbeats 1600000 in
theorem rwithout_any (A : Option Addr) (n c : Nat) (xs : List Int) (t : Int) (w : World) (hx : RdG shZ w A n xs) (hn : n ≤ 17592186044417) :
    Calls Try.prog 63 #[.slice A n c, .int .i64 t] w fun e w' => ∃ A' c', e = .returned (.tuple #[.slice A' (xs.erase t).length c', .bool (decide (t ∈ xs))]) ∧ OwnG shZ 2 w' w.heap.size A' c' (xs.erase t) ∧ Ext w w' := by
  have hl := hx.len
  go_enter Try.func63, Try.ntmps63
  go_wp2_with fail
  go_loopw [6, 7, 8] (fun v f i wr => ∃ (j L : Nat) (D : Bool) (A' : Option Addr) (c' : Nat), j ≤ n ∧ i = .int .i64 j ∧ f = .bool D ∧ v = .slice A' L c' ∧ Hid (D = decide (t ∈ xs.take j)) ∧ Hid (((xs.take j).erase t).length = L) ∧ OwnG shZ 2 wr w.heap.size A' c' ((xs.take j).erase t) ∧ Below w.heap.size w wr) (fun _ _ i _ => n - (intOf i).toNat)
  case atStart => exact ⟨0, 0, false, _, _, Nat.zero_le _, rfl, rfl, rfl, Lib.hid (by simp), Lib.hid rfl, OwnG.made _ _ _ (Nat.le_refl _), (Ext.refl w).alloc _⟩
  case round =>
    obtain ⟨j, L, D, A', c', hj, rfl, rfl, rfl, HD, HL, hown, hb⟩ := hrel
    have hz := hb.size
    by_cases hlt : j < n
    · obtain ⟨b, o, rfl, hbl, hc⟩ := (hx.ext hb).atZ hlt
      have hge : xs[j]? = some (xs.getD j 0) := by rw [List.getD, List.getElem?_eq_getElem (by omega)]; rfl
      obtain ⟨y, hy⟩ : ∃ y, y = xs.getD j 0 := ⟨_, rfl⟩
      rw [← hy] at hc hge
      have htk := take_nextG xs j hge
      have Htk := Lib.hid htk
      have hLj : L ≤ j := by
        have h1 := List.length_erase_le (a := t) (l := xs.take j)
        rw [HL.out, List.length_take] at h1
        omega
      have Hl := Lib.hid hl
      clear hl htk hy hge
      by_cases qy : y = t
      · cases D with
        | false =>
          have hno : t ∉ xs.take j := of_decide_eq_false HD.out.symm
          have Hno := Lib.hid hno
          subst qy
          clear hno
          go_wp2_with fail
          go_roundw
          case rel => exact ⟨j + 1, L, true, A', c', by omega, by go_num, rfl, rfl, Lib.hid (decide_eq_true (by rw [Htk.out]; simp)).symm, Lib.hid (by rw [Htk.out, erase_snoc_new Hno.out, ← HL.out, erase_take_no Hno.out]), by rw [Htk.out, erase_snoc_new Hno.out]; rw [erase_take_no Hno.out] at hown; exact hown, hb⟩
          case measure => simp [intOf]; omega
        | true =>
          have hin : t ∈ xs.take j := of_decide_eq_true HD.out.symm
          have Hin := Lib.hid hin
          subst qy
          clear hin
          go_wp2_with (at_builtin; refine wpList_pushG (w0 := w) (base := w.heap.size) shZ y 2 rfl _ _ 26 rfl _ 8 Try.underlying26 Try.infoI64 rfl (by decide) (hown.ext ((Ext.refl _).alloc _)) L HL.out rfl rfl (heap_alloc_new _ _) (by omega) (by omega) (Ext.trans hb ((Ext.refl _).alloc _)) (by simp; omega) ?_; intro A1 c1 w1 hown1 _ hb1 hz1)
          go_roundw
          case rel => exact ⟨j + 1, L + 1, true, A1, c1, by omega, by go_num, rfl, rfl, Lib.hid (decide_eq_true (by rw [Htk.out]; exact List.mem_append_left _ Hin.out)).symm, Lib.hid (by rw [Htk.out, erase_snoc_in Hin.out, List.length_append, HL.out]; rfl), by rw [Htk.out, erase_snoc_in Hin.out]; exact hown1, hb1⟩
          case measure => simp [intOf]; omega
      · have bq : (y == t) = false := by simpa using qy
        have Hers : Hid ((xs.take (j + 1)).erase t = (xs.take j).erase t ++ [y]) := Lib.hid (by
          rw [Htk.out]
          by_cases q : t ∈ xs.take j
          · exact erase_snoc_in q
          · rw [erase_snoc_not q qy, erase_take_no q])
        have HD2 : Hid (D = decide (t ∈ xs.take (j + 1))) := Lib.hid (by
          rw [HD.out, Htk.out]
          simp [show t ≠ y from fun e => qy e.symm])
        go_wp2_with (at_builtin; refine wpList_pushG (w0 := w) (base := w.heap.size) shZ y 2 rfl _ _ 26 rfl _ 8 Try.underlying26 Try.infoI64 rfl (by decide) (hown.ext ((Ext.refl _).alloc _)) L HL.out rfl rfl (heap_alloc_new _ _) (by omega) (by omega) (Ext.trans hb ((Ext.refl _).alloc _)) (by simp; omega) ?_; intro A1 c1 w1 hown1 _ hb1 hz1)
        go_roundw
        case rel => exact ⟨j + 1, L + 1, D, A1, c1, by omega, by go_num, rfl, rfl, HD2, Lib.hid (by rw [Hers.out, List.length_append, HL.out]; rfl), by rw [Hers.out]; exact hown1, hb1⟩
        case measure => simp [intOf]; omega
    · obtain rfl : j = n := by omega
      have htl : xs.take j = xs := List.take_of_length_le (by omega)
      rw [htl] at HD HL hown
      clear htl
      go_wp2_with fail
      go_ret2
      rw [HL.out, ← HD.out]
      exact ⟨_, _, rfl, hown, hb⟩

theorem leastL_snoc : ∀ (l : List Int) (t x : Int), leastL (l ++ [x]) t = if x < leastL l t then x else leastL l t
  | [], _t, _x => rfl
  | _y :: r, _t, x => leastL_snoc r _ x

set_option maxHeartbeats 800000 in
theorem rleast_any (A : Option Addr) (n c : Nat) (xs : List Int) (t : Int) (w : World) (hx : RdG shZ w A n xs) (hn : n ≤ 17592186044417) :
    Calls Try.prog 58 #[.slice A n c, .int .i64 t] w fun e w' => e = .returned (.int .i64 (leastL xs t)) ∧ w = w' := by
  have hl := hx.len
  go_enter Try.func58, Try.ntmps58
  go_wp2_with fail
  go_loopw [1, 5] (fun v i wr => ∃ (j : Nat) (a : Int), j ≤ n ∧ i = .int .i64 j ∧ v = .int .i64 a ∧ Hid (a = leastL (xs.take j) t) ∧ wr = w) (fun _ i _ => n - (intOf i).toNat)
  case atStart => exact ⟨0, t, Nat.zero_le _, rfl, rfl, Lib.hid rfl, rfl⟩
  case round =>
    obtain ⟨j, a, hj, rfl, rfl, HA, rfl⟩ := hrel
    by_cases hlt : j < n
    · obtain ⟨b, o, rfl, hbl, hc⟩ := hx.atZ hlt
      have hge : xs[j]? = some (xs.getD j 0) := by rw [List.getD, List.getElem?_eq_getElem (by omega)]; rfl
      obtain ⟨y, hy⟩ : ∃ y, y = xs.getD j 0 := ⟨_, rfl⟩
      rw [← hy] at hc hge
      have HN : Hid (leastL (xs.take (j + 1)) t = if y < a then y else a) := Lib.hid (by rw [take_nextG xs j hge, leastL_snoc, ← HA.out])
      clear hy hge
      by_cases q : y < a
      · have d : decide (y < a) = true := decide_eq_true q
        have HN2 : Hid (y = leastL (xs.take (j + 1)) t) := Lib.hid (by rw [HN.out, if_pos q])
        clear q
        go_wp2_with fail
        go_roundw
        case rel => exact ⟨j + 1, y, by omega, by go_num, rfl, HN2, (by trivial)⟩
        case measure => simp [intOf]; omega
      · have d : decide (y < a) = false := decide_eq_false q
        have HN2 : Hid (a = leastL (xs.take (j + 1)) t) := Lib.hid (by rw [HN.out, if_neg q])
        clear q
        go_wp2_with fail
        go_roundw
        case rel => exact ⟨j + 1, a, by omega, by go_num, rfl, HN2, (by trivial)⟩
        case measure => simp [intOf]; omega
    · obtain rfl : j = n := by omega
      have htl : xs.take j = xs := List.take_of_length_le (by omega)
      rw [htl] at HA
      clear htl
      go_wp2_with fail
      go_ret
      exact ⟨by rw [← HA.out]; rfl, rfl⟩

end Go.Proofs.Ytkmnhapeohlooaa
