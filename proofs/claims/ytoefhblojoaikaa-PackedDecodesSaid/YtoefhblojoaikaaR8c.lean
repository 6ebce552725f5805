/-
  Layer 8: Split, the program's and the document's.
-/
import Derived.Test.YtoefhblojoaikaaR8b
namespace Go.Proofs.Ytoefhblojoaikaa
open Go.RowKit

def SplitPost (vs : List Int) (w : World) (e : Ending) (w' : World) : Prop :=
  ∃ A' c', e = .returned (.tuple #[.slice A' (split8 vs).1.length c', .int .i64 (split8 vs).2]) ∧ OwnG shR 33 w' w.heap.size A' c' (split8 vs).1 ∧ Ext w w'

theorem rsp_len {vs : List Int} (h : R64s vs) : (rsp vs).length ≤ vs.length ∧ ∀ r ∈ rsp vs, 0 ≤ r.2 ∧ r.2 ≤ vs.length := by
  have hg := rsp_good h
  obtain ⟨h1, h2⟩ := flat_len_le hg
  rw [rsp_flat h] at h1 h2
  exact ⟨h1, fun r hr => ⟨by have := (hg.mem r hr).1; omega, h2 r hr⟩⟩
theorem R64s.take {vs : List Int} (h : R64s vs) (j : Nat) : R64s (vs.take j) := fun v hv => h v (List.mem_of_mem_take hv)
theorem rsp_take {vs : List Int} {j : Nat} (h : j < vs.length) : rsp (vs.take (j + 1)) = gat (rsp (vs.take j)) (vs.getD j 0) := by
  rw [take_nextG vs j (x := vs.getD j 0) (by rw [List.getD, List.getElem?_eq_getElem h]; rfl), rsp_snoc]

set_option maxHeartbeats 1600000 in
theorem split_any (A : Option Addr) (n c : Nat) (vs : List Int) (w : World) (hx : RdG shZ w A n vs) (hv : R64s vs) :
    Calls Try.prog 14 #[.slice A n c] w (SplitPost vs w) := by
  have hl := hx.len
  by_cases hbig : 4096 < n
  · have hs : split8 vs = ([], 4) := by unfold split8; rw [if_pos (by omega)]
    unfold SplitPost
    rw [hs]
    have Hl := Lib.hid hl
    clear hl
    go_enter Try.func14, Try.ntmps14
    go_wp2
    go_ret2
    exact ⟨none, 0, rfl, OwnG.nil _ _ _ _, Ext.refl w⟩
  · have hs : split8 vs = (rsp vs, 0) := by unfold split8; rw [if_neg (by omega)]
    unfold SplitPost
    rw [hs]
    have Hl := Lib.hid hl
    clear hl hs
    go_enter Try.func14, Try.ntmps14
    go_wp2
    go_loopw [11] (fun i wr => ∃ (j : Nat) (A' : Option Addr) (c' : Nat), j ≤ n ∧ i = .int .i64 j ∧ wr.heap[w.heap.size]? = some (.cells #[.slice A' (rsp (vs.take j)).length c'] 62) ∧ OwnG shR 33 wr w.heap.size A' c' (rsp (vs.take j)) ∧ Below w.heap.size w wr) (fun i _ => n - (intOf i).toNat)
    case atStart => exact ⟨0, none, 0, Nat.zero_le _, rfl, heap_alloc_new _ _, OwnG.nil _ _ _ _, (Ext.refl w).alloc _⟩
    case round =>
      obtain ⟨j, A', c', hj, rfl, hg, hown, hb⟩ := hrel
      by_cases hlt : j < n
      · obtain ⟨b, o, rfl, hbl, hc⟩ := (hx.ext hb).atZ hlt
        obtain ⟨v, hve⟩ : ∃ v, v = vs.getD j 0 := ⟨_, rfl⟩
        have HT := Lib.hid (rsp_take (vs := vs) (j := j) (by have := Hl.out; omega))
        rw [← hve] at hc HT
        clear hve
        obtain ⟨r1, r2⟩ := rsp_len (hv.take j)
        rw [List.length_take] at r1 r2
        have R2 := Lib.hid r2
        have Hg := Lib.hid hg
        have Hown := Lib.hid hown
        clear r2 hg hown
        go_wp2_with fail
        refine (gather_any _ w.heap.size A' c' _ _ _ Hg.out (Nat.le_refl _) Hown.out (by omega) (fun r hr => by have := R2.out r hr; omega)).mono ?_
        rintro e w1 ⟨A1, c1, rfl, hg1, hown1, hb1⟩
        rw [← HT.out] at hg1 hown1
        go_wp2_with fail
        go_roundw
        case rel => exact ⟨j + 1, A1, c1, by omega, by go_num, hg1, hown1, Below.trans hb hb1⟩
        case measure => simp [intOf]; omega
      · obtain rfl : j = n := by omega
        rw [List.take_of_length_le (by have := Hl.out; omega)] at hg hown
        have hg0 : wr.cell? ⟨w.heap.size, 0, none⟩ = some (.slice A' (rsp vs).length c') := by rw [cell_of_row wr w.heap.size 0 _ _ (0, 0) hg]; rfl
        go_wp2_with fail
        go_ret2
        exact ⟨A', c', rfl, hown, hb⟩

end Go.Proofs.Ytoefhblojoaikaa
