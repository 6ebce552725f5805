/-
  Layer 17: all of a map of times, in order.
-/
import Derived.Test.YtkmnhapeohlooaaMV2
import Derived.Test.YtkmnhapeohlooaaShelfM
import Derived.Sort.OwnSortedInts
namespace Go.Proofs.Ytkmnhapeohlooaa
open Go.RowKit Go.Maps Go.Sort
set_option maxRecDepth 100000

theorem Try.infoI64 : (Try.prog.info? 2).map (fun i => (i.zero, i.size, i.bytes)) = some (some (.int .i64 0), 1, 8) := by kernel_rfl

theorem sortZ_len (l : List Int) : (sortZ l).length = l.length := (sortZ_perm l).length_eq

theorem OwnG.ne_low {T : Type} {s : Shape T} {e : TypeId} {w : World} {base c n g : Nat} {A : Option Addr} {xs : List T} (h : OwnG s e w base A c xs) (hg : g < base) : some g ≠ (Value.slice A n c).ownBlock := by
  cases A with
  | none => simp [Value.ownBlock]
  | some a =>
    have := (h.block a rfl).1
    simp only [Value.ownBlock]
    intro e
    injection e with e
    omega
theorem OwnG.own_new {T : Type} {s : Shape T} {e : TypeId} {w : World} {base c n : Nat} {A : Option Addr} {xs : List T} (h : OwnG s e w base A c xs) : ∀ j, (Value.slice A n c).ownBlock = some j → base ≤ j := by
  intro j hj
  cases A with
  | none => simp [Value.ownBlock] at hj
  | some a =>
    simp only [Value.ownBlock] at hj
    injection hj with hj
    have := (h.block a rfl).1
    omega

theorem sortC_any (A : Option Addr) (c base : Nat) (e : TypeId) (xs : List Int) (w : World) (h : OwnG shZ e w base A c xs) (hn : xs.length < 4611686018427387904) :
    Calls Try.prog 85 #[.slice A xs.length c] w fun x w' => x = .returned (.tuple #[]) ∧ OwnG shZ e w' base A c (sortZ xs) ∧ w.grownBy w' (Value.slice A xs.length c).ownBlock := by
  have h0 := h
  rcases h.2 with ⟨hv, hl⟩ | ⟨g, cap, cur, hv, hg, hh, h1, h2, h3, h4⟩
  · injection hv with hA _ hc
    subst hA; subst hc
    have hx : xs = [] := List.eq_nil_of_length_eq_zero hl
    subst hx
    refine (AnyG.slices_Sort_int_none Try.sort85 none 0 w).mono ?_
    rintro x w' ⟨rfl, rfl⟩
    exact ⟨rfl, (by simpa [sortZ] using h0), ⟨rfl, rfl, rfl, Nat.le_refl _, fun _ _ _ => rfl⟩⟩
  · injection hv with hA _ hc
    subst hA; subst hc
    have hlt := (Array.getElem?_eq_some_iff.1 hh).1
    have h4' : cur.toList.take xs.length = xs.map (Value.int .i64) := by rw [← shZ.all xs, ← h4]; congr 1; exact (Nat.mul_one _).symm
    refine (AnyG.slices_Sort_int Try.sort85 g 0 c xs w (holds_of_blockI hh h4') hlt hn).mono ?_
    rintro x w' ⟨rfl, m, os, rfl⟩
    refine ⟨rfl, ?_, grownBy_sortedI _⟩
    have hr := ownsRow_sortedI (n := m) (os := os) (ts := sortZ xs) (sortZ_len xs) hg hh h1 h2 (by simpa [shZ] using h3)
    unfold OwnG
    rw [sortZ_len, shZ.all]
    exact hr

set_option maxHeartbeats 3200000 in
theorem tlist_any (b n : Nat) (l : List Int) (w : World) (h : MT w b n l) (hl : l.length ≤ 17592186044416) :
    Calls Try.prog 62 #[.map (some b)] w fun e w' => ∃ A c, e = .returned (.slice A l.length c) ∧ OwnG shZ 2 w' w.heap.size A c (sortZ l) ∧ Ext w w' := by
  obtain ⟨D, hown, hC⟩ := h
  have hbl := hown.lt
  have HC := Lib.hid hC
  clear hC
  go_enter Try.func62, Try.ntmps62
  go_wp2_with (first
    | (at_range; refine wpList_range_own _ rfl _ 81 rfl 2 3 lawZ Try.underlying81 _ b n _ rfl hown ?_; intro w0 hrg0 hg0 hs0)
    | go_in)
  go_frame
  go_loopw [3] (fun v wr => ∃ (left : Lit → Bool) (cnt L : Nat) (all : List Int) (A : Option Addr) (c : Nat), v = .slice A L c ∧ all.length = L ∧ wr.ranges Try.prog 2 (plainElem Try.prog 3) b w.heap.size n D left cnt ∧ w.grownBy wr none ∧ w.heap.size + 1 ≤ wr.heap.size ∧
      OwnG shZ 2 wr (w.heap.size + 1) A c all ∧ Hid (∀ t, all.count t = if left (tkey t) then 0 else l.count t)) (fun _ wr => wr.rangeLeft b w.heap.size)
  case atStart => exact ⟨_, _, 0, [], none, 0, rfl, rfl, hrg0, hg0, by omega, OwnG.nil _ _ _ _, Lib.hid fun t => by
    cases hq : Maps.has D (tkey t) with
    | true => rfl
    | false =>
      rw [HC.out.has, decide_eq_false_iff_not] at hq
      simp; omega⟩
  case round =>
    obtain ⟨left, cnt, L, all, A, c, rfl, hL, hrg, hgw, hsz, hrow, HI⟩ := hrel
    have HL := Lib.hid hL
    clear hL
    go_wp2_with (first
      | (at_next; refine wpList_next_ranges_ii _ rfl _ rfl 2 3 .i64 .i64 lawZ Try.underlying2 Try.underlying3 b w.heap.size n _ _ _ rfl hrg ?_ ?_)
      | go_in)
    · intro _ hl0
      have hcnt : ∀ t, all.count t = l.count t := fun t => by rw [HI.out t, hl0]; rfl
      have hlen : all.length = l.length := Nat.le_antisymm (count_le_length fun t => Nat.le_of_eq (hcnt t)) (count_le_length fun t => Nat.le_of_eq (hcnt t).symm)
      have hLl : L = l.length := HL.out.symm.trans hlen
      have hsort := sortC_any A c (w.heap.size + 1) _ all wr hrow (by omega)
      rw [HL.out, sortZ_of_count hcnt] at hsort
      have Hs := Lib.hid hsort
      have HLl := Lib.hid hLl
      have hgo := hrow.own_new (n := L)
      have Hgo := Lib.hid hgo
      clear hsort hcnt hlen hLl hgo
      go_wp2_with fail
      refine Hs.out.mono ?_
      rintro e w2 ⟨rfl, hown2, hg2⟩
      go_wp2
      go_ret
      rw [HLl.out] at hg2 ⊢
      refine ⟨A, c, rfl, hown2.mono (by omega), ?_⟩
      have hg3 := hgw.andThen hg2 (fun j hj => .inl (by have := Hgo.out j (by rw [HLl.out]; exact hj); omega))
      exact ⟨hg3.os, hg3.tape, hg3.output, hg3.size, fun i hi => hg3.block i hi (by simp)⟩
    · intro x c1 w1 cnt1 hwx hwc hlx hat hrg1 hlt hg1 hs1 hen
      have hgw1 := hgw.andThen hg1 (fun j hj => by cases hj; exact Or.inl (Nat.le_refl _))
      have hrow1 := hrow.grown hg1 (fun a ha e => by have := (hrow.block a ha).1; injection e with e; omega)
      obtain ⟨m, hm⟩ : ∃ m, m = l.count x := ⟨_, rfl⟩
      obtain rfl : c1 = (m : Int) := by
        have h1 := (hat (.lit (.int .i64 0))).symm.trans (HC.out.at_ x)
        rw [← hm] at h1
        injection h1 with h1
        injection h1
      have Hm := Lib.hid hm
      have hml : m ≤ l.length := by rw [hm]; exact List.count_le_length
      have hlt1 : (wr.rangeLeft b w.heap.size) = cnt := hrg.left_eq
      have Hlt1 := Lib.hid hlt1
      have hz1 : w.heap.size + 1 ≤ w1.heap.size := by omega
      have Hlx := Lib.hid hlx
      have Hat := Lib.hid hat
      have HA : Hid (all.length = L) := HL
      have H0 : Hid (∀ j, j ≤ m → all.length + j ≤ l.length) := Lib.hid fun j hj => by
        have h1 := count_le_length (a := all ++ List.replicate j x) (b := l) (fun t => by
          rw [List.count_append, HI.out t]
          by_cases q : x = t
          · subst q
            have e1 : (List.replicate j x).count x = j := by rw [List.count_replicate, if_pos (by simp)]
            rw [hlx, if_pos rfl, e1, ← hm]
            omega
          · have e1 : (List.replicate j x).count t = 0 := by rw [List.count_replicate, if_neg (by simpa using q)]
            rw [e1]
            split <;> omega)
        rw [List.length_append, List.length_replicate] at h1
        exact h1
      clear hm hlt1 hlx hat hrg hrow hgw hg1 hwc hwx
      go_wp2_with fail
      go_loopw [3, 14] (fun v i ws => ∃ (j : Nat) (A' : Option Addr) (c' : Nat), j ≤ m ∧ i = .int .i64 j ∧ v = .slice A' (L + j : Nat) c' ∧ ws.ranges Try.prog 2 (plainElem Try.prog 3) b w.heap.size n D (fun z => left z && !z.sameKey (tkey x)) cnt1 ∧ w.grownBy ws none ∧ w.heap.size + 1 ≤ ws.heap.size ∧
        OwnG shZ 2 ws (w.heap.size + 1) A' c' (all ++ List.replicate j x)) (fun _ i _ => m - (intOf i).toNat)
      case atStart => exact ⟨0, A, c, Nat.zero_le _, rfl, rfl, hrg1, hgw1, hz1, by simpa using hrow1⟩
      case round =>
        clear hrg1 hgw1 hrow1 hz1
        obtain ⟨j, A', c', hj, rfl, rfl, hrg2, hgw2, hz2, hrow2⟩ := hrel
        have hlen : (all ++ List.replicate j x).length = L + j := by rw [List.length_append, List.length_replicate, HL.out]
        have Hlen := Lib.hid hlen
        clear hlen
        by_cases hlt2 : j < m
        · have hb := H0.out (j + 1) (by omega)
          rw [HL.out] at hb
          have hgo := hrow2.own_new (n := L + j)
          have hne := hrow2.ne_low (n := L + j) (g := b) (by omega)
          have hne2 := hrow2.ne_low (n := L + j) (g := w.heap.size) (by omega)
          have Hgo := Lib.hid hgo
          have Hne := Lib.hid hne
          have Hne2 := Lib.hid hne2
          have Hb := Lib.hid hb
          have hbound : ((L + j + 1) + (L + j + 1) / 4 + 192) * 8 ≤ 281474976710656 := by omega
          have Hbound := Lib.hid hbound
          clear hgo hne hne2 hb hbound
          go_wp2_with (at_builtin; refine wpList_pushG (w0 := _) (base := w.heap.size + 1) shZ x 2 rfl _ _ 26 rfl _ 8 Try.underlying26 Try.infoI64 rfl (by decide) (hrow2.ext ((Ext.refl _).alloc _)) (L + j) Hlen.out rfl rfl (heap_alloc_new _ _) Hbound.out (by omega) (Below.refl _ _) (by simp; omega) ?_; intro A1 c1 w3 hown3 hg3 _ hz3)
          go_roundw
          case rel =>
            have hga := (World.grownBy_alloc wr (.cells #[.int .i64 x] 2) (Value.slice A' (L + j) c').ownBlock).trans hg3
            exact ⟨j + 1, A1, c1, by omega, by go_num, rfl, hrg2.kept hga Hne.out Hne2.out, hgw2.andThen hga (fun g hg => .inl (by have := Hgo.out g hg; omega)), hz3, by rw [List.replicate_succ', ← List.append_assoc]; exact hown3⟩
          case measure => simp [intOf]; omega
        · obtain rfl : j = m := by omega
          go_wp2_with fail
          go_roundw
          case rel =>
            refine ⟨_, cnt1, _, _, A', c', rfl, Hlen.out, hrg2, hgw2, hz2, hrow2, Lib.hid fun t => ?_⟩
            rw [List.count_append, HI.out t, sameKey_tkey]
            by_cases q : t = x
            · subst q
              have e1 : (List.replicate j t).count t = j := by rw [List.count_replicate, if_pos (by simp)]
              rw [Hlx.out, if_pos rfl, e1, decide_eq_true rfl, ← Hm.out]
              simp
            · have e1 : (List.replicate j x).count t = 0 := by rw [List.count_replicate, if_neg (by simpa using fun e : x = t => q e.symm)]
              rw [e1, decide_eq_false q]
              simp
          case measure => rw [hrg2.left_eq, Hlt1.out]; exact hlt

end Go.Proofs.Ytkmnhapeohlooaa
