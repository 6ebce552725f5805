/-
  Layer 17: a timestamp ends just once: walked.
-/
import Derived.Test.YtkmnhapeohlooaaMV10
namespace Go.Proofs.Ytkmnhapeohlooaa
open Go.RowKit Go.Maps
set_option maxRecDepth 100000

/-- What is in flight stands in order, and has been given out. -/
def Up (s : CkS) : Prop := s.fl.Pairwise (fun x y => x < y) ∧ ∀ x ∈ s.fl, x ≤ s.last

theorem Up.sort {s : CkS} (h : Up s) : sortZ s.fl = s.fl :=
  sorted_unique (sortZ_sorted _) (h.1.imp fun {_x _y} q => Int.le_of_lt q) (sortZ_perm _)
theorem erase_filter : ∀ {l : List Int} (t : Int), l.Pairwise (fun x y => x < y) → l.erase t = l.filter fun x => decide (x ≠ t)
  | [], _, _ => rfl
  | y :: r, t, h => by
    obtain ⟨h1, h2⟩ := List.pairwise_cons.1 h
    rw [List.erase_cons]
    by_cases q : y = t
    · subst q
      rw [if_pos (by simp), List.filter_cons_of_neg (by simp)]
      refine (List.filter_eq_self.2 fun x hx => ?_).symm
      have := h1 x hx
      simp
      omega
    · rw [if_neg (by simpa using q), List.filter_cons_of_pos (by simpa using q), erase_filter t h2]

/-- What a call leaves of a clock. -/
structure AftE (w w' : World) (b0 base sb bf bp N : Nat) (s s' : CkS) : Prop where
  ck : Ck w' b0 base sb bf bp (N + 1) s'
  fr : Fr b0 base w w'
  ok : s'.Ok (N + 1)
  up : Up s'

theorem begin_stepE {w : World} {b0 base sb bf bp N : Nat} {s : CkS} (h : Ck w b0 base sb bf bp N s) (ho : s.Ok N) (hu : Up s) (hN : N ≤ 17592186044416) :
    Calls Try.prog 25 #[.pointer (some ⟨sb, 0, none⟩)] w fun e w' => (e = .returned (.tuple #[.int .i64 0, .int .i64 170]) ∧ AftE w w' b0 base sb bf bp N s s) ∨
      (∃ t : Int, e = .returned (.tuple #[.int .i64 t, .int .i64 0]) ∧ ∃ s', AftE w w' b0 base sb bf bp N s s' ∧ s'.fl = s.fl ++ [t]) := by
  refine (mbegin_any h ho hN).mono ?_
  rintro e w' ⟨rfl, k1, f1⟩
  have o1 := ho.begin
  have hn := next_ge s
  by_cases q : s.next > 1099511627776
  · have e1 : s.begin = (s, 0, 170) := by unfold CkS.begin; rw [if_pos q]
    rw [e1] at k1 o1 ⊢
    exact .inl ⟨rfl, k1, f1, o1, hu⟩
  · have e1 : s.begin = ({ s with last := s.next, fl := s.fl ++ [s.next] }, s.next, 0) := by unfold CkS.begin; rw [if_neg q]
    rw [e1] at k1 o1 ⊢
    refine .inr ⟨s.next, rfl, _, ⟨k1, f1, o1, ?_, ?_⟩, rfl⟩
    · show (s.fl ++ [s.next]).Pairwise _
      refine List.pairwise_append.2 ⟨hu.1, List.pairwise_singleton _ _, fun x hx y hy => ?_⟩
      have := hu.2 x hx
      have := List.mem_singleton.1 hy
      omega
    · intro x hx
      show x ≤ s.next
      rcases List.mem_append.1 hx with hx | hx
      · have := hu.2 x hx
        omega
      · have := List.mem_singleton.1 hx
        omega
theorem fin_up {s : CkS} (hu : Up s) (t : Int) : Up (s.fin t) ∧ (s.fin t).fl = s.fl.filter fun x => decide (x ≠ t) := by
  have e : (s.fin t).fl = s.fl.filter fun x => decide (x ≠ t) := erase_filter t hu.1
  refine ⟨⟨?_, fun x hx => hu.2 x (List.mem_of_mem_erase hx)⟩, e⟩
  rw [e]
  exact hu.1.filter _
theorem commit_stepE {w : World} {b0 base sb bf bp N : Nat} {s : CkS} (h : Ck w b0 base sb bf bp N s) (ho : s.Ok N) (hu : Up s) (hN : N ≤ 17592186044416) (t : Int) (ht : R64 t) :
    Calls Try.prog 28 #[.pointer (some ⟨sb, 0, none⟩), .int .i64 t] w fun e w' => e = .returned (.int .i64 (endE s.fl t)) ∧ ∃ s', AftE w w' b0 base sb bf bp N s s' ∧ s'.fl = s.fl.filter fun x => decide (x ≠ t) := by
  refine (mcommit_any h ho hN t ht).mono ?_
  rintro e w' ⟨rfl, k1, f1⟩
  exact ⟨rfl, _, ⟨k1, f1, (ho.fin t).mono (Nat.le_succ _), (fin_up hu t).1⟩, (fin_up hu t).2⟩
theorem abort_stepE {w : World} {b0 base sb bf bp N : Nat} {s : CkS} (h : Ck w b0 base sb bf bp N s) (ho : s.Ok N) (hu : Up s) (hN : N ≤ 17592186044416) (t : Int) (ht : R64 t) :
    Calls Try.prog 29 #[.pointer (some ⟨sb, 0, none⟩), .int .i64 t] w fun e w' => e = .returned (.int .i64 (endE s.fl t)) ∧ ∃ s', AftE w w' b0 base sb bf bp N s s' ∧ s'.fl = s.fl.filter fun x => decide (x ≠ t) := by
  refine (mabort_any h ho hN t ht).mono ?_
  rintro e w' ⟨rfl, k1, f1⟩
  exact ⟨rfl, _, ⟨k1, f1, (ho.fin t).mono (Nat.le_succ _), (fin_up hu t).1⟩, (fin_up hu t).2⟩
theorem tick_stepE {w : World} {b0 base sb bf bp N : Nat} {s : CkS} (h : Ck w b0 base sb bf bp N s) (ho : s.Ok N) (hu : Up s) (t : Int) (ht : R64 t) :
    Calls Try.prog 30 #[.pointer (some ⟨sb, 0, none⟩), .int .i64 t] w fun e w' => e = .returned (.tuple #[]) ∧ ∃ s', AftE w w' b0 base sb bf bp N s s' ∧ s'.fl = s.fl := by
  refine (mtick_any h ho t ht).mono ?_
  rintro e w' ⟨rfl, k1, f1⟩
  exact ⟨rfl, _, ⟨k1.mono (Nat.le_succ _), f1, (ho.tick t).mono (Nat.le_succ _), hu⟩, rfl⟩

theorem Ck.far {w w' : World} {b0 base sb bf bp N : Nat} {s : CkS} {row : Option Nat} (h : Ck w b0 base sb bf bp N s) (hg : w.grownBy w' row) (hr : ∀ g, row = some g → base ≤ g) : Ck w' b0 base sb bf bp N s :=
  ⟨h.ge, h.lt, h.ne, Nat.le_trans h.top hg.size, (hg.block sb (Nat.lt_of_lt_of_le h.lt.1 h.top) (fun e => by have := hr sb e.symm; have := h.lt.1; omega)).trans h.blk,
    h.mf.grown hg (fun e => by have := hr bf e.symm; have := h.lt.2.1; omega), h.mp.grown hg (fun e => by have := hr bp e.symm; have := h.lt.2.2; omega)⟩

theorem filter_snoc_ne {l : List Int} {t y : Int} (m : Nat) (h : l[m]? = some y) (hy : y ≠ t) : (l.take (m + 1)).filter (fun x => decide (x ≠ t)) = (l.take m).filter (fun x => decide (x ≠ t)) ++ [y] := by
  rw [take_nextG l m h, List.filter_append, List.filter_cons_of_pos (by simpa using hy)]
  rfl
theorem filter_snoc_eq {l : List Int} {t : Int} (m : Nat) (h : l[m]? = some t) : (l.take (m + 1)).filter (fun x => decide (x ≠ t)) = (l.take m).filter (fun x => decide (x ≠ t)) := by
  rw [take_nextG l m h, List.filter_append, List.filter_cons_of_neg (by simp)]
  simp

set_option maxHeartbeats 6400000 in
theorem walk_MvccEnds (A : Option Addr) (n c : Nat) (ops : List (Int × Int)) (w : World) (hx : RdG shR w A n ops) (hr : ∀ o ∈ ops, R64 o.2) (hn : n ≤ 8796093022208) :
    Calls Try.prog 6 #[.slice A n c] w fun e w' => e = .returned (.bool true) ∧ Ext w w' := by
  have Hr := Lib.hid hr
  clear hr
  go_enter Try.func6, Try.ntmps6
  go_wp2_with fail
  refine (mnew_any _).mono ?_
  rintro e w0 ⟨sb, bf, bp, rfl, k0, he0⟩
  obtain ⟨B, hB⟩ : ∃ B, B = w0.heap.size := ⟨_, rfl⟩
  have hz0 : B ≤ w0.heap.size := Nat.le_of_eq hB
  have hwB : w.heap.size ≤ B := by rw [hB]; exact he0.size
  rw [← hB] at k0
  clear hB
  go_wp2_with fail
  refine (alive17_any _).mono ?_
  rintro e w1 ⟨rfl, he1⟩
  have hz1 : B ≤ w1.heap.size := Nat.le_trans hz0 he1.size
  have k1 := k0.ext (he1.alloc (.cells #[] 2))
  have hE1 := (he0.trans he1).alloc (.cells #[] 2)
  have hr1 := OwnG.made shZ 2 w1 hz1
  have HwB := Lib.hid hwB
  clear k0 he0 he1 hz0 hz1 hwB
  go_wp2_with fail
  go_loopw [4, 27] (fun v i wr => ∃ (j : Nat) (s : CkS) (L : Nat) (A2 : Option Addr) (c2 : Nat), j ≤ n ∧ i = .int .i64 j ∧ v = .slice A2 L c2 ∧ Hid (s.fl.length = L) ∧ Hid (OwnG shZ 2 wr B A2 c2 s.fl) ∧ Hid (Ck wr w.heap.size B sb bf bp j s) ∧ Hid (s.Ok j) ∧ Hid (Up s) ∧ Ext w wr) (fun _ i _ => n - (intOf i).toNat)
  case atStart => exact ⟨0, CkS.new, 0, _, _, Nat.zero_le _, rfl, rfl, Lib.hid rfl, Lib.hid hr1, Lib.hid k1, Lib.hid CkS.Ok.new, Lib.hid ⟨List.Pairwise.nil, by intro x hx; cases hx⟩, hE1⟩
  case round =>
    clear k1 hE1 hr1
    obtain ⟨j, s, L, A2, c2, hj, rfl, rfl, HL, Hop, Hk, Ho, Hu, hE⟩ := hrel
    have HE := Lib.hid hE
    by_cases hlt : j < n
    · obtain ⟨b, o, k, t, rfl, hb, hxj, hc0, hc1⟩ := (hx.ext hE).shR_at hlt
      have ht : R64 t := Hr.out _ (List.mem_of_getElem? hxj)
      have Ht := Lib.hid ht
      have hN : j ≤ 17592186044416 := by omega
      have hLb : L ≤ 8796093022208 := by have := Ho.out.fl; have := HL.out; omega
      have hX : Ext wr (wr.alloc (.cells #[.int .i64 k, .int .i64 t] 31)) := (Ext.refl wr).alloc _
      have HX := Lib.hid hX
      have Hk1 := Lib.hid (Hk.out.ext hX)
      have Hop1 := Lib.hid (Hop.out.ext hX)
      have hbB := Hk.out.top
      have HbB := Lib.hid hbB
      have e1 : (wr.alloc (.cells #[.int .i64 k, .int .i64 t] 31)).heap.size = wr.heap.size + 1 := by simp
      have HTB : Hid (∀ W, Ext (wr.alloc (.cells #[.int .i64 k, .int .i64 t] 31)) W → W.cell? ⟨wr.heap.size, 0, none⟩ = some (.int .i64 k) ∧ W.cell? ⟨wr.heap.size, 1, none⟩ = some (.int .i64 t)) := Lib.hid fun W hW => by
        have h1 := (hW.block wr.heap.size (by omega)).trans (heap_alloc_new wr (.cells #[.int .i64 k, .int .i64 t] 31))
        constructor <;> (rw [cell_of_row W wr.heap.size _ _ _ (0, 0) h1]; rfl)
      have Hsz : Hid (∀ W, Ext (wr.alloc (.cells #[.int .i64 k, .int .i64 t] 31)) W → wr.heap.size + 1 ≤ W.heap.size) := Lib.hid fun W h => by have := h.size; omega
      have HConv : Hid (∀ W, Below (wr.heap.size + 1) (wr.alloc (.cells #[.int .i64 k, .int .i64 t] 31)) W → Ext (wr.alloc (.cells #[.int .i64 k, .int .i64 t] 31)) W) := Lib.hid fun W h => by unfold Ext; rw [e1]; exact h
      have hmade := OwnG.made shZ 2 (wr.alloc (.cells #[.int .i64 k, .int .i64 t] 31)) (Nat.le_refl _)
      rw [e1] at hmade
      have Hmade := Lib.hid hmade
      clear hxj ht hX hbB hE e1 hmade
      by_cases q2 : k = 2
      · subst q2
        have CB := Lib.hid (begin_stepE Hk1.out Ho.out Hu.out hN)
        go_wp2_with fail
        refine CB.out.mono ?_
        rintro e w3 (⟨rfl, hA⟩ | ⟨T, rfl, S, hA, hfl⟩)
        · have HKc := Lib.hid hA.ck
          have HOk := Lib.hid hA.ok
          have HUp := Lib.hid hA.up
          have HEx := Lib.hid (Fr.ext (HE.out.trans HX.out) hA.fr (Nat.le_refl _))
          have Hop3 := Lib.hid (Hop1.out.fr hA.fr (Nat.le_refl _))
          have HL3 := HL
          clear hA
          have T3 := Lib.hid (mflight_any HKc.out HOk.out (by omega))
          have hLb3 : L ≤ 8796093022209 := by have := HOk.out.fl; have := HL3.out; omega
          rw [HUp.out.sort, HL3.out] at T3
          go_wp2_with fail
          refine T3.out.mono ?_
          rintro e w9 ⟨A9, c9, rfl, hown9, he9⟩
          have hrd9 := hown9.rd' HL3.out
          have hrd3 := (Hop3.out.ext he9).rd' HL3.out
          have HK9 := Lib.hid (HKc.out.ext he9)
          have HE9 := Lib.hid (HEx.out.trans he9)
          have Hop9 := Lib.hid (Hop3.out.ext he9)
          clear hown9 he9
          go_wp2_with fail
          go_loopw [104] (fun i ws => ∃ m : Nat, m ≤ L ∧ i = .int .i64 m ∧ ws = w9) (fun i _ => L - (intOf i).toNat)
          case atStart => exact ⟨0, Nat.zero_le _, rfl, rfl⟩
          case round =>
            obtain ⟨m9, hm9, rfl, rfl⟩ := hrel
            by_cases hlm9 : m9 < L
            · obtain ⟨b4, o4, hA4, hb4, hc4⟩ := hrd9.atZ hlm9
              obtain ⟨b5, o5, hA5, hb5, hc5⟩ := hrd3.atZ hlm9
              subst hA4
              have Hrd3 := Lib.hid hrd3
              have Hop99 := Hop9
              obtain ⟨y9, hy9⟩ : ∃ y, y = s.fl.getD m9 0 := ⟨_, rfl⟩
              rw [← hy9] at hc4 hc5
              clear hy9
              rw [hA5]
              go_wp2_with fail
              go_roundw
              case rel => exact ⟨m9 + 1, by omega, by go_num, (by trivial)⟩
              case measure => simp [intOf]; omega
            · obtain rfl : m9 = L := by omega
              go_wp2_with fail
              go_roundw
              case rel => exact ⟨j + 1, s, _, A2, c2, by omega, by go_num, rfl, HL3, Hop9, HK9, HOk, HUp, HE9.out⟩
              case measure => simp [intOf]; omega
        · have HEx3 := Lib.hid (Fr.ext (HE.out.trans HX.out) hA.fr (Nat.le_refl _))
          have Hop3 := Lib.hid (Hop1.out.fr hA.fr (Nat.le_refl _))
          have hz3 : B ≤ w3.heap.size := Nat.le_trans HbB.out (Nat.le_trans HX.out.size hA.fr.size)
          have hgo := Hop.out.own_new (n := L)
          have Hgo := Lib.hid hgo
          have hbound : ((L + 1) + (L + 1) / 4 + 192) * 8 ≤ 281474976710656 := by omega
          have Hbound := Lib.hid hbound
          have Hz3 := Lib.hid hz3
          have HK0 := Lib.hid hA.ck
          have HOk := Lib.hid hA.ok
          have HUp := Lib.hid hA.up
          have Hfl := Lib.hid hfl
          clear hA hfl hgo hbound hz3
          go_wp2_with (at_builtin; refine wpList_pushG (w0 := _) (base := B) shZ T 2 rfl _ _ 26 rfl _ 8 Try.underlying26 Try.infoI64 rfl (by decide) (Hop3.out.ext ((Ext.refl _).alloc _)) L HL.out rfl rfl (heap_alloc_new _ _) Hbound.out (by omega) (Below.refl _ _) (by simp; have := Hz3.out; omega) ?_; intro A5 c5 w5 hown5 hg5 _ hz5)
          have HKc := Lib.hid ((HK0.out.ext ((Ext.refl w3).alloc (.cells #[.int .i64 T] 2))).far hg5 Hgo.out)
          have HEx : Hid (Ext w w5) := Lib.hid (Below.grown (HEx3.out.alloc (.cells #[.int .i64 T] 2)) hg5 (by have := HEx3.out.size; simp; omega) (fun g hg => Nat.le_trans HwB.out (Hgo.out g hg)))
          clear Hop3
          have Hop3 : Hid (OwnG shZ 2 w5 B A5 c5 S.fl) := Lib.hid (by rw [Hfl.out]; exact hown5)
          have HL3 : Hid (S.fl.length = L + 1) := Lib.hid (by rw [Hfl.out, List.length_append, HL.out]; rfl)
          clear hown5 hg5 hz5
          obtain ⟨L1, hL1⟩ : ∃ L1, L1 = L + 1 := ⟨_, rfl⟩
          rw [← hL1] at HL3
          simp only [← hL1]
          clear hL1
          have T3 := Lib.hid (mflight_any HKc.out HOk.out (by omega))
          have hLb3 : L1 ≤ 8796093022209 := by have := HOk.out.fl; have := HL3.out; omega
          rw [HUp.out.sort, HL3.out] at T3
          go_wp2_with fail
          refine T3.out.mono ?_
          rintro e w9 ⟨A9, c9, rfl, hown9, he9⟩
          have hrd9 := hown9.rd' HL3.out
          have hrd3 := (Hop3.out.ext he9).rd' HL3.out
          have HK9 := Lib.hid (HKc.out.ext he9)
          have HE9 := Lib.hid (HEx.out.trans he9)
          have Hop9 := Lib.hid (Hop3.out.ext he9)
          clear hown9 he9
          go_wp2_with fail
          go_loopw [104] (fun i ws => ∃ m : Nat, m ≤ L1 ∧ i = .int .i64 m ∧ ws = w9) (fun i _ => L1 - (intOf i).toNat)
          case atStart => exact ⟨0, Nat.zero_le _, rfl, rfl⟩
          case round =>
            obtain ⟨m9, hm9, rfl, rfl⟩ := hrel
            by_cases hlm9 : m9 < L1
            · obtain ⟨b4, o4, hA4, hb4, hc4⟩ := hrd9.atZ hlm9
              obtain ⟨b5, o5, hA5, hb5, hc5⟩ := hrd3.atZ hlm9
              subst hA4
              have Hrd3 := Lib.hid hrd3
              have Hop99 := Hop9
              obtain ⟨y9, hy9⟩ : ∃ y, y = S.fl.getD m9 0 := ⟨_, rfl⟩
              rw [← hy9] at hc4 hc5
              clear hy9
              rw [hA5]
              go_wp2_with fail
              go_roundw
              case rel => exact ⟨m9 + 1, by omega, by go_num, (by trivial)⟩
              case measure => simp [intOf]; omega
            · obtain rfl : m9 = L1 := by omega
              go_wp2_with fail
              go_roundw
              case rel => exact ⟨j + 1, S, _, A5, c5, by omega, by go_num, rfl, HL3, Hop9, HK9, HOk, HUp, HE9.out⟩
              case measure => simp [intOf]; omega
      have b2 : (k == 2) = false := by simpa using q2
      by_cases q3 : k = 3
      · subst q3
        have CB := Lib.hid (fun W (hW : Ext (wr.alloc (.cells #[.int .i64 3, .int .i64 t] 31)) W) => commit_stepE (Hk1.out.ext hW) Ho.out Hu.out hN t Ht.out)
        go_wp2_with fail
        go_loopw [9, 10, 52] (fun x y i ws => ∃ (m R : Nat) (D : Bool) (A6 : Option Addr) (c6 : Nat), m ≤ L ∧ i = .int .i64 m ∧ x = .bool D ∧ y = .slice A6 R c6 ∧ Hid (D = decide (t ∈ s.fl.take m)) ∧ Hid (((s.fl.take m).filter (fun x => decide (x ≠ t))).length = R) ∧ Hid (OwnG shZ 2 ws (wr.heap.size + 1) A6 c6 ((s.fl.take m).filter (fun x => decide (x ≠ t)))) ∧ Below (wr.heap.size + 1) (wr.alloc (.cells #[.int .i64 3, .int .i64 t] 31)) ws) (fun _ _ i _ => L - (intOf i).toNat)
        case atStart => exact ⟨0, 0, false, _, _, Nat.zero_le _, rfl, rfl, rfl, Lib.hid (by simp), Lib.hid rfl, Lib.hid Hmade.out, Below.alloc (Below.refl _ _) (by simp) _⟩
        case round =>
          obtain ⟨m, R, D, A6, c6, hm, rfl, rfl, rfl, HD, HR6, H6, hE6⟩ := hrel
          have hext := HConv.out _ hE6
          obtain ⟨ct0, ct1⟩ := HTB.out _ hext
          have hsz6 := Hsz.out _ hext
          by_cases hlm : m < L
          · obtain ⟨b3, o3, hA3, hb3, hc3⟩ := ((Hop1.out.ext hext).rd' HL.out).atZ hlm
            subst hA3
            have hml : m < s.fl.length := by rw [HL.out]; exact hlm
            have hge : s.fl[m]? = some (s.fl.getD m 0) := by rw [List.getD, List.getElem?_eq_getElem hml]; rfl
            obtain ⟨y, hy⟩ : ∃ y, y = s.fl.getD m 0 := ⟨_, rfl⟩
            rw [← hy] at hc3 hge
            have Hge := Lib.hid hge
            have Hext := Lib.hid hext
            clear hy hge hml hext
            by_cases qy : y = t
            · subst qy
              have HD2 : Hid (decide (y ∈ s.fl.take (m + 1)) = true) := Lib.hid (decide_eq_true (by rw [take_nextG s.fl m Hge.out]; simp))
              go_wp2_with fail
              go_roundw
              case rel => exact ⟨m + 1, R, true, A6, c6, by omega, by go_num, rfl, rfl, Lib.hid HD2.out.symm, Lib.hid (by rw [filter_snoc_eq m Hge.out]; exact HR6.out), Lib.hid (by rw [filter_snoc_eq m Hge.out]; exact H6.out), hE6⟩
              case measure => simp [intOf]; omega
            · have HD2 : Hid (D = decide (t ∈ s.fl.take (m + 1))) := Lib.hid (by
                rw [HD.out, take_nextG s.fl m Hge.out]
                simp [show t ≠ y from fun e => qy e.symm])
              have bq : (y == t) = false := by simpa using qy
              have hRb : R ≤ L := by
                have h1 := List.length_filter_le (fun x => decide (x ≠ t)) (s.fl.take m)
                rw [HR6.out, List.length_take] at h1
                omega
              have hbound : ((R + 1) + (R + 1) / 4 + 192) * 8 ≤ 281474976710656 := by omega
              have Hbound := Lib.hid hbound
              have Hsz6 := Lib.hid hsz6
              have HE6 := Lib.hid hE6
              clear hbound hsz6 hRb hE6
              go_wp2_with (at_builtin; refine wpList_pushG shZ y 2 rfl _ _ 26 rfl _ 8 Try.underlying26 Try.infoI64 rfl (by decide) (H6.out.ext ((Ext.refl _).alloc _)) R HR6.out rfl rfl (heap_alloc_new _ _) Hbound.out (by omega) (Below.alloc HE6.out Hsz6.out _) (by simp; have := Hsz6.out; omega) ?_; intro A7 c7 w7 hown7 _ hb7 hz7)
              go_roundw
              case rel => exact ⟨m + 1, R + 1, D, A7, c7, by omega, by go_num, rfl, rfl, HD2, Lib.hid (by rw [filter_snoc_ne m Hge.out qy, List.length_append, HR6.out]; rfl), Lib.hid (by rw [filter_snoc_ne m Hge.out qy]; exact hown7), hb7⟩
              case measure => simp [intOf]; omega
          · obtain rfl : m = L := by omega
            have htl : s.fl.take m = s.fl := List.take_of_length_le (by rw [HL.out]; exact Nat.le_refl _)
            rw [htl] at HD HR6 H6
            have CC := Lib.hid (CB.out _ hext)
            have Hext := Lib.hid hext
            have key : (endE s.fl t = 0 ∧ D = true) ∨ (endE s.fl t = 172 ∧ D = false) := by
              rw [HD.out]
              unfold endE
              by_cases q : t ∈ s.fl
              · rw [if_pos q, decide_eq_true q]; exact .inl ⟨rfl, rfl⟩
              · rw [if_neg q, decide_eq_false q]; exact .inr ⟨rfl, rfl⟩
            obtain ⟨E, hEE⟩ : ∃ E, E = endE s.fl t := ⟨_, rfl⟩
            rw [← hEE] at CC key
            clear htl hext hEE HD
            rcases key with ⟨rfl, rfl⟩ | ⟨rfl, rfl⟩
            · go_wp2_with fail
              refine CC.out.mono ?_
              rintro e w8 ⟨rfl, S, hA, hfl⟩
              have HKc := Lib.hid hA.ck
              have HOk := Lib.hid hA.ok
              have HUp := Lib.hid hA.up
              have HEx := Lib.hid (Fr.ext ((HE.out.trans HX.out).trans Hext.out) hA.fr (Nat.le_refl _))
              have Hop3 : Hid (OwnG shZ 2 w8 B A6 c6 S.fl) := Lib.hid (by rw [hfl]; exact (H6.out.fr hA.fr (by have := HbB.out; omega)).mono (by have := HbB.out; omega))
              have HL3 : Hid (S.fl.length = R) := Lib.hid (by rw [hfl]; exact HR6.out)
              clear hA hfl
              have T3 := Lib.hid (mflight_any HKc.out HOk.out (by omega))
              have hLb3 : R ≤ 8796093022209 := by have := HOk.out.fl; have := HL3.out; omega
              rw [HUp.out.sort, HL3.out] at T3
              go_wp2_with fail
              refine T3.out.mono ?_
              rintro e w9 ⟨A9, c9, rfl, hown9, he9⟩
              have hrd9 := hown9.rd' HL3.out
              have hrd3 := (Hop3.out.ext he9).rd' HL3.out
              have HK9 := Lib.hid (HKc.out.ext he9)
              have HE9 := Lib.hid (HEx.out.trans he9)
              have Hop9 := Lib.hid (Hop3.out.ext he9)
              clear hown9 he9
              go_wp2_with fail
              go_loopw [104] (fun i ws => ∃ m : Nat, m ≤ R ∧ i = .int .i64 m ∧ ws = w9) (fun i _ => R - (intOf i).toNat)
              case atStart => exact ⟨0, Nat.zero_le _, rfl, rfl⟩
              case round =>
                obtain ⟨m9, hm9, rfl, rfl⟩ := hrel
                by_cases hlm9 : m9 < R
                · obtain ⟨b4, o4, hA4, hb4, hc4⟩ := hrd9.atZ hlm9
                  obtain ⟨b5, o5, hA5, hb5, hc5⟩ := hrd3.atZ hlm9
                  subst hA4
                  have Hrd3 := Lib.hid hrd3
                  have Hop99 := Hop9
                  obtain ⟨y9, hy9⟩ : ∃ y, y = S.fl.getD m9 0 := ⟨_, rfl⟩
                  rw [← hy9] at hc4 hc5
                  clear hy9
                  rw [hA5]
                  go_wp2_with fail
                  go_roundw
                  case rel => exact ⟨m9 + 1, by omega, by go_num, (by trivial)⟩
                  case measure => simp [intOf]; omega
                · obtain rfl : m9 = R := by omega
                  go_wp2_with fail
                  go_roundw
                  case rel => exact ⟨j + 1, S, _, A6, c6, by omega, by go_num, rfl, HL3, Hop9, HK9, HOk, HUp, HE9.out⟩
                  case measure => simp [intOf]; omega
            · go_wp2_with fail
              refine CC.out.mono ?_
              rintro e w8 ⟨rfl, S, hA, hfl⟩
              have HKc := Lib.hid hA.ck
              have HOk := Lib.hid hA.ok
              have HUp := Lib.hid hA.up
              have HEx := Lib.hid (Fr.ext ((HE.out.trans HX.out).trans Hext.out) hA.fr (Nat.le_refl _))
              have Hop3 : Hid (OwnG shZ 2 w8 B A6 c6 S.fl) := Lib.hid (by rw [hfl]; exact (H6.out.fr hA.fr (by have := HbB.out; omega)).mono (by have := HbB.out; omega))
              have HL3 : Hid (S.fl.length = R) := Lib.hid (by rw [hfl]; exact HR6.out)
              clear hA hfl
              have T3 := Lib.hid (mflight_any HKc.out HOk.out (by omega))
              have hLb3 : R ≤ 8796093022209 := by have := HOk.out.fl; have := HL3.out; omega
              rw [HUp.out.sort, HL3.out] at T3
              go_wp2_with fail
              refine T3.out.mono ?_
              rintro e w9 ⟨A9, c9, rfl, hown9, he9⟩
              have hrd9 := hown9.rd' HL3.out
              have hrd3 := (Hop3.out.ext he9).rd' HL3.out
              have HK9 := Lib.hid (HKc.out.ext he9)
              have HE9 := Lib.hid (HEx.out.trans he9)
              have Hop9 := Lib.hid (Hop3.out.ext he9)
              clear hown9 he9
              go_wp2_with fail
              go_loopw [104] (fun i ws => ∃ m : Nat, m ≤ R ∧ i = .int .i64 m ∧ ws = w9) (fun i _ => R - (intOf i).toNat)
              case atStart => exact ⟨0, Nat.zero_le _, rfl, rfl⟩
              case round =>
                obtain ⟨m9, hm9, rfl, rfl⟩ := hrel
                by_cases hlm9 : m9 < R
                · obtain ⟨b4, o4, hA4, hb4, hc4⟩ := hrd9.atZ hlm9
                  obtain ⟨b5, o5, hA5, hb5, hc5⟩ := hrd3.atZ hlm9
                  subst hA4
                  have Hrd3 := Lib.hid hrd3
                  have Hop99 := Hop9
                  obtain ⟨y9, hy9⟩ : ∃ y, y = S.fl.getD m9 0 := ⟨_, rfl⟩
                  rw [← hy9] at hc4 hc5
                  clear hy9
                  rw [hA5]
                  go_wp2_with fail
                  go_roundw
                  case rel => exact ⟨m9 + 1, by omega, by go_num, (by trivial)⟩
                  case measure => simp [intOf]; omega
                · obtain rfl : m9 = R := by omega
                  go_wp2_with fail
                  go_roundw
                  case rel => exact ⟨j + 1, S, _, A6, c6, by omega, by go_num, rfl, HL3, Hop9, HK9, HOk, HUp, HE9.out⟩
                  case measure => simp [intOf]; omega
      have b3 : (k == 3) = false := by simpa using q3
      by_cases q4 : k = 4
      · subst q4
        have CB := Lib.hid (fun W (hW : Ext (wr.alloc (.cells #[.int .i64 4, .int .i64 t] 31)) W) => abort_stepE (Hk1.out.ext hW) Ho.out Hu.out hN t Ht.out)
        go_wp2_with fail
        go_loopw [9, 10, 52] (fun x y i ws => ∃ (m R : Nat) (D : Bool) (A6 : Option Addr) (c6 : Nat), m ≤ L ∧ i = .int .i64 m ∧ x = .bool D ∧ y = .slice A6 R c6 ∧ Hid (D = decide (t ∈ s.fl.take m)) ∧ Hid (((s.fl.take m).filter (fun x => decide (x ≠ t))).length = R) ∧ Hid (OwnG shZ 2 ws (wr.heap.size + 1) A6 c6 ((s.fl.take m).filter (fun x => decide (x ≠ t)))) ∧ Below (wr.heap.size + 1) (wr.alloc (.cells #[.int .i64 4, .int .i64 t] 31)) ws) (fun _ _ i _ => L - (intOf i).toNat)
        case atStart => exact ⟨0, 0, false, _, _, Nat.zero_le _, rfl, rfl, rfl, Lib.hid (by simp), Lib.hid rfl, Lib.hid Hmade.out, Below.alloc (Below.refl _ _) (by simp) _⟩
        case round =>
          obtain ⟨m, R, D, A6, c6, hm, rfl, rfl, rfl, HD, HR6, H6, hE6⟩ := hrel
          have hext := HConv.out _ hE6
          obtain ⟨ct0, ct1⟩ := HTB.out _ hext
          have hsz6 := Hsz.out _ hext
          by_cases hlm : m < L
          · obtain ⟨b3, o3, hA3, hb3, hc3⟩ := ((Hop1.out.ext hext).rd' HL.out).atZ hlm
            subst hA3
            have hml : m < s.fl.length := by rw [HL.out]; exact hlm
            have hge : s.fl[m]? = some (s.fl.getD m 0) := by rw [List.getD, List.getElem?_eq_getElem hml]; rfl
            obtain ⟨y, hy⟩ : ∃ y, y = s.fl.getD m 0 := ⟨_, rfl⟩
            rw [← hy] at hc3 hge
            have Hge := Lib.hid hge
            have Hext := Lib.hid hext
            clear hy hge hml hext
            by_cases qy : y = t
            · subst qy
              have HD2 : Hid (decide (y ∈ s.fl.take (m + 1)) = true) := Lib.hid (decide_eq_true (by rw [take_nextG s.fl m Hge.out]; simp))
              go_wp2_with fail
              go_roundw
              case rel => exact ⟨m + 1, R, true, A6, c6, by omega, by go_num, rfl, rfl, Lib.hid HD2.out.symm, Lib.hid (by rw [filter_snoc_eq m Hge.out]; exact HR6.out), Lib.hid (by rw [filter_snoc_eq m Hge.out]; exact H6.out), hE6⟩
              case measure => simp [intOf]; omega
            · have HD2 : Hid (D = decide (t ∈ s.fl.take (m + 1))) := Lib.hid (by
                rw [HD.out, take_nextG s.fl m Hge.out]
                simp [show t ≠ y from fun e => qy e.symm])
              have bq : (y == t) = false := by simpa using qy
              have hRb : R ≤ L := by
                have h1 := List.length_filter_le (fun x => decide (x ≠ t)) (s.fl.take m)
                rw [HR6.out, List.length_take] at h1
                omega
              have hbound : ((R + 1) + (R + 1) / 4 + 192) * 8 ≤ 281474976710656 := by omega
              have Hbound := Lib.hid hbound
              have Hsz6 := Lib.hid hsz6
              have HE6 := Lib.hid hE6
              clear hbound hsz6 hRb hE6
              go_wp2_with (at_builtin; refine wpList_pushG shZ y 2 rfl _ _ 26 rfl _ 8 Try.underlying26 Try.infoI64 rfl (by decide) (H6.out.ext ((Ext.refl _).alloc _)) R HR6.out rfl rfl (heap_alloc_new _ _) Hbound.out (by omega) (Below.alloc HE6.out Hsz6.out _) (by simp; have := Hsz6.out; omega) ?_; intro A7 c7 w7 hown7 _ hb7 hz7)
              go_roundw
              case rel => exact ⟨m + 1, R + 1, D, A7, c7, by omega, by go_num, rfl, rfl, HD2, Lib.hid (by rw [filter_snoc_ne m Hge.out qy, List.length_append, HR6.out]; rfl), Lib.hid (by rw [filter_snoc_ne m Hge.out qy]; exact hown7), hb7⟩
              case measure => simp [intOf]; omega
          · obtain rfl : m = L := by omega
            have htl : s.fl.take m = s.fl := List.take_of_length_le (by rw [HL.out]; exact Nat.le_refl _)
            rw [htl] at HD HR6 H6
            have CC := Lib.hid (CB.out _ hext)
            have Hext := Lib.hid hext
            have key : (endE s.fl t = 0 ∧ D = true) ∨ (endE s.fl t = 172 ∧ D = false) := by
              rw [HD.out]
              unfold endE
              by_cases q : t ∈ s.fl
              · rw [if_pos q, decide_eq_true q]; exact .inl ⟨rfl, rfl⟩
              · rw [if_neg q, decide_eq_false q]; exact .inr ⟨rfl, rfl⟩
            obtain ⟨E, hEE⟩ : ∃ E, E = endE s.fl t := ⟨_, rfl⟩
            rw [← hEE] at CC key
            clear htl hext hEE HD
            rcases key with ⟨rfl, rfl⟩ | ⟨rfl, rfl⟩
            · go_wp2_with fail
              refine CC.out.mono ?_
              rintro e w8 ⟨rfl, S, hA, hfl⟩
              have HKc := Lib.hid hA.ck
              have HOk := Lib.hid hA.ok
              have HUp := Lib.hid hA.up
              have HEx := Lib.hid (Fr.ext ((HE.out.trans HX.out).trans Hext.out) hA.fr (Nat.le_refl _))
              have Hop3 : Hid (OwnG shZ 2 w8 B A6 c6 S.fl) := Lib.hid (by rw [hfl]; exact (H6.out.fr hA.fr (by have := HbB.out; omega)).mono (by have := HbB.out; omega))
              have HL3 : Hid (S.fl.length = R) := Lib.hid (by rw [hfl]; exact HR6.out)
              clear hA hfl
              have T3 := Lib.hid (mflight_any HKc.out HOk.out (by omega))
              have hLb3 : R ≤ 8796093022209 := by have := HOk.out.fl; have := HL3.out; omega
              rw [HUp.out.sort, HL3.out] at T3
              go_wp2_with fail
              refine T3.out.mono ?_
              rintro e w9 ⟨A9, c9, rfl, hown9, he9⟩
              have hrd9 := hown9.rd' HL3.out
              have hrd3 := (Hop3.out.ext he9).rd' HL3.out
              have HK9 := Lib.hid (HKc.out.ext he9)
              have HE9 := Lib.hid (HEx.out.trans he9)
              have Hop9 := Lib.hid (Hop3.out.ext he9)
              clear hown9 he9
              go_wp2_with fail
              go_loopw [104] (fun i ws => ∃ m : Nat, m ≤ R ∧ i = .int .i64 m ∧ ws = w9) (fun i _ => R - (intOf i).toNat)
              case atStart => exact ⟨0, Nat.zero_le _, rfl, rfl⟩
              case round =>
                obtain ⟨m9, hm9, rfl, rfl⟩ := hrel
                by_cases hlm9 : m9 < R
                · obtain ⟨b4, o4, hA4, hb4, hc4⟩ := hrd9.atZ hlm9
                  obtain ⟨b5, o5, hA5, hb5, hc5⟩ := hrd3.atZ hlm9
                  subst hA4
                  have Hrd3 := Lib.hid hrd3
                  have Hop99 := Hop9
                  obtain ⟨y9, hy9⟩ : ∃ y, y = S.fl.getD m9 0 := ⟨_, rfl⟩
                  rw [← hy9] at hc4 hc5
                  clear hy9
                  rw [hA5]
                  go_wp2_with fail
                  go_roundw
                  case rel => exact ⟨m9 + 1, by omega, by go_num, (by trivial)⟩
                  case measure => simp [intOf]; omega
                · obtain rfl : m9 = R := by omega
                  go_wp2_with fail
                  go_roundw
                  case rel => exact ⟨j + 1, S, _, A6, c6, by omega, by go_num, rfl, HL3, Hop9, HK9, HOk, HUp, HE9.out⟩
                  case measure => simp [intOf]; omega
            · go_wp2_with fail
              refine CC.out.mono ?_
              rintro e w8 ⟨rfl, S, hA, hfl⟩
              have HKc := Lib.hid hA.ck
              have HOk := Lib.hid hA.ok
              have HUp := Lib.hid hA.up
              have HEx := Lib.hid (Fr.ext ((HE.out.trans HX.out).trans Hext.out) hA.fr (Nat.le_refl _))
              have Hop3 : Hid (OwnG shZ 2 w8 B A6 c6 S.fl) := Lib.hid (by rw [hfl]; exact (H6.out.fr hA.fr (by have := HbB.out; omega)).mono (by have := HbB.out; omega))
              have HL3 : Hid (S.fl.length = R) := Lib.hid (by rw [hfl]; exact HR6.out)
              clear hA hfl
              have T3 := Lib.hid (mflight_any HKc.out HOk.out (by omega))
              have hLb3 : R ≤ 8796093022209 := by have := HOk.out.fl; have := HL3.out; omega
              rw [HUp.out.sort, HL3.out] at T3
              go_wp2_with fail
              refine T3.out.mono ?_
              rintro e w9 ⟨A9, c9, rfl, hown9, he9⟩
              have hrd9 := hown9.rd' HL3.out
              have hrd3 := (Hop3.out.ext he9).rd' HL3.out
              have HK9 := Lib.hid (HKc.out.ext he9)
              have HE9 := Lib.hid (HEx.out.trans he9)
              have Hop9 := Lib.hid (Hop3.out.ext he9)
              clear hown9 he9
              go_wp2_with fail
              go_loopw [104] (fun i ws => ∃ m : Nat, m ≤ R ∧ i = .int .i64 m ∧ ws = w9) (fun i _ => R - (intOf i).toNat)
              case atStart => exact ⟨0, Nat.zero_le _, rfl, rfl⟩
              case round =>
                obtain ⟨m9, hm9, rfl, rfl⟩ := hrel
                by_cases hlm9 : m9 < R
                · obtain ⟨b4, o4, hA4, hb4, hc4⟩ := hrd9.atZ hlm9
                  obtain ⟨b5, o5, hA5, hb5, hc5⟩ := hrd3.atZ hlm9
                  subst hA4
                  have Hrd3 := Lib.hid hrd3
                  have Hop99 := Hop9
                  obtain ⟨y9, hy9⟩ : ∃ y, y = S.fl.getD m9 0 := ⟨_, rfl⟩
                  rw [← hy9] at hc4 hc5
                  clear hy9
                  rw [hA5]
                  go_wp2_with fail
                  go_roundw
                  case rel => exact ⟨m9 + 1, by omega, by go_num, (by trivial)⟩
                  case measure => simp [intOf]; omega
                · obtain rfl : m9 = R := by omega
                  go_wp2_with fail
                  go_roundw
                  case rel => exact ⟨j + 1, S, _, A6, c6, by omega, by go_num, rfl, HL3, Hop9, HK9, HOk, HUp, HE9.out⟩
                  case measure => simp [intOf]; omega
      have b4 : (k == 4) = false := by simpa using q4
      by_cases q1 : k = 1
      · subst q1
        have CB := Lib.hid (tick_stepE Hk1.out Ho.out Hu.out t Ht.out)
        go_wp2_with fail
        refine CB.out.mono ?_
        rintro e w3 ⟨rfl, S, hA, hfl⟩
        have HKc := Lib.hid hA.ck
        have HOk := Lib.hid hA.ok
        have HUp := Lib.hid hA.up
        have HEx := Lib.hid (Fr.ext (HE.out.trans HX.out) hA.fr (Nat.le_refl _))
        have Hop3 : Hid (OwnG shZ 2 w3 B A2 c2 S.fl) := Lib.hid (by rw [hfl]; exact Hop1.out.fr hA.fr (Nat.le_refl _))
        have HL3 : Hid (S.fl.length = L) := Lib.hid (by rw [hfl]; exact HL.out)
        clear hA hfl
        have T3 := Lib.hid (mflight_any HKc.out HOk.out (by omega))
        have hLb3 : L ≤ 8796093022209 := by have := HOk.out.fl; have := HL3.out; omega
        rw [HUp.out.sort, HL3.out] at T3
        go_wp2_with fail
        refine T3.out.mono ?_
        rintro e w9 ⟨A9, c9, rfl, hown9, he9⟩
        have hrd9 := hown9.rd' HL3.out
        have hrd3 := (Hop3.out.ext he9).rd' HL3.out
        have HK9 := Lib.hid (HKc.out.ext he9)
        have HE9 := Lib.hid (HEx.out.trans he9)
        have Hop9 := Lib.hid (Hop3.out.ext he9)
        clear hown9 he9
        go_wp2_with fail
        go_loopw [104] (fun i ws => ∃ m : Nat, m ≤ L ∧ i = .int .i64 m ∧ ws = w9) (fun i _ => L - (intOf i).toNat)
        case atStart => exact ⟨0, Nat.zero_le _, rfl, rfl⟩
        case round =>
          obtain ⟨m9, hm9, rfl, rfl⟩ := hrel
          by_cases hlm9 : m9 < L
          · obtain ⟨b4, o4, hA4, hb4, hc4⟩ := hrd9.atZ hlm9
            obtain ⟨b5, o5, hA5, hb5, hc5⟩ := hrd3.atZ hlm9
            subst hA4
            have Hrd3 := Lib.hid hrd3
            have Hop99 := Hop9
            obtain ⟨y9, hy9⟩ : ∃ y, y = S.fl.getD m9 0 := ⟨_, rfl⟩
            rw [← hy9] at hc4 hc5
            clear hy9
            rw [hA5]
            go_wp2_with fail
            go_roundw
            case rel => exact ⟨m9 + 1, by omega, by go_num, (by trivial)⟩
            case measure => simp [intOf]; omega
          · obtain rfl : m9 = L := by omega
            go_wp2_with fail
            go_roundw
            case rel => exact ⟨j + 1, S, _, A2, c2, by omega, by go_num, rfl, HL3, Hop9, HK9, HOk, HUp, HE9.out⟩
            case measure => simp [intOf]; omega
      have b1 : (k == 1) = false := by simpa using q1
      have HKc := Lib.hid (Hk1.out.mono (Nat.le_succ _))
      have HOk := Lib.hid (Ho.out.mono (Nat.le_succ _))
      have HUp := Hu
      have HEx := Lib.hid (HE.out.trans HX.out)
      have Hop3 := Hop1
      have HL3 := HL
      have T3 := Lib.hid (mflight_any HKc.out HOk.out (by omega))
      have hLb3 : L ≤ 8796093022209 := by have := HOk.out.fl; have := HL3.out; omega
      rw [HUp.out.sort, HL3.out] at T3
      go_wp2_with fail
      refine T3.out.mono ?_
      rintro e w9 ⟨A9, c9, rfl, hown9, he9⟩
      have hrd9 := hown9.rd' HL3.out
      have hrd3 := (Hop3.out.ext he9).rd' HL3.out
      have HK9 := Lib.hid (HKc.out.ext he9)
      have HE9 := Lib.hid (HEx.out.trans he9)
      have Hop9 := Lib.hid (Hop3.out.ext he9)
      clear hown9 he9
      go_wp2_with fail
      go_loopw [104] (fun i ws => ∃ m : Nat, m ≤ L ∧ i = .int .i64 m ∧ ws = w9) (fun i _ => L - (intOf i).toNat)
      case atStart => exact ⟨0, Nat.zero_le _, rfl, rfl⟩
      case round =>
        obtain ⟨m9, hm9, rfl, rfl⟩ := hrel
        by_cases hlm9 : m9 < L
        · obtain ⟨b4, o4, hA4, hb4, hc4⟩ := hrd9.atZ hlm9
          obtain ⟨b5, o5, hA5, hb5, hc5⟩ := hrd3.atZ hlm9
          subst hA4
          have Hrd3 := Lib.hid hrd3
          have Hop99 := Hop9
          obtain ⟨y9, hy9⟩ : ∃ y, y = s.fl.getD m9 0 := ⟨_, rfl⟩
          rw [← hy9] at hc4 hc5
          clear hy9
          rw [hA5]
          go_wp2_with fail
          go_roundw
          case rel => exact ⟨m9 + 1, by omega, by go_num, (by trivial)⟩
          case measure => simp [intOf]; omega
        · obtain rfl : m9 = L := by omega
          go_wp2_with fail
          go_roundw
          case rel => exact ⟨j + 1, s, _, A2, c2, by omega, by go_num, rfl, HL3, Hop9, HK9, HOk, HUp, HE9.out⟩
          case measure => simp [intOf]; omega
    · obtain rfl : j = n := by omega
      go_wp2_with fail
      go_ret
      exact ⟨rfl, HE.out⟩

end Go.Proofs.Ytkmnhapeohlooaa
