/-
  Layer 14: a directory's names in order.
-/
import Derived.Sort.OwnSorted
import Derived.Test.YtjckfbpdnpehcaaShelfK
import Derived.Test.YtjckfbpdnpehcaaDKh
namespace Go.Proofs.Ytjckfbpdnpehcaa
open Go.RowKit Go.Maps Go.WideMaps Go.Sort
set_option maxRecDepth 100000

theorem Try.infoNm : (Try.prog.info? 9).map (fun i => (i.zero, i.size, i.bytes)) = some (some (Value.string ByteArray.empty), 1, 16) := by kernel_rfl
def shNm : Shape (List UInt8) := ⟨fun x => [nm x], 1, fun _ => rfl, by
  intro x u hu
  simp only [List.mem_singleton] at hu
  subst hu
  rfl⟩
theorem shNm_all (xs : List (List UInt8)) : shNm.all xs = xs.map encStr := by
  induction xs with
  | nil => rfl
  | cons x r ih => rw [Shape.all_cons, ih]; rfl

theorem sortN_any (A : Option Addr) (c base : Nat) (e : TypeId) (xs : List (List UInt8)) (w : World) (h : OwnG shNm e w base A c xs) (hn : xs.length < 4611686018427387904) :
    Calls Try.prog 82 #[.slice A xs.length c] w fun x w' => x = .returned (.tuple #[]) ∧ OwnG shNm e w' base A c (xs.mergeSort fun x y => decide (x ≤ y)) ∧ w.grownBy w' (Value.slice A xs.length c).ownBlock := by
  have h0 := h
  rcases h.2 with ⟨hv, hl⟩ | ⟨g, cap, cur, hv, hg, hh, h1, h2, h3, h4⟩
  · injection hv with hA _ hc
    subst hA; subst hc
    have hx : xs = [] := List.eq_nil_of_length_eq_zero hl
    subst hx
    refine (AnyM.slices_Sort_string_none Try.sort82 none 0 w).mono ?_
    rintro x w' ⟨rfl, rfl⟩
    exact ⟨rfl, (by simpa using h0), ⟨rfl, rfl, rfl, Nat.le_refl _, fun _ _ _ => rfl⟩⟩
  · injection hv with hA _ hc
    subst hA; subst hc
    have hlt := (Array.getElem?_eq_some_iff.1 hh).1
    have h4' : cur.toList.take xs.length = xs.map encStr := by rw [← shNm_all xs, ← h4]; congr 1; exact (Nat.mul_one _).symm
    refine (AnyM.slices_Sort_string Try.sort82 g 0 c xs w (holds_of_block hh h4') hlt hn).mono ?_
    rintro x w' ⟨rfl, m, os, rfl⟩
    have hl : (xs.mergeSort fun x y => decide (x ≤ y)).length = xs.length := List.length_mergeSort _
    refine ⟨rfl, ?_, grownBy_sorted _⟩
    have hr := ownsRow_sorted (n := m) (os := os) (ts := xs.mergeSort fun x y => decide (x ≤ y)) hl hg hh h1 h2 (by simpa [shNm] using h3)
    unfold OwnG
    rw [hl, shNm_all]
    exact hr

theorem perm_step {d : Dir} (ha : AscD d) {left : Lit → Bool} {x : List UInt8} {q : Nat} (hl : lkp d x = some q) (hx : left (.string x) = true) :
    (((d.filter fun e => !left (.string e.1)).map fun e => e.1) ++ [x]).Perm ((d.filter fun e => !(left (.string e.1) && !(Lit.string e.1).sameKey (.string x))).map fun e => e.1) := by
  induction d with
  | nil => cases hl
  | cons e r ih =>
    obtain ⟨y, p⟩ := e
    have ha2 := List.pairwise_cons.1 ha
    by_cases h : y = x
    · subst h
      have hr : ∀ e ∈ r, e.1 ≠ y := fun e he h2 => absurd (ha2.1 e he) (by rw [h2]; exact List.lt_irrefl _)
      have e1 : (r.filter fun e => !(left (.string e.1) && !(Lit.string e.1).sameKey (.string y))) = r.filter fun e => !left (.string e.1) := List.filter_congr fun e he => by rw [sameKey_str, decide_eq_false (hr e he)]; simp
      rw [List.filter_cons, List.filter_cons, if_neg (by simp [hx]), if_pos (by rw [sameKey_str]; simp), e1]
      simp only [List.map_cons]
      exact List.perm_append_singleton _ _
    · have h2 : lkp r x = some q := by simpa [lkp, h] using hl
      have ih := ih ha2.2 h2
      rw [List.filter_cons, List.filter_cons]
      have e1 : (!(left (.string y) && !(Lit.string y).sameKey (.string x))) = !left (.string y) := by rw [sameKey_str, decide_eq_false h]; simp
      simp only [e1]
      split
      · simp only [List.map_cons, List.cons_append]; exact ih.cons y
      · exact ih
theorem sorted_dir {d : Dir} (ha : AscD d) {xs : List (List UInt8)} (h : xs.Perm (d.map fun e => e.1)) : (xs.mergeSort fun x y => decide (x ≤ y)) = d.map fun e => e.1 := by
  have hpw : (d.map fun e => e.1).Pairwise (fun x y => x < y) := by rw [List.pairwise_map]; exact ha
  have h1 := mergeSort_of_perm h
  have h2 : (d.map fun e => e.1).mergeSort leB = d.map fun e => e.1 := List.mergeSort_of_pairwise (hpw.imp fun {x y} h => by simp only [leB, decide_eq_true_eq]; exact List.le_of_lt h)
  exact h1.trans h2

theorem OwnG.lowK {T : Type} {s : Shape T} {e : TypeId} {w : World} {base c n g : Nat} {A : Option Addr} {xs : List T} (h : OwnG s e w base A c xs) (hg : g < base) : some g ≠ (Value.slice A n c).ownBlock := by
  cases A with
  | none => simp [Value.ownBlock]
  | some a =>
    have := (h.block a rfl).1
    simp only [Value.ownBlock]
    intro e
    injection e with e
    omega
theorem OwnG.newK {T : Type} {s : Shape T} {e : TypeId} {w : World} {base c n : Nat} {A : Option Addr} {xs : List T} (h : OwnG s e w base A c xs) : ∀ j, (Value.slice A n c).ownBlock = some j → base ≤ j := by
  intro j hj
  cases A with
  | none => simp [Value.ownBlock] at hj
  | some a =>
    simp only [Value.ownBlock] at hj
    injection hj with hj
    have := (h.block a rfl).1
    omega

set_option maxHeartbeats 3200000 in
theorem names_any {w : World} {b : Nat} {d : Dir} (h : DirR w b d) (hl : d.length ≤ 1000000) : Calls Try.prog 57 #[.map (some b)] w fun e w' => ∃ A c, e = .returned (.slice A d.length c) ∧ OwnG shNm 9 w' w.heap.size A c (d.map fun e => e.1) ∧ Ext w w' := by
  obtain ⟨D, hown, hD⟩ := h
  have HD := Lib.hid hD
  have HF := Lib.hid hown.lt
  clear hD
  go_enter Try.func57, Try.ntmps57
  go_wp2_with (first
    | (at_range; refine wpList_range_own _ rfl _ 84 rfl 9 94 (string_keyed Try.underlying9) Try.underlying84 ptrR b d.length _ rfl hown ?_; intro w0 hrg0 hg0 hs0)
    | go_in)
  go_frame
  go_loopw [3] (fun v wr => ∃ (left : Lit → Bool) (cnt L : Nat) (all : List (List UInt8)) (A : Option Addr) (c : Nat), v = .slice A L c ∧ all.length = L ∧ wr.ranges Try.prog 9 ptrR b w.heap.size d.length D left cnt ∧ w.grownBy wr none ∧ w.heap.size + 1 ≤ wr.heap.size ∧
      OwnG shNm 9 wr (w.heap.size + 1) A c all ∧ Hid (all.Perm ((d.filter fun e => !left (.string e.1)).map fun e => e.1)) ∧ Hid (∀ x, left (.string x) = true → (lkp d x).isSome = true)) (fun _ wr => wr.rangeLeft b w.heap.size)
  case atStart => exact ⟨_, _, 0, [], none, 0, rfl, rfl, hrg0, hg0, by omega, OwnG.nil _ _ _ _, Lib.hid (by
      have e : (d.filter fun e => !Maps.has D (.string e.1)) = [] := List.filter_eq_nil_iff.2 fun e he => by
        rw [HD.out.has, (lkp_mem HD.out.asc (x := e.1) (q := e.2)).2 he]; simp
      rw [e]; exact .nil), Lib.hid fun x hx => by rw [← HD.out.has]; exact hx⟩
  case round =>
    obtain ⟨left, cnt, L, all, A, c, rfl, hL, hrg, hgw, hsz, hrow, HI, HL⟩ := hrel
    have HLn := Lib.hid hL
    have hle : L ≤ 1000000 := by
      have h1 := HI.out.length_eq
      have h2 := List.length_filter_le (fun e : List UInt8 × Nat => !left (.string e.1)) d
      rw [List.length_map] at h1
      omega
    clear hL
    go_wp2_with (first
      | (at_next; refine wpList_dirNext rfl _ rfl b w.heap.size HD.out _ _ rfl hrg HL.out ?_ ?_)
      | go_in)
    · intro _ hl0
      have e : (d.filter fun e => !left (.string e.1)) = d := List.filter_eq_self.2 fun e _ => by rw [hl0]; rfl
      have hp := HI.out
      rw [e] at hp
      have hlen : L = d.length := by have := hp.length_eq; rw [List.length_map] at this; rw [← this]; exact HLn.out.symm
      have hsort := sortN_any A c (w.heap.size + 1) _ all wr hrow (by have := HLn.out; omega)
      rw [HLn.out, sorted_dir HD.out.asc hp] at hsort
      have Hs := Lib.hid hsort
      have HLl := Lib.hid hlen
      have Hgo := Lib.hid (OwnG.newK hrow (n := L))
      clear hsort hp hlen e
      go_wp2_with fail
      refine Hs.out.mono ?_
      rintro e w2 ⟨rfl, hown2, hg2⟩
      go_wp2
      go_ret
      rw [HLl.out] at hg2 ⊢
      refine ⟨A, c, rfl, hown2.mono (by omega), ?_⟩
      have hg3 := hgw.andThen hg2 (fun j hj => .inl (by have := Hgo.out j (by rw [HLl.out]; exact hj); omega))
      exact ⟨hg3.os, hg3.tape, hg3.output, hg3.size, fun i hi => hg3.block i hi (by simp)⟩
    · intro x q w1 cnt1 hlx hx hleft hrg1 hlt hg1 hs1 hen
      have hgw1 := hgw.andThen hg1 (fun j hj => by cases hj; exact Or.inl (Nat.le_refl _))
      have hrow1 := hrow.grown hg1 (fun a ha e => by have := (hrow.block a ha).1; injection e with e; omega)
      have HP := Lib.hid (perm_step HD.out.asc hlx hleft)
      have hz1 : w.heap.size + 1 ≤ w1.heap.size := by omega
      have HLx := Lib.hid hlx
      have hm1 : (wr.rangeLeft b w.heap.size) = cnt := hrg.left_eq
      have Hm1 := Lib.hid hm1
      have Hlt := Lib.hid hlt
      have HG := Lib.hid hgw1
      have HneI : Hid (some w.heap.size ≠ (Value.slice A L c).ownBlock) := Lib.hid (OwnG.lowK hrow1 (by omega))
      have HneF : Hid (some b ≠ (Value.slice A L c).ownBlock) := Lib.hid (OwnG.lowK hrow1 (by have := HF.out; omega))
      have Hnew : Hid (∀ j, (Value.slice A L c).ownBlock = some j → w.heap.size ≤ j) := Lib.hid (fun j hj => by have := OwnG.newK hrow1 j hj; omega)
      have HR1 := Lib.hid hrg1
      clear hlx hleft hrg hrow hgw hg1 hm1 hlt hgw1 hrg1 hs1
      have hbound : ((L + 1) + (L + 1) / 4 + 192) * 16 ≤ 281474976710656 := by omega
      go_wp2_with (at_builtin; go_loud (refine wpList_pushG (w0 := _) (base := w.heap.size + 1) shNm x 9 rfl _ _ 23 rfl _ 16 Try.underlying23 Try.infoNm rfl (by decide) (hrow1.ext ((Ext.refl _).alloc _)) L HLn.out rfl rfl (heap_alloc_new _ _) hbound (by omega) (Below.refl _ _) (by simp; omega) ?_; intro A1 c1 w3 hown3 hg3 _ hz3))
      go_roundw
      case rel =>
        have hga := (World.grownBy_alloc w1 (.cells #[nm x] 9) (Value.slice A L c).ownBlock).trans hg3
        exact ⟨_, cnt1, L + 1, all ++ [x], A1, c1, rfl, by rw [List.length_append, HLn.out]; rfl, HR1.out.kept hga HneF.out HneI.out, HG.out.andThen hga (fun j hj => .inl (Hnew.out j hj)), hz3, hown3, Lib.hid ((HI.out.append_right [x]).trans HP.out), Lib.hid fun y hy => by
          simp only [Bool.and_eq_true] at hy
          exact HL.out y hy.1⟩
      case measure =>
        have hga := (World.grownBy_alloc w1 (.cells #[nm x] 9) (Value.slice A L c).ownBlock).trans hg3
        rw [(HR1.out.kept hga HneF.out HneI.out).left_eq, Hm1.out]; exact Hlt.out

end Go.Proofs.Ytjckfbpdnpehcaa
