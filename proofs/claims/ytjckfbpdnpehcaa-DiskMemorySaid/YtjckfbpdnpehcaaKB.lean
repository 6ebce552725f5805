import Derived.Test.YtjckfbpdnpehcaaKA
import Derived.Test.YtjckfbpdnpehcaaDKo
import Derived.Test.YtjckfbpdnpehcaaDKu
import Derived.Test.YtjckfbpdnpehcaaRow14
import Derived.Lib.SmallJoins

/-
  Layer 14: the document's directory and the disk's: the same names in the same order.
-/
namespace Go.Proofs.Ytjckfbpdnpehcaa
open Go.RowKit Go.Maps Go.WideMaps

theorem bytesLess_lt : ∀ (x y : List UInt8), Op.bytesLess x y = decide (x < y)
  | _, [] => by simp [Op.bytesLess]
  | [], _ :: _ => by simp [Op.bytesLess]
  | a :: x, b :: y => by
    rw [Op.bytesLess, bytesLess_lt x y]
    rw [Bool.eq_iff_iff]
    simp [List.cons_lt_cons_iff]

/-- The fold over names that rise, the new one not among them. -/
theorem wfold_asc {x : List UInt8} {k : Int} : ∀ (l s : List (List UInt8 × Int)), l.Pairwise (fun a b => a.1 < b.1) → (∀ e ∈ l, e.1 ≠ x) →
    l.foldl (wstep x k) (s, false) = if (l.filter fun e => decide (x < e.1)) = [] then (s ++ l, false) else (s ++ (l.filter fun e => decide (e.1 < x)) ++ (x, k) :: (l.filter fun e => decide (x < e.1)), true)
  | [], s, _, _ => by simp
  | e :: r, s, ha, hn => by
    have tr : ∀ (l s : List (List UInt8 × Int)), l.foldl (wstep x k) (s, true) = (s ++ l, true) := by
      intro l
      induction l with
      | nil => intro s; simp
      | cons a t ih => intro s; rw [List.foldl_cons, show wstep x k (s, true) a = (s ++ [a], true) from by unfold wstep; simp, ih]; simp
    rw [List.foldl_cons]
    obtain ⟨h1, h2⟩ := List.pairwise_cons.1 ha
    rcases lt_tri x e.1 with h | h | h
    · have hs : wstep x k (s, false) e = (s ++ [(x, k), e], true) := by unfold wstep; rw [if_pos ⟨rfl, by rw [bytesLess_lt]; exact decide_eq_true h⟩]
      have f1 : r.filter (fun e => decide (x < e.1)) = r := List.filter_eq_self.2 fun a hr => decide_eq_true (List.lt_trans h (h1 a hr))
      have f2 : r.filter (fun e => decide (e.1 < x)) = [] := List.filter_eq_nil_iff.2 fun a hr hd => List.lt_asymm (List.lt_trans h (h1 a hr)) (of_decide_eq_true hd)
      have g1 : (e :: r).filter (fun e => decide (x < e.1)) = e :: r := by rw [List.filter_cons_of_pos (by exact decide_eq_true h), f1]
      have g2 : (e :: r).filter (fun e => decide (e.1 < x)) = [] := by rw [List.filter_cons_of_neg (by simpa using List.lt_asymm h), f2]
      rw [hs, tr, g1, g2, if_neg (by simp)]
      simp
    · exact absurd h.symm (hn e (List.mem_cons.2 (.inl rfl)))
    · have hs : wstep x k (s, false) e = (s ++ [e], false) := by unfold wstep; rw [if_neg (by rw [bytesLess_lt]; simpa using List.lt_asymm h)]
      rw [hs, wfold_asc r (s ++ [e]) h2 (fun a ha => hn a (List.mem_cons.2 (.inr ha))), List.filter_cons_of_neg (by simpa using List.lt_asymm h), List.filter_cons_of_pos (by exact decide_eq_true h)]
      split <;> simp
theorem wfilter_all {x : List UInt8} {l : List (List UInt8 × Int)} (hn : ∀ e ∈ l, e.1 ≠ x) (h : (l.filter fun e => decide (x < e.1)) = []) : l.filter (fun e => decide (e.1 < x)) = l :=
  List.filter_eq_self.2 fun e he => by
    rcases lt_tri x e.1 with q | q | q
    · exact absurd (decide_eq_true q) (by simpa using List.filter_eq_nil_iff.1 h e he)
    · exact absurd q.symm (hn e he)
    · exact decide_eq_true q
theorem withL_asc {x : List UInt8} {k : Int} {d : List (List UInt8 × Int)} (ha : d.Pairwise (fun a b => a.1 < b.1)) (hn : ∀ e ∈ d, e.1 ≠ x) : withL x k d = (d.filter fun e => decide (e.1 < x)) ++ (x, k) :: (d.filter fun e => decide (x < e.1)) := by
  have hw : wout x d = d := List.filter_eq_self.2 fun e he => by simpa using hn e he
  have h := wfold_asc (k := k) d [] ha hn
  unfold withL
  rw [hw]
  unfold wfold
  rw [h]
  split
  · rename_i h0
    rw [if_neg (by simp), h0, wfilter_all hn h0]
    simp
  · rw [if_pos rfl]
    simp

theorem find_iff {x : List UInt8} {d : List (List UInt8 × Int)} (hp : ∀ e ∈ d, 0 ≤ e.2) : 0 ≤ findE x d ↔ x ∈ d.map (·.1) := by
  unfold findE
  split
  · rename_i e hf
    refine ⟨fun _ => List.mem_map.2 ⟨e, List.mem_of_find?_eq_some hf, by simpa using List.find?_some hf⟩, fun _ => hp e (List.mem_of_find?_eq_some hf)⟩
  · rename_i hf
    refine ⟨fun h => by omega, fun h => ?_⟩
    obtain ⟨e, he, hx⟩ := List.mem_map.1 h
    exact absurd hx (by simpa using List.find?_eq_none.1 hf e he)
theorem lkp_iff {x : List UInt8} {d : Dir} : (lkp d x).isSome = true ↔ x ∈ d.map (·.1) := by
  unfold lkp
  rw [Option.isSome_map, List.find?_isSome]
  simp [List.mem_map]
theorem map_filter_fst {T : Type} (d : List (List UInt8 × T)) (p : List UInt8 → Bool) : (d.filter fun e => p e.1).map (·.1) = (d.map (·.1)).filter p := by
  induction d with
  | nil => rfl
  | cons a t ih =>
    by_cases h : p a.1
    · rw [List.filter_cons_of_pos (by exact h), List.map_cons, List.map_cons, List.filter_cons_of_pos (by exact h), ih]
    · rw [List.filter_cons_of_neg (by exact h), List.map_cons, List.filter_cons_of_neg (by exact h), ih]

/-- The document's answer is the disk's where the names are the same. -/
theorem refE_refC {x : List UInt8} {d : List (List UInt8 × Int)} {S : DS} (hp : ∀ e ∈ d, 0 ≤ e.2) (h : d.map (·.1) = S.files.map (·.1)) : refE x d = refC S x := by
  have hl : d.length = S.files.length := by have := congrArg List.length h; simpa using this
  unfold refE refC
  by_cases h2 : x ∈ d.map (·.1)
  · rw [if_pos ((find_iff hp).2 h2), if_pos (lkp_iff.2 (h ▸ h2))]
  · rw [if_neg (fun q => h2 ((find_iff hp).1 q)), if_neg (fun q => h2 (h ▸ lkp_iff.1 q)), hl]
theorem names_put {x : List UInt8} {k : Int} {q : Nat} {d : List (List UInt8 × Int)} {D : Dir} (ha : AscD D) (h : d.map (·.1) = D.map (·.1)) (hn : x ∉ d.map (·.1)) : (withL x k d).map (·.1) = (putD D x q).map (·.1) := by
  have hd : d.Pairwise (fun a b => a.1 < b.1) := by
    have h1 : (D.map (·.1)).Pairwise (· < ·) := List.pairwise_map.2 ha
    rw [← h] at h1
    exact List.pairwise_map.1 h1
  rw [withL_asc hd (fun e he hx => hn (List.mem_map.2 ⟨e, he, hx⟩))]
  unfold putD
  rw [List.map_append, List.map_append, List.map_cons, List.map_cons, map_filter_fst d (fun z => decide (z < x)), map_filter_fst d (fun z => decide (x < z)), map_filter_fst D (fun z => decide (z < x)), map_filter_fst D (fun z => decide (x < z)), h]

end Go.Proofs.Ytjckfbpdnpehcaa

/-
  Layer 14: one of the six steps, as a script has it.
-/
namespace Go.Proofs.Ytjckfbpdnpehcaa
open Go.RowKit Go.Maps Go.WideMaps
set_option maxRecDepth 100000

/-- What a script's step does. -/
def stepF (k : Int) (x y : List UInt8) (ys : List Nat) (q : Nat) : DS → Int × DS :=
  if k = 1 then doCreate x q else if k = 2 then doAppend x ys else if k = 3 then doSync x else if k = 4 then doRename x y else if k = 5 then doRemove x else doSyncDir
def stepG (k : Int) (x : List UInt8) (ys : List Nat) : DS → Int → DS := if k = 2 then doPart x ys else fun S _ => S
theorem Leaves.to {w w1 w' : World} {P P' : Nat → Prop} {dp : Nat} {S : DS} {f f' : Nat → DS → Int × DS} {g g' : DS → Int → DS} {e : Ending} (h : Leaves w1 P' dp S f g e w') (hf : f = f') (hg : g = g') (hP : ∀ b, P b → P' b) (hz : w.heap.size ≤ w1.heap.size) (hp : PFr P w w1) : Leaves w P dp S f' g' e w' := by
  subst hf
  subst hg
  obtain ⟨r, S', k, h1, h2, h3, h4, h5⟩ := h
  exact ⟨r, S', k, h1, h2.less hP, h3, Nat.le_trans hz h4, hp.trans (h5.less hP)⟩

set_option maxHeartbeats 6400000 in
theorem step_Dk {w : World} {P : Nat → Prop} {dp : Nat} {S : DS} (h : DkR w P dp S) (hs : 0 ≤ S.steps ∧ S.steps < 1000000000000000) (hc : S.chs.length < 10000000000000) (hf : Fit S 140737488355328) (k : Int) (x y : List UInt8) (hx : x.length ≤ 140737488355328) (hy : y.length ≤ 140737488355328) (N M : Int) (A : Option Addr) (m c : Nat) (ys : List Nat) (hr : Rd .u8 w A m ys) (hu : U8 ys) (hm : m ≤ 140737488355328) (u v : Value) :
    Calls Try.prog 28 #[.pointer (some ⟨dp, 0, none⟩), .agg #[.int .i64 k, nm x, nm y, .int .i64 N, .int .i64 M, .slice A m c, u, v]] w (Leaves w P dp S (stepF k x y ys) (stepG k x ys)) := by
  obtain ⟨V, hV⟩ : ∃ V, V = w.alloc (.cells #[.int .i64 k, nm x, nm y, .int .i64 N, .int .i64 M, .slice A m c, u, v] 53) := ⟨_, rfl⟩
  have hE : Ext w V := by rw [hV]; exact (Ext.refl w).alloc _
  have hrow : V.heap[w.heap.size]? = some (.cells #[.int .i64 k, nm x, nm y, .int .i64 N, .int .i64 M, .slice A m c, u, v] 53 (0, 0)) := by rw [hV]; exact heap_alloc_new w _
  have hz : w.heap.size < V.heap.size := (Array.getElem?_eq_some_iff.1 hrow).1
  have HD := Lib.hid (h.more hE)
  have HP := Lib.hid (h.pfr hE)
  have c0 : V.cell? ⟨w.heap.size, 0, none⟩ = some (.int .i64 k) := cell_of_row V _ 0 _ _ (0, 0) hrow
  have c1 : V.cell? ⟨w.heap.size, 1, none⟩ = some (nm x) := cell_of_row V _ 1 _ _ (0, 0) hrow
  have c2 : V.cell? ⟨w.heap.size, 2, none⟩ = some (nm y) := cell_of_row V _ 2 _ _ (0, 0) hrow
  have c5 : V.cell? ⟨w.heap.size, 5, none⟩ = some (.slice A m c) := cell_of_row V _ 5 _ _ (0, 0) hrow
  have HV := Lib.hid hV
  have HE := Lib.hid hE
  have HRow := Lib.hid hrow
  have Hz := Lib.hid hz
  have HR := Lib.hid (hr.ext hE)
  clear h hV hE hrow hz hr
  by_cases k1 : k = 1
  · subst k1
    have HC := Lib.hid (create_Dk HD.out hs hc x hx)
    have hV := HV.out
    subst hV
    go_enter Try.func28, Try.ntmps28
    go_wp2_with fail
    refine HC.out.mono ?_
    rintro e w' hL
    obtain ⟨r, S', q, rfl, hD, hEq, hq, hB⟩ := hL
    have L1 := Lib.hid hD
    have L2 := Lib.hid hEq
    have L3 := Lib.hid hq
    have L4 := Lib.hid hB
    clear hD hEq hq hB
    go_wp2_with fail
    go_ret
    exact Leaves.to (f := doCreate x) (g := fun S _ => S) ⟨r, S', q, rfl, L1.out, L2.out, L3.out, L4.out⟩ (by funext q; unfold stepF; rw [if_pos rfl]) (by funext S n; unfold stepG; rw [if_neg (show ¬ ((1 : Int) = 2) by decide)]) (fun b hb => .inl hb) HE.out.size HP.out
  by_cases k2 : k = 2
  · subst k2
    have CC : Hid (∀ W, Ext V W → Calls Try.prog 12 #[.slice A m c] W fun e w' => ∃ A' c', e = .returned (.slice A' m c') ∧ Own .u8 5 w' W.heap.size A' c' ys ∧ Ext W w') := Lib.hid (fun W hW => copy_any A m c ys W (HR.out.ext hW) hm)
    have HS9 : Hid (∀ W, Ext V W → W.cell? ⟨w.heap.size, 1, none⟩ = some (nm x) ∧ W.cell? ⟨w.heap.size, 5, none⟩ = some (.slice A m c)) := Lib.hid (fun W hW => by
      have hh := (hW.block _ (Array.getElem?_eq_some_iff.1 HRow.out).1).trans HRow.out
      exact ⟨cell_of_row W _ 1 _ _ (0, 0) hh, cell_of_row W _ 5 _ _ (0, 0) hh⟩)
    have Hlen := Lib.hid HR.out.len
    have HX0 := Hz
    have Hu := Lib.hid hu
    obtain ⟨hs1, hs2⟩ := hs
    have Hs : Hid (0 ≤ S.steps ∧ S.steps < 1000000000000000) := Lib.hid ⟨hs1, hs2⟩
    have Hf := Lib.hid hf
    have hV := HV.out
    subst hV
    go_enter Try.func28, Try.ntmps28
    go_wp2_with fail
    go_region_held3 (fun W => W.cell? ⟨w.heap.size, 1, none⟩ = some (nm x) ∧ W.cell? ⟨w.heap.size, 5, none⟩ = some (.slice A m c))
      (first | exact HS9.out _ (Ext.refl _).drew | exact HS9.out _ HX1.out | exact HK.out | fail)
      (first
        | (go_at_call 12; refine (CC.out _ (Ext.refl _).drew).mono ?_; rintro e v1 ⟨A1, d1, rfl, ho1, he1⟩; have HO1 := Lib.hid ho1; have HX1 := Lib.hid ((Ext.refl _).drew.trans he1); clear ho1 he1)
        | (go_at_call 11; refine (append_Dk (HD.out.more HX1.out) Hs.out x hx Hf.out (by have h1 := HO1.out.cap; rw [Hlen.out] at h1; exact h1.1) (HO1.out.rd' Hlen.out) Hu.out (fun _ a ha => .inr (HO1.out.block a ha))).mono ?_; rintro e w' ⟨r, S', q, rfl, hD, hEq, hq, hB⟩; have L1 := Lib.hid hD; have L2 := Lib.hid hEq; have L3 := Lib.hid hq; have L4 := Lib.hid hB; have HK := Lib.hid (show w'.cell? ⟨w.heap.size, 1, none⟩ = some (nm x) ∧ w'.cell? ⟨w.heap.size, 5, none⟩ = some (.slice A m c) from (by have hh := (hB.block w.heap.size (.inl (.inr ⟨Nat.le_refl _, HX0.out⟩))).trans ((HX1.out.block _ HX0.out).trans HRow.out); exact ⟨cell_of_row w' _ 1 _ _ (0, 0) hh, cell_of_row w' _ 5 _ _ (0, 0) hh⟩)); clear hD hEq hq hB)
        | fail)
    go_wp2_with fail
    go_ret
    exact Leaves.to (f := fun _ => doAppend x ys) (g := doPart x ys) (w1 := v1) ⟨r, S', q, rfl, L1.out, L2.out, L3.out, L4.out⟩ (by funext q; unfold stepF; rw [if_neg (show ¬ ((2 : Int) = 1) by decide), if_pos rfl]) (by funext S n; unfold stepG; rw [if_pos rfl]) (fun b hb => .inl (.inl hb)) (Nat.le_trans HE.out.size HX1.out.size) (HP.out.trans ⟨HX1.out.os, HX1.out.tape, HX1.out.output, HX1.out.size, fun b hb => HX1.out.block b (by obtain ⟨_, _, _, _, _, hQ⟩ := HD.out; exact (hQ b (.inl hb)).1)⟩)
  by_cases k3 : k = 3
  · subst k3
    have HC := Lib.hid (sync_Dk HD.out hs hc x hx)
    have hV := HV.out
    subst hV
    go_enter Try.func28, Try.ntmps28
    go_wp2_with fail
    refine HC.out.mono ?_
    rintro e w' hL
    obtain ⟨r, S', q, rfl, hD, hEq, hq, hB⟩ := hL
    have L1 := Lib.hid hD
    have L2 := Lib.hid hEq
    have L3 := Lib.hid hq
    have L4 := Lib.hid hB
    clear hD hEq hq hB
    go_wp2_with fail
    go_ret
    exact Leaves.to (f := fun _ => doSync x) (g := fun S _ => S) ⟨r, S', q, rfl, L1.out, L2.out, L3.out, L4.out⟩ (by funext q; unfold stepF; rw [if_neg (show ¬ ((3 : Int) = 1) by decide), if_neg (show ¬ ((3 : Int) = 2) by decide), if_pos rfl]) (by funext S n; unfold stepG; rw [if_neg (show ¬ ((3 : Int) = 2) by decide)]) (fun b hb => .inl hb) HE.out.size HP.out
  by_cases k4 : k = 4
  · subst k4
    have HC := Lib.hid (rename_Dk HD.out hs hc x y hx hy)
    have hV := HV.out
    subst hV
    go_enter Try.func28, Try.ntmps28
    go_wp2_with fail
    refine HC.out.mono ?_
    rintro e w' hL
    obtain ⟨r, S', q, rfl, hD, hEq, hq, hB⟩ := hL
    have L1 := Lib.hid hD
    have L2 := Lib.hid hEq
    have L3 := Lib.hid hq
    have L4 := Lib.hid hB
    clear hD hEq hq hB
    go_wp2_with fail
    go_ret
    exact Leaves.to (f := fun _ => doRename x y) (g := fun S _ => S) ⟨r, S', q, rfl, L1.out, L2.out, L3.out, L4.out⟩ (by funext q; unfold stepF; rw [if_neg (show ¬ ((4 : Int) = 1) by decide), if_neg (show ¬ ((4 : Int) = 2) by decide), if_neg (show ¬ ((4 : Int) = 3) by decide), if_pos rfl]) (by funext S n; unfold stepG; rw [if_neg (show ¬ ((4 : Int) = 2) by decide)]) (fun b hb => .inl hb) HE.out.size HP.out
  by_cases k5 : k = 5
  · subst k5
    have HC := Lib.hid (remove_Dk HD.out hs hc x hx)
    have hV := HV.out
    subst hV
    go_enter Try.func28, Try.ntmps28
    go_wp2_with fail
    refine HC.out.mono ?_
    rintro e w' hL
    obtain ⟨r, S', q, rfl, hD, hEq, hq, hB⟩ := hL
    have L1 := Lib.hid hD
    have L2 := Lib.hid hEq
    have L3 := Lib.hid hq
    have L4 := Lib.hid hB
    clear hD hEq hq hB
    go_wp2_with fail
    go_ret
    exact Leaves.to (f := fun _ => doRemove x) (g := fun S _ => S) ⟨r, S', q, rfl, L1.out, L2.out, L3.out, L4.out⟩ (by funext q; unfold stepF; rw [if_neg (show ¬ ((5 : Int) = 1) by decide), if_neg (show ¬ ((5 : Int) = 2) by decide), if_neg (show ¬ ((5 : Int) = 3) by decide), if_neg (show ¬ ((5 : Int) = 4) by decide), if_pos rfl]) (by funext S n; unfold stepG; rw [if_neg (show ¬ ((5 : Int) = 2) by decide)]) (fun b hb => .inl hb) HE.out.size HP.out
  have HC := Lib.hid (syncdir_Dk HD.out hs)
  have hV := HV.out
  subst hV
  go_enter Try.func28, Try.ntmps28
  go_wp2_with fail
  refine HC.out.mono ?_
  rintro e w' hL
  obtain ⟨r, S', q, rfl, hD, hEq, hq, hB⟩ := hL
  have L1 := Lib.hid hD
  have L2 := Lib.hid hEq
  have L3 := Lib.hid hq
  have L4 := Lib.hid hB
  clear hD hEq hq hB
  go_wp2_with fail
  go_ret
  exact Leaves.to (f := fun _ => doSyncDir) (g := fun S _ => S) ⟨r, S', q, rfl, L1.out, L2.out, L3.out, L4.out⟩ (by funext q; unfold stepF; rw [if_neg k1, if_neg k2, if_neg k3, if_neg k4, if_neg k5]) (by funext S n; unfold stepG; rw [if_neg k2]) (fun b hb => .inl hb) HE.out.size HP.out

end Go.Proofs.Ytjckfbpdnpehcaa

/-
  Layer 14: a second loss of power changes nothing; what a script of steps keeps.
-/
namespace Go.Proofs.Ytjckfbpdnpehcaa
open Go.RowKit Go.Maps Go.WideMaps

/-- A file of which all is safe. -/
def Whole (f : FS) : Prop := f.safe = f.data.length
theorem keepF_whole (ks : List Int) (j : Nat) (f : FS) (h : f.safe ≤ f.data.length) : Whole (keepF ks j f) := by
  have hk := keptC_le ks (j + 1) (f.data.length - f.safe)
  rw [show ((f.data.length - f.safe : Nat) : Int) = (f.data.length : Int) - (f.safe : Int) by omega] at hk
  unfold Whole keepF
  simp only [List.length_take]
  omega
theorem keepF_id {ks : List Int} {j : Nat} {f : FS} (h : Whole f) : keepF ks j f = f := by
  have hk := keptC_le ks (j + 1) 0
  have e : (f.data.length : Int) - (f.safe : Int) = ((0 : Nat) : Int) := by unfold Whole at h; omega
  unfold keepF
  rw [e]
  have e2 : (keptC ks (j + 1) ((0 : Nat) : Int)).toNat = 0 := by omega
  rw [e2, Nat.add_zero, h, List.take_length, ← h]
theorem setF_id {l : List (Nat × FS)} {q : Nat} {g : FS → FS} (h : ∀ f, (q, f) ∈ l → g f = f) : setF l q g = l := by
  unfold setF
  refine (List.map_congr_left (fun e he => ?_)).trans (List.map_id l)
  split
  · rename_i e1
    rw [h e.2 (by rw [← e1]; exact he)]
    rfl
  · rfl
theorem onFl_id {ks : List Int} {d : Dir} {fl : List (Nat × FS)} : ∀ j, (∀ i e, i < j → d[i]? = some e → ∀ f, (e.2, f) ∈ fl → Whole f) → onFl ks d fl j = fl
  | 0, _ => rfl
  | j + 1, h => by
    have ih := onFl_id (ks := ks) j (fun i e hi => h i e (by omega))
    unfold onFl
    split
    · rename_i e he
      rw [ih]
      exact setF_id fun f hf => keepF_id (h j e (by omega) he f hf)
    · exact ih
theorem onFl_le {ks : List Int} {d : Dir} {fl : List (Nat × FS)} (h : ∀ q f, (q, f) ∈ fl → f.safe ≤ f.data.length) : ∀ j q f, (q, f) ∈ onFl ks d fl j → f.safe ≤ f.data.length
  | 0, q, f, hf => h q f hf
  | j + 1, q, f, hf => by
    have ih := onFl_le (ks := ks) (d := d) h j
    unfold onFl at hf
    split at hf
    · rcases mem_setF.1 hf with ⟨_, h2⟩ | ⟨_, f0, h2, rfl⟩
      · exact ih q f h2
      · exact Nat.le_of_eq (keepF_whole ks j f0 (ih _ f0 h2))
    · exact ih q f hf
theorem onFl_whole {ks : List Int} {d : Dir} {fl : List (Nat × FS)} (h : ∀ q f, (q, f) ∈ fl → f.safe ≤ f.data.length) : ∀ j, ∀ i e, i < j → d[i]? = some e → ∀ f, (e.2, f) ∈ onFl ks d fl j → Whole f
  | 0, i, _, hi, _, _, _ => by omega
  | j + 1, i, e, hi, he, f, hf => by
    have ih := onFl_whole (ks := ks) (d := d) h j
    unfold onFl at hf
    split at hf
    · rename_i e' he'
      rcases mem_setF.1 hf with ⟨h1, h2⟩ | ⟨h1, f0, h2, rfl⟩
      · refine ih i e ?_ he f h2
        rcases Nat.lt_or_ge i j with q | q
        · exact q
        · obtain rfl : i = j := by omega
          rw [he] at he'
          injection he' with he'
          exact absurd (by rw [he']) h1
      · exact keepF_whole ks j f0 (onFl_le h j _ f0 h2)
    · rename_i he'
      refine ih i e ?_ he f hf
      rcases Nat.lt_or_ge i j with q | q
      · exact q
      · obtain rfl : i = j := by omega
        rw [he] at he'
        cases he'
theorem onFl_mem {ks : List Int} {S : DS} (h : ∀ q f, (q, f) ∈ S.fl → f.safe ≤ f.data.length) : ∀ e ∈ (doOn ks S).safe, ∀ f, (e.2, f) ∈ (doOn ks S).fl → Whole f := by
  intro e he f hf
  obtain ⟨i, hi, hx⟩ := List.getElem_of_mem he
  exact onFl_whole h _ i e hi (by show (doOn ks S).safe[i]? = some e; rw [List.getElem?_eq_getElem hi, hx]) f hf

/-- A second loss of power changes nothing. -/
theorem doOn_twice (ks again : List Int) (S : DS) (h : ∀ q f, (q, f) ∈ S.fl → f.safe ≤ f.data.length) : doOn again (doOn ks S) = doOn ks S := by
  have hk := keptC_le again 0 0
  have e2 : (keptC again 0 (((doOn ks S).chs.length : Nat) : Int)).toNat = 0 := by
    have : (doOn ks S).chs.length = 0 := rfl
    rw [this]; omega
  have hD : preD (doOn ks S) (keptC again 0 (((doOn ks S).chs.length : Nat) : Int)).toNat = (doOn ks S).safe := by rw [e2, preD_zero]
  have hfl : onFl again (doOn ks S).safe (doOn ks S).fl (doOn ks S).safe.length = (doOn ks S).fl := onFl_id _ (fun i e hi he f hf => onFl_mem h e (List.mem_of_getElem? he) f hf)
  show ({ doOn ks S with files := preD (doOn ks S) (keptC again 0 (((doOn ks S).chs.length : Nat) : Int)).toNat, safe := preD (doOn ks S) (keptC again 0 (((doOn ks S).chs.length : Nat) : Int)).toNat, chs := [], fl := onFl again (preD (doOn ks S) (keptC again 0 (((doOn ks S).chs.length : Nat) : Int)).toNat) (doOn ks S).fl (preD (doOn ks S) (keptC again 0 (((doOn ks S).chs.length : Nat) : Int)).toNat).length, on := true } : DS) = doOn ks S
  rw [hD, hfl]
  rfl
/-- Behind a loss of power all is safe. -/
theorem safe_on (ks : List Int) (S : DS) (h : ∀ q f, (q, f) ∈ S.fl → f.safe ≤ f.data.length) : safeC (doOn ks S) = filesC (doOn ks S) := by
  unfold safeC filesC
  show (doOn ks S).safe.map _ = (doOn ks S).safe.map _
  refine List.map_congr_left fun e he => ?_
  have hw : (fileD (doOn ks S) e.2).data.take (fileD (doOn ks S) e.2).safe = (fileD (doOn ks S) e.2).data := by
    unfold fileD
    cases hq : (doOn ks S).fl.find? fun x => decide (x.1 = e.2) with
    | none => rfl
    | some x =>
      have h1 : x.1 = e.2 := by simpa using List.find?_some hq
      have h2 := onFl_mem h e he x.2 (by rw [← h1]; exact List.mem_of_find?_eq_some hq)
      simp only [Option.map_some, Option.getD_some]
      rw [h2, List.take_length]
  rw [hw]

/-- What a script of n steps without fates keeps. -/
structure SI (n : Nat) (S : DS) : Prop where
  pl : Plain S
  room : S.room = 16777216
  st : 0 ≤ S.steps ∧ S.steps ≤ (n : Int)
  len : ∀ q f, (q, f) ∈ S.fl → f.data.length ≤ 140737488355328
  cnt : S.chs.length ≤ n
theorem SI.fit {n : Nat} {S : DS} (h : SI n S) : Fit S 140737488355328 := ⟨by rw [h.room]; decide, h.len⟩
theorem SI.more {n : Nat} {S : DS} (h : SI n S) : SI (n + 1) { S with steps := S.steps + 1 } := ⟨⟨h.pl.on, h.pl.plan⟩, h.room, ⟨by have := h.st; show 0 ≤ S.steps + 1; omega, by have := h.st; show S.steps + 1 ≤ _; omega⟩, h.len, by have := h.cnt; show S.chs.length ≤ _; omega⟩
theorem SI.same {n : Nat} {S S' : DS} (h : SI (n + 1) S) (h1 : S'.on = S.on) (h2 : S'.plan = S.plan) (h3 : S'.room = S.room) (h4 : S'.steps = S.steps) (h5 : ∀ q f, (q, f) ∈ S'.fl → f.data.length ≤ 140737488355328) (h6 : S'.chs.length ≤ n + 1) : SI (n + 1) S' :=
  ⟨⟨h1.trans h.pl.on, fun k => by rw [h2]; exact h.pl.plan k⟩, h3.trans h.room, by rw [h4]; exact h.st, h5, h6⟩
theorem SI.step {n : Nat} {S : DS} (h : SI n S) (hn : S.fl.Pairwise fun (a b : Nat × FS) => a.1 ≠ b.1) (k : Int) (x y : List UInt8) (ys : List Nat) (q : Nat) : SI (n + 1) (fated S (stepF k x y ys q) (stepG k x ys)).2 := by
  rw [fated_plain h.pl]
  have hm := h.more
  have hc := h.cnt
  have hc1 : (S.chs ++ [Chg.rm x]).length ≤ n + 1 := by simp; omega
  unfold stepF
  split
  · unfold doCreate
    split
    · refine hm.same rfl rfl rfl rfl (fun p f hf => ?_) (by simp; omega)
      rcases List.mem_append.1 hf with hf | hf
      · exact h.len p f hf
      · rw [List.mem_singleton] at hf
        injection hf with _ hf
        rw [hf]; exact Nat.zero_le _
    · exact hm
  split
  · unfold doAppend
    split
    · exact hm
    · rename_i p hp
      split
      · exact hm
      · rename_i hr
        refine hm.same rfl rfl rfl rfl (fun p' f hf => ?_) (by have := hm.cnt; exact this)
        rcases mem_setF.1 (show (p', f) ∈ setF S.fl p (fun f => ⟨f.data ++ ys, f.safe⟩) from hf) with ⟨_, h2⟩ | ⟨h1, f0, h2, rfl⟩
        · exact h.len p' f h2
        · subst h1
          have hu := used_ge (S := S) x (q := p') hp
          rw [lenF_mem hn h2] at hu
          have hroom := h.room
          have hr2 : ¬ S.room - (usedD S : Int) < (ys.length : Int) := hr
          show (f0.data ++ ys).length ≤ _
          rw [List.length_append]
          omega
  split
  · unfold doSync
    split
    · rename_i p hp
      refine hm.same rfl rfl rfl rfl (fun p' f hf => ?_) (by have := hm.cnt; exact this)
      rcases mem_setF.1 (show (p', f) ∈ setF S.fl p (fun f => ⟨f.data, f.data.length⟩) from hf) with ⟨_, h2⟩ | ⟨h1, f0, h2, rfl⟩
      · exact h.len p' f h2
      · exact h.len _ f0 h2
    · exact hm
  split
  · unfold doRename
    cases lkp S.files x with
    | none => exact hm
    | some p =>
      simp only
      split
      · exact hm
      · split
        · exact hm
        · exact hm.same rfl rfl rfl rfl h.len (by simp; omega)
  split
  · unfold doRemove
    split
    · exact hm.same rfl rfl rfl rfl h.len (by simp; omega)
    · exact hm
  · unfold doSyncDir
    exact hm.same rfl rfl rfl rfl h.len (Nat.zero_le _)

end Go.Proofs.Ytjckfbpdnpehcaa

/-
  Layer 14: what a loaded disk is to a script; a script's rows.
-/
namespace Go.Proofs.Ytjckfbpdnpehcaa
open Go.RowKit Go.Maps Go.WideMaps
set_option maxRecDepth 100000

theorem SI.le {n m : Nat} {S : DS} (h : SI n S) (hm : n ≤ m) : SI m S := ⟨h.pl, h.room, ⟨h.st.1, by have := h.st.2; omega⟩, h.len, by have := h.cnt; omega⟩
theorem ldS_keep {F : List (List UInt8 × List Nat)} {ids : Nat → Nat} {room : Int} (hF : ∀ x ∈ F, x.2.length ≤ 140737488355328) : ∀ j, (ldS (newS room) F ids j).room = (newS room).room ∧ (ldS (newS room) F ids j).plan = (newS room).plan ∧ (ldS (newS room) F ids j).steps = 0 ∧ (ldS (newS room) F ids j).on = true ∧ ∀ q f, (q, f) ∈ (ldS (newS room) F ids j).fl → f.data.length ≤ 140737488355328
  | 0 => ⟨rfl, rfl, rfl, rfl, fun q f hf => by cases hf⟩
  | j + 1 => by
    have ih := ldS_keep (ids := ids) (room := room) hF j
    show (match F[j]? with | some e => ldStep e (ids j) (ldS (newS room) F ids j) | none => ldS (newS room) F ids j).room = _ ∧ (match F[j]? with | some e => ldStep e (ids j) (ldS (newS room) F ids j) | none => ldS (newS room) F ids j).plan = _ ∧ (match F[j]? with | some e => ldStep e (ids j) (ldS (newS room) F ids j) | none => ldS (newS room) F ids j).steps = 0 ∧ (match F[j]? with | some e => ldStep e (ids j) (ldS (newS room) F ids j) | none => ldS (newS room) F ids j).on = true ∧ ∀ q f, (q, f) ∈ (match F[j]? with | some e => ldStep e (ids j) (ldS (newS room) F ids j) | none => ldS (newS room) F ids j).fl → _
    cases hx : F[j]? with
    | none => exact ih
    | some e =>
      refine ⟨ih.1, ih.2.1, ih.2.2.1, ih.2.2.2.1, fun q f hf => ?_⟩
      rcases List.mem_append.1 (show (q, f) ∈ (ldS (newS room) F ids j).fl ++ [(ids j, (⟨e.2, e.2.length⟩ : FS))] from hf) with hf | hf
      · exact ih.2.2.2.2 q f hf
      · rw [List.mem_singleton] at hf
        injection hf with _ hf
        rw [hf]
        exact hF e (List.mem_of_getElem? hx)
theorem SI.loaded {F : List (List UInt8 × List Nat)} {ids : Nat → Nat} {j : Nat} (hF : ∀ x ∈ F, x.2.length ≤ 140737488355328) : SI 0 { ldS (newS 16777216) F ids j with safe := (ldS (newS 16777216) F ids j).files, chs := [] } := by
  obtain ⟨h1, h2, h3, h4, h5⟩ := ldS_keep (ids := ids) (room := 16777216) hF j
  refine ⟨⟨h4, fun k => ?_⟩, h1.trans ?_, ⟨?_, ?_⟩, h5, Nat.le_refl _⟩
  · show (ldS (newS 16777216) F ids j).plan k = _
    rw [h2]; rfl
  · show min (max (16777216 : Int) 0) 16777216 = 16777216
    decide
  · show (0 : Int) ≤ (ldS (newS 16777216) F ids j).steps
    rw [h3]; decide
  · show (ldS (newS 16777216) F ids j).steps ≤ _
    rw [h3]; decide
theorem onFl_len {ks : List Int} {d : Dir} {fl : List (Nat × FS)} {m : Nat} (h : ∀ q f, (q, f) ∈ fl → f.data.length ≤ m) : ∀ j q f, (q, f) ∈ onFl ks d fl j → f.data.length ≤ m
  | 0, q, f, hf => h q f hf
  | j + 1, q, f, hf => by
    have ih := onFl_len (ks := ks) (d := d) h j
    unfold onFl at hf
    split at hf
    · rcases mem_setF.1 hf with ⟨_, h2⟩ | ⟨_, f0, h2, rfl⟩
      · exact ih q f h2
      · have := ih _ f0 h2
        unfold keepF
        simp only [List.length_take]
        omega
    · exact ih q f hf
theorem SI.on {n : Nat} {S : DS} (h : SI n S) (ks : List Int) : Fit (doOn ks S) 140737488355328 := ⟨by show 0 ≤ S.room ∧ S.room ≤ 16777216; rw [h.room]; decide, fun q f hf => onFl_len h.len _ q f hf⟩

/-- A step of a script, as it lies. -/
structure OpL where
  k : Int
  x : List UInt8
  y : List UInt8
  N : Int
  M : Int
  d : Sl
  fa : Option Addr
  fn : Nat
  fc : Nat
  ka : Option Addr
  kn : Nat
  kc : Nat
def shOp : Shape OpL := ⟨fun o => [.int .i64 o.k, nm o.x, nm o.y, .int .i64 o.N, .int .i64 o.M, o.d.v, .slice o.fa o.fn o.fc, .slice o.ka o.kn o.kc], 8, fun _ => rfl, by
  intro x u hu
  simp only [List.mem_cons, List.not_mem_nil, or_false] at hu
  rcases hu with rfl | rfl | rfl | rfl | rfl | rfl | rfl | rfl <;> rfl⟩
/-- What can be told of it. -/
structure OpOk (w : World) (o : OpL) : Prop where
  hx : o.x.length ≤ 140737488355328
  hy : o.y.length ≤ 140737488355328
  rd : Rd .u8 w o.d.A o.d.body.length o.d.body
  u8 : U8 o.d.body
  hd : o.d.body.length ≤ 140737488355328

end Go.Proofs.Ytjckfbpdnpehcaa

/-
  Layer 14: the document's copies of files, and whether two lists have the same ones.
-/
namespace Go.Proofs.Ytjckfbpdnpehcaa
open Go.RowKit Go.Maps Go.WideMaps
set_option maxRecDepth 100000

/-- 'append(row, x)' in a region that draws. -/
theorem step_pushG {T : Type} {P : Program} {w0 w : World} {ops : Array Oper} {o : Oper} {a : Act} {K : Act → World → Prop} {Q : Exit → Act → World → Prop} {E : Prop} (s : Shape T) (x : T) (e : TypeId) (hgd : o.guard = none) (v y : Operand) (t : TypeId)
    (ho : o.op = .call { callee := .builtin .append, args := #[v, y], argTypes := #[t, t] })
    (z : Value) (bytes : Nat) (ht : P.underlying t = some (.slice e)) (hi : (P.info? e).map (fun i => (i.zero, i.size, i.bytes)) = some (some z, s.sz, bytes)) (hzs : z.cells.size = s.sz) (hs0 : 0 < s.sz)
    {base : Nat} {A : Option Addr} {c : Nat} {xs : List T} (hown : OwnG s e w base A c xs) (n : Nat) (hn : xs.length = n) (hs : a.eval v = .slice A n c)
    {g : Nat} {e' : TypeId} (hy : a.eval y = .slice (some ⟨g, 0, none⟩) 1 1) (hg : w.heap[g]? = some (.cells (s.cells x).toArray e'))
    (hlen : ((n + 1) + (n + 1) / 4 + 192) * bytes ≤ 281474976710656) (hby : 0 < bytes) (hb : Below base w0 w) (hbase : base ≤ w.heap.size)
    (h : ∀ A' c' w', OwnG s e w' base A' c' (xs ++ [x]) → w.grownBy w' (Value.slice A n c).ownBlock → Below base w0 w' → base ≤ w'.heap.size → K (a.put o.dst (.slice A' (n + 1) c')) w') :
    if Region.wanted o (yielded ops a.tmps) = true then Oper.wp P o a w K Q else E := by
  have hw : Region.wanted o (yielded ops a.tmps) = true := by simp [Region.wanted, hgd]
  rw [if_pos hw]
  subst hn
  obtain ⟨i, hi0, hz, hsz, hbs⟩ := info_parts hi
  have hle : xs.length + 1 ≤ 281474976710656 := Nat.le_trans (Nat.le_trans (by omega) (Nat.le_mul_of_pos_right ((xs.length + 1) + (xs.length + 1) / 4 + 192) hby)) hlen
  refine wp_append_own_wide w v y t ho base e i z s.sz bytes ht hi0 hz hsz hbs hzs hs0 _ xs.length (s.all xs) hs hown
    ⟨g, 0, none⟩ 1 1 (s.cells x) hy (by rw [s.len, Nat.one_mul]) ?_ (s.one x) (by unfold maxLen; omega) hlen hbase ?_
  · intro j u hj
    rw [show (⟨g, 0, none⟩ : Addr).add j = ⟨g, j, none⟩ from by unfold Addr.add; split <;> simp_all]
    rw [cell_of_row w g j _ _ (0, 0) hg, ← hj]
    simp
  · intro v' w' hown' hgr _
    have hform : ∃ A' c', v' = .slice A' (xs.length + 1) c' := by
      rcases hown'.2 with ⟨_, h0⟩ | ⟨g, cap, cur, hv, _⟩
      · omega
      · exact ⟨_, _, hv⟩
    obtain ⟨A', c', rfl⟩ := hform
    have hb' : Below base w0 w' := Below.grown hb hgr hbase (fun g hg' => (hown.lt g hg').1)
    refine h A' c' w' ?_ hgr hb' ?_
    · unfold OwnG
      rw [List.length_append, Shape.all_snoc]
      exact hown'
    · have := hgr.size
      omega

set_option maxHeartbeats 6400000 in
theorem rtwinF_any {A : Option Addr} {n c : Nat} {R : List (List UInt8 × Sl)} {w : World} (hr : RdG shF w A n R) (hb : ∀ r ∈ R, Rd .u8 w r.2.A r.2.body.length r.2.body ∧ r.2.body.length ≤ 140737488355328) (hn : n ≤ 3518437208883) :
    Calls Try.prog 25 #[.slice A n c] w (FilesPost (R.map fun r => (r.1, r.2.body)) w) := by
  unfold FilesPost
  have HRd := Lib.hid hr
  have HB := Lib.hid hb
  have Hlen := Lib.hid hr.len
  obtain ⟨F, hF⟩ : ∃ F : List (List UInt8 × List Nat), F = R.map fun r => (r.1, r.2.body) := ⟨_, rfl⟩
  have hFl : F.length = n := by rw [hF, List.length_map]; exact hr.len
  rw [← hF, hFl]
  have HF := Lib.hid hF
  have HFl := Lib.hid hFl
  clear hr hb hF hFl
  have hmade := OwnG.made (base := w.heap.size) shF 47 w (Nat.le_refl _)
  have Hmade := Lib.hid hmade
  clear hmade
  go_enter Try.func25, Try.ntmps25
  go_wp2_with fail
  go_loopw [3, 4] (fun v i wr => ∃ (j : Nat) (A' : Option Addr) (c' : Nat) (R' : List (List UInt8 × Sl)), j ≤ n ∧ i = .int .i64 (j : Int) ∧ v = .slice A' j c' ∧ Hid (R'.length = j) ∧ Hid ((R'.map fun r : List UInt8 × Sl => (r.1, r.2.body)) = F.take j) ∧ Hid (OwnG shF 47 wr w.heap.size A' c' R') ∧ Hid (Txts wr w.heap.size (R'.map fun r => r.2)) ∧ Hid (Ext w wr)) (fun _ i _ => n - (intOf i).toNat)
  case atStart => exact ⟨0, _, _, [], Nat.zero_le _, rfl, rfl, Lib.hid rfl, Lib.hid rfl, Hmade, Lib.hid (Txts.nil _ _), Lib.hid ((Ext.refl w).alloc _)⟩
  case round =>
    obtain ⟨j, A', c', R', hj, rfl, rfl, HR1, HR2, HO, HT, HE⟩ := hrel
    by_cases hlt : j < n
    · obtain ⟨b, o, r, hA, hbl, hx, hcx⟩ := HRd.out.at_ hlt
      have q0 : w.cell? ⟨b, o + j * 2, none⟩ = some (nm r.1) := by simpa [shF] using hcx 0 _ rfl
      have q1 : w.cell? ⟨b, o + j * 2 + 1, none⟩ = some (.slice r.2.A r.2.body.length r.2.c) := by simpa [shF, Sl.v] using hcx 1 _ rfl
      rw [hA]
      obtain ⟨hb2, hb4⟩ := HB.out r (List.mem_of_getElem? hx)
      have HFj : Hid (F[j]? = some (r.1, r.2.body)) := Lib.hid (by rw [HF.out, List.getElem?_map, hx]; rfl)
      obtain ⟨mb, hmb⟩ : ∃ m, m = r.2.body.length := ⟨_, rfl⟩
      rw [← hmb] at q1 hb2 hb4
      have HF9 : Hid (∀ W, Ext w W → W.cell? ⟨b, o + j * 2, none⟩ = some (nm r.1) ∧ W.cell? ⟨b, o + j * 2 + 1, none⟩ = some (.slice r.2.A mb r.2.c)) := Lib.hid (fun W hW => ⟨(Below.cell hW (p := ⟨b, o + j * 2, none⟩) hbl).trans q0, (Below.cell hW (p := ⟨b, o + j * 2 + 1, none⟩) hbl).trans q1⟩)
      have CC : Hid (∀ W, Ext w W → Calls Try.prog 12 #[.slice r.2.A mb r.2.c] W fun e w' => ∃ A' c', e = .returned (.slice A' mb c') ∧ Own .u8 5 w' W.heap.size A' c' r.2.body ∧ Ext W w') := Lib.hid (fun W hW => copy_any r.2.A mb r.2.c _ W (hb2.ext hW) hb4)
      have Hmb := Lib.hid hmb
      have Hlt := Lib.hid hlt
      have hbd : ((j + 1) + (j + 1) / 4 + 192) * 40 ≤ 281474976710656 := by clear hmb hb4; omega
      clear hA hbl hx hcx q0 q1 hb2 hmb hlt
      go_wp2_with fail
      go_region_held3 (fun W => W.cell? ⟨b, o + j * 2, none⟩ = some (nm r.1) ∧ W.cell? ⟨b, o + j * 2 + 1, none⟩ = some (.slice r.2.A mb r.2.c))
        ((refine HF9.out _ ?_; first | (with_reducible exact HE.out.drew) | (with_reducible exact HX4.out) | (with_reducible exact HX4.out.alloc _) | (with_reducible exact HX5.out) | fail))
        (first
          | (go_at_call 12; refine (CC.out _ HE.out.drew).mono ?_; rintro e v4 ⟨A4, c4, rfl, ho4, he4⟩; have HO4 := Lib.hid ho4; have HX4 : Hid (Ext w v4) := Lib.hid (HE.out.drew.trans he4); have HX04 : Hid (Ext wr v4) := Lib.hid ((Ext.refl wr).drew.trans he4); clear ho4 he4)
          | (refine step_pushG (w0 := w) (base := w.heap.size) shF (r.1, ⟨A4, c4, r.2.body⟩) 47 (by rfl) _ _ 51 (by rfl) _ 40 Try.underlying51 Try.infoFl rfl (by decide) ((HO.out.ext HX04.out).ext ((Ext.refl _).alloc _)) j HR1.out (by rfl) (by rfl) (by rw [show (shF.cells (r.1, ⟨A4, c4, r.2.body⟩)).toArray = #[nm r.1, .slice A4 mb c4] from by rw [Hmb.out]; rfl]; exact heap_alloc_new _ _) hbd (by omega) (HX4.out.alloc _) (by simp; have := HX4.out.size; omega) ?_; intro A5 c5 w5 ho5 hg5 hb5 _; have HO5 := Lib.hid ho5; have HX5 : Hid (Ext w w5) := Lib.hid hb5; have HG5 := Lib.hid hg5; clear ho5 hg5 hb5)
          | fail)
      go_wp2_with fail
      go_roundw
      case rel =>
        have hga := (World.grownBy_alloc v4 (.cells #[nm r.1, .slice A4 mb c4] 47) (Value.slice A' j c').ownBlock).trans HG5.out
        have hTs : Txts v4 w.heap.size ((R' ++ [((r.1, (⟨A4, c4, r.2.body⟩ : Sl)) : List UInt8 × Sl)]).map fun r : List UInt8 × Sl => r.2) := by
          rw [List.map_append]
          exact (HT.out.ext HX04.out).snoc (s := ⟨A4, c4, r.2.body⟩) HO4.out (Nat.le_trans HE.out.size (by first | exact Nat.le_refl _ | omega)) (fun t ht p hp => Nat.lt_of_lt_of_le (HT.out.lt t ht p hp) (Nat.le_refl _))
        have hT5 : Txts w5 w.heap.size ((R' ++ [((r.1, (⟨A4, c4, r.2.body⟩ : Sl)) : List UInt8 × Sl)]).map fun r : List UInt8 × Sl => r.2) := hTs.grownF (HO.out.ext HX04.out) (by rw [HR1.out]; exact hga)
        refine ⟨j + 1, A5, c5, R' ++ [(r.1, ⟨A4, c4, r.2.body⟩)], by have := Hlt.out; omega, by go_num, rfl, Lib.hid (by rw [List.length_append, HR1.out]; rfl), Lib.hid ?_, Lib.hid HO5.out, Lib.hid hT5, Lib.hid HX5.out⟩
        rw [List.map_append, HR2.out, List.take_add_one, HFj.out]
        rfl
      case measure => simp [intOf]; have := Hlt.out; omega
    · obtain rfl : j = n := by omega
      have hfull : F.take j = F := List.take_of_length_le (by rw [HFl.out]; exact Nat.le_refl _)
      have hR2 := HR2.out
      rw [hfull] at hR2
      have HR3 := Lib.hid hR2
      clear hlt hfull hR2
      go_wp2
      go_ret
      exact ⟨A', c', R', rfl, HR3.out, HO.out, HT.out, HE.out⟩

end Go.Proofs.Ytjckfbpdnpehcaa

/-
  Layer 14: whether two lists have the same files.
-/
namespace Go.Proofs.Ytjckfbpdnpehcaa
open Go.RowKit Go.Maps Go.WideMaps
set_option maxRecDepth 100000

def flL (R : List (List UInt8 × Sl)) : List (List UInt8 × List Nat) := R.map fun r => (r.1, r.2.body)

set_option maxHeartbeats 6400000 in
theorem ralike_any {A B : Option Addr} {n m c d : Nat} {R S : List (List UInt8 × Sl)} {w : World} (hr : RdG shF w A n R) (hs : RdG shF w B m S) (hb : ∀ r ∈ R, Rd .u8 w r.2.A r.2.body.length r.2.body ∧ r.2.body.length ≤ 140737488355328) (hd : ∀ r ∈ S, Rd .u8 w r.2.A r.2.body.length r.2.body ∧ r.2.body.length ≤ 140737488355328) (hn : n ≤ 140737488355328) :
    Calls Try.prog 30 #[.slice A n c, .slice B m d] w fun e w' => e = .returned (.bool (decide (flL R = flL S))) ∧ Ext w w' := by
  obtain ⟨Z, hZ⟩ : ∃ Z, Z = decide (flL R = flL S) := ⟨_, rfl⟩
  rw [← hZ]
  have HZ := Lib.hid hZ
  have HR := Lib.hid hr
  have HS := Lib.hid hs
  have HB := Lib.hid hb
  have HD := Lib.hid hd
  have hlR : (flL R).length = n := by unfold flL; rw [List.length_map]; exact hr.len
  have hlS : (flL S).length = m := by unfold flL; rw [List.length_map]; exact hs.len
  have HlR := Lib.hid hlR
  have HlS := Lib.hid hlS
  clear hZ hr hs hb hd hlR hlS
  go_enter Try.func30, Try.ntmps30
  by_cases hnm : n = m
  · subst hnm
    go_wp2_with fail
    go_loopw [5] (fun i wr => ∃ j : Nat, j ≤ n ∧ i = .int .i64 (j : Int) ∧ Hid ((flL R).take j = (flL S).take j) ∧ Hid (Ext w wr)) (fun i _ => n - (intOf i).toNat)
    case atStart => exact ⟨0, Nat.zero_le _, rfl, Lib.hid rfl, Lib.hid (Ext.refl _)⟩
    case round =>
      obtain ⟨j, hj, rfl, HT, HE⟩ := hrel
      by_cases hlt : j < n
      · obtain ⟨b, o, r, hA, hbl, hx, hcx⟩ := HR.out.at_ hlt
        obtain ⟨b2, o2, s, hA2, hbl2, hx2, hcx2⟩ := HS.out.at_ hlt
        have q0 : w.cell? ⟨b, o + j * 2, none⟩ = some (nm r.1) := by simpa [shF] using hcx 0 _ rfl
        have q1 : w.cell? ⟨b, o + j * 2 + 1, none⟩ = some (.slice r.2.A r.2.body.length r.2.c) := by simpa [shF, Sl.v] using hcx 1 _ rfl
        have q2 : w.cell? ⟨b2, o2 + j * 2, none⟩ = some (nm s.1) := by simpa [shF] using hcx2 0 _ rfl
        have q3 : w.cell? ⟨b2, o2 + j * 2 + 1, none⟩ = some (.slice s.2.A s.2.body.length s.2.c) := by simpa [shF, Sl.v] using hcx2 1 _ rfl
        rw [hA, hA2]
        obtain ⟨hb1, hb4⟩ := HB.out r (List.mem_of_getElem? hx)
        obtain ⟨hd1, hd4⟩ := HD.out s (List.mem_of_getElem? hx2)
        have G1 : Hid ((flL R)[j]? = some (r.1, r.2.body)) := Lib.hid (by unfold flL; rw [List.getElem?_map, hx]; rfl)
        have G2 : Hid ((flL S)[j]? = some (s.1, s.2.body)) := Lib.hid (by unfold flL; rw [List.getElem?_map, hx2]; rfl)
        obtain ⟨m1, hm1⟩ : ∃ m, m = r.2.body.length := ⟨_, rfl⟩
        obtain ⟨m2, hm2⟩ : ∃ m, m = s.2.body.length := ⟨_, rfl⟩
        rw [← hm1] at q1 hb1 hb4
        rw [← hm2] at q3 hd1 hd4
        obtain ⟨Y, hY⟩ : ∃ Y, Y = decide (r.2.body = s.2.body) := ⟨_, rfl⟩
        have CS : Hid (∀ W, Ext w W → Calls Try.prog 18 #[.slice r.2.A m1 r.2.c, .slice s.2.A m2 s.2.c] W fun e w' => e = .returned (.bool Y) ∧ Ext W w') := Lib.hid (fun W hW => (same_any r.2.A s.2.A m1 r.2.c m2 s.2.c _ _ W (hb1.ext hW) (hd1.ext hW) (by omega) (by omega)).mono (by rintro e w' ⟨rfl, q, rfl⟩; exact ⟨by rw [hY], (Ext.of_drewN _ _)⟩))
        have HF9 : Hid (∀ W, Ext w W → W.cell? ⟨b, o + j * 2, none⟩ = some (nm r.1) ∧ W.cell? ⟨b, o + j * 2 + 1, none⟩ = some (.slice r.2.A m1 r.2.c) ∧ W.cell? ⟨b2, o2 + j * 2, none⟩ = some (nm s.1) ∧ W.cell? ⟨b2, o2 + j * 2 + 1, none⟩ = some (.slice s.2.A m2 s.2.c)) := Lib.hid (fun W hW => ⟨(Below.cell hW (p := ⟨b, o + j * 2, none⟩) hbl).trans q0, (Below.cell hW (p := ⟨b, o + j * 2 + 1, none⟩) hbl).trans q1, (Below.cell hW (p := ⟨b2, o2 + j * 2, none⟩) hbl2).trans q2, (Below.cell hW (p := ⟨b2, o2 + j * 2 + 1, none⟩) hbl2).trans q3⟩)
        have HY := Lib.hid hY
        have Hlt := Lib.hid hlt
        clear hA hbl hx hcx hA2 hbl2 hx2 hcx2 q0 q1 q2 q3 hb1 hd1 hb4 hd4 hm1 hm2 hY hlt
        by_cases hne : r.1 = s.1
        · have e1 : (r.1.toArray.toList == s.1.toArray.toList) = true := by rw [hne]; simp
          have Hne := Lib.hid hne
          clear hne
          go_wp2_with fail
          go_region_held3 (fun W => W.cell? ⟨b, o + j * 2, none⟩ = some (nm r.1) ∧ W.cell? ⟨b, o + j * 2 + 1, none⟩ = some (.slice r.2.A m1 r.2.c) ∧ W.cell? ⟨b2, o2 + j * 2, none⟩ = some (nm s.1) ∧ W.cell? ⟨b2, o2 + j * 2 + 1, none⟩ = some (.slice s.2.A m2 s.2.c))
            ((refine HF9.out _ ?_; first | (with_reducible exact HE.out.drew) | (with_reducible exact HX4.out) | fail))
            (first
              | (go_at_call 18; refine (CS.out _ HE.out.drew).mono ?_; rintro e v4 ⟨rfl, he4⟩; have HX4 : Hid (Ext w v4) := Lib.hid (HE.out.drew.trans he4); clear he4)
              | fail)
          rcases Y with _ | _
          · have HF : Hid (Z = false) := Lib.hid (by
              rw [HZ.out]
              refine decide_eq_false (fun h => ?_)
              have h1 := G1.out
              rw [h, G2.out] at h1
              injection h1 with h1
              injection h1 with _ h1
              exact of_decide_eq_false HY.out.symm h1.symm)
            go_wp2_with fail
            go_ret
            exact ⟨congrArg (fun z : Bool => Ending.returned (.bool z)) HF.out.symm, HX4.out⟩
          · have HT2 : Hid ((flL R).take (j + 1) = (flL S).take (j + 1)) := Lib.hid (by rw [List.take_add_one, List.take_add_one, HT.out, G1.out, G2.out, Hne.out, of_decide_eq_true HY.out.symm])
            go_wp2_with fail
            go_roundw
            case rel => exact ⟨j + 1, by have := Hlt.out; omega, by go_num, HT2, HX4⟩
            case measure => simp [intOf]; have := Hlt.out; omega
        · have e1 := neq_nm r.1 s.1 hne
          have HF : Hid (Z = false) := Lib.hid (by
            rw [HZ.out]
            refine decide_eq_false (fun h => ?_)
            have h1 := G1.out
            rw [h, G2.out] at h1
            injection h1 with h1
            injection h1 with h1 _
            exact hne h1.symm)
          clear hne
          obtain ⟨c0, c1, c2, c3⟩ := HF9.out wr HE.out
          go_wp2_with fail
          go_quiet (fail)
          go_wp2_with fail
          go_ret
          exact ⟨congrArg (fun z : Bool => Ending.returned (.bool z)) HF.out.symm, HE.out.trans (Ext.of_drewN _ _)⟩
      · obtain rfl : j = n := by omega
        have HF : Hid (Z = true) := Lib.hid (by
          rw [HZ.out]
          refine decide_eq_true ?_
          have h1 := HT.out
          rw [List.take_of_length_le (by rw [HlR.out]; exact Nat.le_refl _), List.take_of_length_le (by rw [HlS.out]; exact Nat.le_refl _)] at h1
          exact h1)
        clear hlt
        go_wp2_with fail
        go_ret
        exact ⟨congrArg (fun z : Bool => Ending.returned (.bool z)) HF.out.symm, HE.out⟩
  · have HF : Hid (Z = false) := Lib.hid (by
      rw [HZ.out]
      refine decide_eq_false (fun h => ?_)
      have h1 := congrArg List.length h
      rw [HlR.out, HlS.out] at h1
      exact hnm h1)
    have e1 : ((n : Int) == (m : Int)) = false := beq_eq_false_iff_ne.2 (by omega)
    go_wp2_with fail
    go_ret
    exact ⟨congrArg (fun z : Bool => Ending.returned (.bool z)) HF.out.symm, Ext.refl _⟩

end Go.Proofs.Ytjckfbpdnpehcaa

/-
  What is handed in, opened: lists of files, and of a script's steps.
-/
namespace Go.Proofs.Ytjckfbpdnpehcaa
open Go.ChangeShapes Go.WideShapes Go.ChangeAt Go.RowKit Go.Deep
variable {H : Type} {enc : TypeId × Value → H} {W : World}

theorem one_name {n : Nat} {v : Value} {y : DataW H × List MemPlace} (h : DataW.trod enc Try.prog W 0 (fun _ => true) true n 9 [v] = some y) (hs : SzG Try.prog 9 y.1) : ∃ x : List UInt8, v = nm x ∧ x.length ≤ 140737488355328 := by
  obtain ⟨s, e1, e2, _⟩ := DataW.trod_string Try.underlying9 h
  injection e1 with e1
  refine ⟨s.data.toList, by rw [e1], ?_⟩
  rw [e2] at hs
  have := hs s.data.toList.length (by simp [DataW.weights])
  simp [reachBytes] at this
  have e : s.data.toList.length = s.data.size := by simp
  have e9 : s.size = s.data.size := rfl
  rw [e]
  omega
theorem one_slice {n : Nat} {t e : TypeId} (ht : Try.prog.underlying t = some (.slice e)) {v : Value} {y : DataW H × List MemPlace} (h : DataW.trod enc Try.prog W 0 (fun _ => true) true n t [v] = some y) : ∃ a l c, v = .slice a l c := by
  rcases open_slice ht h with ⟨hcs, _⟩ | ⟨a, l, c, _, _, _, _, hcs, _⟩
  · injection hcs with hcs; exact ⟨none, 0, 0, hcs⟩
  · injection hcs with hcs; exact ⟨a, l, c, hcs⟩

theorem nodes2f {P : Program} {t : TypeId} {f0 f1 : Field} {fuel : Nat} {cs : List Value} {x : DataW H × List MemPlace} (hs : P.underlying t = some (.struct #[f0, f1])) (hone : oneCellFields P #[f0, f1] = true) (hC : P.cellsOf t = 2)
    (h : DataW.trod enc P W 0 (fun _ => true) true fuel t cs = some x) :
    ∃ v0 v1 y0 y1 n, cs = [v0, v1] ∧ x.1 = .agg [y0.1, y1.1] ∧ DataW.trod enc P W 0 (fun _ => true) true n f0.type [v0] = some y0 ∧ DataW.trod enc P W 0 (fun _ => true) true n f1.type [v1] = some y1 := by
  obtain ⟨xs, n, _, rfl, hl, hlen, hf⟩ := DataW.trod_struct hs h
  rw [hC] at hl
  match xs, hlen, cs, hl with
  | [y0, y1], _, [v0, v1], _ =>
    obtain ⟨o0, k0⟩ := hone_of hone 0 f0 rfl
    obtain ⟨o1, k1⟩ := hone_of hone 1 f1 rfl
    have h0 := hf 0 f0 rfl
    have h1 := hf 1 f1 rfl
    exact ⟨v0, v1, y0, y1, n, rfl, rfl, by simpa [o0, k0] using h0, by simpa [o1, k1] using h1⟩
theorem nodes8f {P : Program} {t : TypeId} {f0 f1 f2 f3 f4 f5 f6 f7 : Field} {fuel : Nat} {cs : List Value} {x : DataW H × List MemPlace} (hs : P.underlying t = some (.struct #[f0, f1, f2, f3, f4, f5, f6, f7])) (hone : oneCellFields P #[f0, f1, f2, f3, f4, f5, f6, f7] = true) (hC : P.cellsOf t = 8)
    (h : DataW.trod enc P W 0 (fun _ => true) true fuel t cs = some x) :
    ∃ v0 v1 v2 v3 v4 v5 v6 v7 y0 y1 y2 y3 y4 y5 y6 y7 n, cs = [v0, v1, v2, v3, v4, v5, v6, v7] ∧ x.1 = .agg [y0.1, y1.1, y2.1, y3.1, y4.1, y5.1, y6.1, y7.1] ∧
      DataW.trod enc P W 0 (fun _ => true) true n f0.type [v0] = some y0 ∧ DataW.trod enc P W 0 (fun _ => true) true n f1.type [v1] = some y1 ∧ DataW.trod enc P W 0 (fun _ => true) true n f2.type [v2] = some y2 ∧ DataW.trod enc P W 0 (fun _ => true) true n f3.type [v3] = some y3 ∧
      DataW.trod enc P W 0 (fun _ => true) true n f4.type [v4] = some y4 ∧ DataW.trod enc P W 0 (fun _ => true) true n f5.type [v5] = some y5 ∧ DataW.trod enc P W 0 (fun _ => true) true n f6.type [v6] = some y6 ∧ DataW.trod enc P W 0 (fun _ => true) true n f7.type [v7] = some y7 := by
  obtain ⟨xs, n, _, rfl, hl, hlen, hf⟩ := DataW.trod_struct hs h
  rw [hC] at hl
  match xs, hlen, cs, hl with
  | [y0, y1, y2, y3, y4, y5, y6, y7], _, [v0, v1, v2, v3, v4, v5, v6, v7], _ =>
    obtain ⟨o0, k0⟩ := hone_of hone 0 f0 rfl
    obtain ⟨o1, k1⟩ := hone_of hone 1 f1 rfl
    obtain ⟨o2, k2⟩ := hone_of hone 2 f2 rfl
    obtain ⟨o3, k3⟩ := hone_of hone 3 f3 rfl
    obtain ⟨o4, k4⟩ := hone_of hone 4 f4 rfl
    obtain ⟨o5, k5⟩ := hone_of hone 5 f5 rfl
    obtain ⟨o6, k6⟩ := hone_of hone 6 f6 rfl
    obtain ⟨o7, k7⟩ := hone_of hone 7 f7 rfl
    have h0 := hf 0 f0 rfl
    have h1 := hf 1 f1 rfl
    have h2 := hf 2 f2 rfl
    have h3 := hf 3 f3 rfl
    have h4 := hf 4 f4 rfl
    have h5 := hf 5 f5 rfl
    have h6 := hf 6 f6 rfl
    have h7 := hf 7 f7 rfl
    exact ⟨v0, v1, v2, v3, v4, v5, v6, v7, y0, y1, y2, y3, y4, y5, y6, y7, n, rfl, rfl, by simpa [o0, k0] using h0, by simpa [o1, k1] using h1, by simpa [o2, k2] using h2, by simpa [o3, k3] using h3, by simpa [o4, k4] using h4, by simpa [o5, k5] using h5, by simpa [o6, k6] using h6, by simpa [o7, k7] using h7⟩

set_option maxRecDepth 100000 in
/-- A list of files. -/
theorem open_filesL {a : Option Addr} {len cap : Nat} {d : DataW H} {p : List MemPlace} (h : DataW.Trod enc Try.prog W 0 (fun _ => true) true 51 (.slice a len cap) d p) (hs : SzG Try.prog 51 d) :
    ∃ xs : List (List UInt8 × Sl), RdG shF W a len xs ∧ (∀ r ∈ xs, r.1.length ≤ 140737488355328 ∧ Rd .u8 W r.2.A r.2.body.length r.2.body ∧ U8 r.2.body ∧ r.2.body.length ≤ 140737488355328) ∧ len * 40 ≤ 140737488351232 ∧ len ≤ Rows.uptoBulk d := by
  obtain ⟨fuel, hf⟩ := h
  obtain ⟨a', cap', xs, e, h1, h2, h3, h4, h5, h6⟩ := open_rowsG (k := 2) (bytes := 40) (cells := shF.cells) (Q := fun r _ => r.1.length ≤ 140737488355328 ∧ Rd .u8 W r.2.A r.2.body.length r.2.body ∧ U8 r.2.body ∧ r.2.body.length ≤ 140737488355328) (v := .slice a len cap) Try.underlying51 (by kernel_rfl) (by decide) (by kernel_rfl) (fun h hs => by
    obtain ⟨v0, v1, y0, y1, n, rfl, ex, g0, g1⟩ := nodes2f Try.underlying47 (by kernel_rfl) (by kernel_rfl) h
    rw [ex] at hs
    obtain ⟨x0, e0, l0⟩ := one_name g0 (sz_partG hs Try.underlying47 0 rfl rfl)
    obtain ⟨s1, e1, t1⟩ := open_text g1 (sz_partG hs Try.underlying47 1 rfl rfl)
    injection e1 with e1
    subst e0 e1
    exact ⟨(x0, s1), rfl, l0, t1.rd, t1.u8, t1.len⟩) hf hs
  injection e with e1 e2 e3
  subst e1 e2 e3
  exact ⟨xs, ⟨rfl, h6⟩, fun o ho => (h5 o ho).elim fun _ h => h, h3, h4⟩

set_option maxRecDepth 100000 in
/-- A script. -/
theorem open_ops14 {a : Option Addr} {len cap : Nat} {d : DataW H} {p : List MemPlace} (h : DataW.Trod enc Try.prog W 0 (fun _ => true) true 80 (.slice a len cap) d p) (hs : SzG Try.prog 80 d) :
    ∃ xs : List OpL, RdG shOp W a len xs ∧ (∀ o ∈ xs, OpOk W o) ∧ len * 128 ≤ 140737488351232 ∧ len ≤ Rows.uptoBulk d := by
  obtain ⟨fuel, hf⟩ := h
  obtain ⟨a', cap', xs, e, h1, h2, h3, h4, h5, h6⟩ := open_rowsG (k := 8) (bytes := 128) (cells := shOp.cells) (Q := fun o _ => OpOk W o) (v := .slice a len cap) Try.underlying80 (by kernel_rfl) (by decide) (by kernel_rfl) (fun h hs => by
    obtain ⟨v0, v1, v2, v3, v4, v5, v6, v7, y0, y1, y2, y3, y4, y5, y6, y7, n, rfl, ex, g0, g1, g2, g3, g4, g5, g6, g7⟩ := nodes8f Try.underlying53 (by kernel_rfl) (by kernel_rfl) h
    rw [ex] at hs
    obtain ⟨k0, e0, _, _⟩ := DataW.trod_int Try.underlying3 g0
    obtain ⟨x1, e1, l1⟩ := one_name g1 (sz_partG hs Try.underlying53 1 rfl rfl)
    obtain ⟨x2, e2, l2⟩ := one_name g2 (sz_partG hs Try.underlying53 2 rfl rfl)
    obtain ⟨k3, e3, _, _⟩ := DataW.trod_int Try.underlying3 g3
    obtain ⟨k4, e4, _, _⟩ := DataW.trod_int Try.underlying3 g4
    obtain ⟨s5, e5, t5⟩ := open_text g5 (sz_partG hs Try.underlying53 5 rfl rfl)
    obtain ⟨fa, fn, fc, e6⟩ := one_slice Try.underlying43 g6
    obtain ⟨ka, kn, kc, e7⟩ := one_slice Try.underlying24 g7
    injection e0 with e0
    injection e3 with e3
    injection e4 with e4
    injection e5 with e5
    subst e0 e1 e2 e3 e4 e5 e6 e7
    exact ⟨⟨k0, x1, x2, k3, k4, s5, fa, fn, fc, ka, kn, kc⟩, rfl, ⟨l1, l2, t5.rd, t5.u8, t5.len⟩⟩) hf hs
  injection e with e1 e2 e3
  subst e1 e2 e3
  exact ⟨xs, ⟨rfl, h6⟩, fun o ho => (h5 o ho).elim fun _ h => h, h3, h4⟩

end Go.Proofs.Ytjckfbpdnpehcaa

/-
  What is handed in, opened: one of a script's steps.
-/
namespace Go.Proofs.Ytjckfbpdnpehcaa
open Go.ChangeShapes Go.WideShapes Go.ChangeAt Go.RowKit Go.Deep
variable {H : Type} {enc : TypeId × Value → H} {W : World}

set_option maxRecDepth 100000 in
/-- One step. -/
theorem open_op14 {r : Reach} {b0 : Nat} {v : Value} {d : DataW H} {p : List MemPlace} (hv : Value.okWide Try.prog W r b0 53 v) (h : DataW.Trod enc Try.prog W 0 (fun _ => true) true 53 v d p) (hs : SzG Try.prog 53 d) :
    ∃ o : OpL, v = .agg #[.int .i64 o.k, nm o.x, nm o.y, .int .i64 o.N, .int .i64 o.M, o.d.v, .slice o.fa o.fn o.fc, .slice o.ka o.kn o.kc] ∧ OpOk W o := by
  obtain ⟨cs, rfl, hsz⟩ := okWide_struct Try.underlying53 hv
  obtain ⟨fuel, hf⟩ := h
  obtain ⟨v0, v1, v2, v3, v4, v5, v6, v7, y0, y1, y2, y3, y4, y5, y6, y7, n, e, ex, g0, g1, g2, g3, g4, g5, g6, g7⟩ := nodes8f Try.underlying53 (by kernel_rfl) (by kernel_rfl) hf
  have e : cs.toList = [v0, v1, v2, v3, v4, v5, v6, v7] := e
  have ec : cs = #[v0, v1, v2, v3, v4, v5, v6, v7] := by cases cs; simp_all
  simp only at ex
  rw [ex] at hs
  obtain ⟨k0, e0, _, _⟩ := DataW.trod_int Try.underlying3 g0
  obtain ⟨x1, e1, l1⟩ := one_name g1 (sz_partG hs Try.underlying53 1 rfl rfl)
  obtain ⟨x2, e2, l2⟩ := one_name g2 (sz_partG hs Try.underlying53 2 rfl rfl)
  obtain ⟨k3, e3, _, _⟩ := DataW.trod_int Try.underlying3 g3
  obtain ⟨k4, e4, _, _⟩ := DataW.trod_int Try.underlying3 g4
  obtain ⟨s5, e5, t5⟩ := open_text g5 (sz_partG hs Try.underlying53 5 rfl rfl)
  obtain ⟨fa, fn, fc, e6⟩ := one_slice Try.underlying43 g6
  obtain ⟨ka, kn, kc, e7⟩ := one_slice Try.underlying24 g7
  injection e0 with e0
  injection e3 with e3
  injection e4 with e4
  injection e5 with e5
  subst e0 e1 e2 e3 e4 e5 e6 e7
  exact ⟨⟨k0, x1, x2, k3, k4, s5, fa, fn, fc, ka, kn, kc⟩, by rw [ec], ⟨l1, l2, t5.rd, t5.u8, t5.len⟩⟩

set_option maxRecDepth 100000 in
theorem open_name {r : Reach} {b0 : Nat} {v : Value} {d : DataW H} {p : List MemPlace} (hv : Value.okWide Try.prog W r b0 9 v) (h : DataW.Trod enc Try.prog W 0 (fun _ => true) true 9 v d p) (hs : SzG Try.prog 9 d) : ∃ x : List UInt8, v = nm x ∧ x.length ≤ 140737488355328 := by
  obtain ⟨s, rfl, _⟩ := Go.ChangeMaps.open_string Try.underlying9 hv h
  obtain ⟨fuel, hf⟩ := h
  obtain ⟨x, e, hx⟩ := one_name (v := .string s) hf hs
  exact ⟨x, e, hx⟩

end Go.Proofs.Ytjckfbpdnpehcaa
