import Derived.Test.YtkmnhapeohlooaaG10
import Derived.Test.YtkmnhapeohlooaaG8

/-
  Layer 18: the reference: Height.
-/
namespace Go.Proofs.Ytkmnhapeohlooaa
open Go.RowKit
set_option maxRecDepth 100000

/-- The greatest of the first j heights, at least 1, at most 12. -/
def hmA (xs : List Int) : Nat → Int
  | 0 => 1
  | j + 1 => max (hmA xs j) (min (xs.getD j 0) 12)
theorem hmA_ge (xs : List Int) : ∀ j, 1 ≤ hmA xs j
  | 0 => Int.le_refl _
  | j + 1 => by have := hmA_ge xs j; unfold hmA; omega
theorem hmA_mono (xs : List Int) {i : Nat} : ∀ {j : Nat}, i ≤ j → hmA xs i ≤ hmA xs j
  | 0, h => by rw [Nat.le_zero.1 h]; exact Int.le_refl _
  | j + 1, h => by
    rcases Nat.lt_or_ge i (j + 1) with q | q
    · have := hmA_mono xs (show i ≤ j by omega)
      show hmA xs i ≤ max (hmA xs j) _
      omega
    · rw [Nat.le_antisymm h q]; exact Int.le_refl _
theorem hmA_at (xs : List Int) {i j : Nat} (h : i < j) : clampH (xs.getD i 0) ≤ hmA xs j := by
  have h1 : clampH (xs.getD i 0) ≤ hmA xs (i + 1) := by
    show _ ≤ max (hmA xs i) _
    have := hmA_ge xs i
    unfold clampH
    omega
  exact Int.le_trans h1 (hmA_mono xs h)
theorem hts_at {xs : List Int} (h0 : xs.length ≠ 0) {k : Nat} (hk : k < xs.length) : (hts xs).getD k 0 = clampH (xs.getD k 0) := by
  unfold hts
  rw [if_neg h0, List.getD, List.getD, List.getElem?_map, List.getElem?_eq_getElem hk]
  rfl
theorem hts_len {xs : List Int} (h0 : xs.length ≠ 0) : (hts xs).length = xs.length := by unfold hts; rw [if_neg h0, List.length_map]
/-- The height of the list is the document's. -/
theorem hm_is {xs : List Int} (h0 : xs.length ≠ 0) : ∀ n, (Hm (hts xs) (n + 1) : Int) = hmA xs (min (n + 1) xs.length)
  | 0 => by
    have hp : 0 < xs.length := by omega
    show ((max 0 ((hts xs).getD (0 % (hts xs).length) 0).toNat : Nat) : Int) = _
    rw [Nat.zero_mod, hts_at h0 hp, show min (0 + 1) xs.length = 0 + 1 by omega]
    show _ = max (1 : Int) (min (xs.getD 0 0) 12)
    unfold clampH
    omega
  | n + 1 => by
    have ih := hm_is h0 n
    have hp : 0 < xs.length := by omega
    have hl : (n + 1) % xs.length < xs.length := Nat.mod_lt _ hp
    show ((max (Hm (hts xs) (n + 1)) ((hts xs).getD ((n + 1) % (hts xs).length) 0).toNat : Nat) : Int) = _
    rw [hts_len h0, hts_at h0 hl]
    have hc := clamp_ok (xs.getD ((n + 1) % xs.length) 0)
    rcases Nat.lt_or_ge (n + 1) xs.length with q | q
    · rw [show min (n + 1 + 1) xs.length = n + 1 + 1 by omega]
      rw [show min (n + 1) xs.length = n + 1 by omega] at ih
      rw [Nat.mod_eq_of_lt q] at hc ⊢
      show _ = max (hmA xs (n + 1)) (min (xs.getD (n + 1) 0) 12)
      have := hmA_ge xs (n + 1)
      unfold clampH at hc ⊢
      omega
    · rw [show min (n + 1 + 1) xs.length = xs.length by omega]
      rw [show min (n + 1) xs.length = xs.length by omega] at ih
      have := hmA_at xs hl
      omega
theorem hm_none {xs : List Int} (h0 : xs.length = 0) : ∀ n, Hm (hts xs) (n + 1) = 1
  | 0 => by
    obtain rfl := List.eq_nil_of_length_eq_zero h0
    rfl
  | n + 1 => by
    have ih := hm_none h0 n
    obtain rfl := List.eq_nil_of_length_eq_zero h0
    show max (Hm (hts []) (n + 1)) _ = 1
    rw [ih]
    show max 1 ((([1] : List Int).getD ((n + 1) % 1) 0).toNat) = 1
    rw [Nat.mod_one]
    rfl

set_option maxHeartbeats 1600000 in
theorem rheight_any (A : Option Addr) (n c : Nat) (xs : List Int) (k : Nat) (w : World) (hx : RdG shZ w A n xs) (hn : n ≤ 281474976710656) (hk : k ≤ 281474976710656) :
    Calls Try.prog 36 #[.slice A n c, .int .i64 (k : Int)] w fun e w' => e = .returned (.int .i64 (Hm (hts xs) k : Int)) ∧ w = w' := by
  have hl : xs.length = n := hx.len
  have Hl := Lib.hid hl
  by_cases k0 : k = 0
  · subst k0
    clear hl
    go_enter Try.func36, Try.ntmps36
    go_wp2_with fail
    go_ret
    exact ⟨rfl, rfl⟩
  obtain ⟨R, hR⟩ : ∃ R, R = (Hm (hts xs) k : Int) := ⟨_, rfl⟩
  have hfin : hmA xs (min k n) = R := by
    obtain ⟨k', rfl⟩ : ∃ k', k = k' + 1 := ⟨k - 1, by omega⟩
    rw [hR]
    by_cases h0 : xs.length = 0
    · rw [hm_none h0, ← hl, h0, Nat.min_zero]; rfl
    · rw [hm_is h0, hl]
  have Hfin := Lib.hid hfin
  rw [← hR]
  have kI : ((k : Int) == 0) = false := by simp; omega
  clear hl hR hfin
  go_enter Try.func36, Try.ntmps36
  go_wp2_with fail
  go_loopw [5, 6] (fun v i wr => ∃ j : Nat, j ≤ min k n ∧ i = .int .i64 j ∧ v = .int .i64 (hmA xs j) ∧ wr = w) (fun _ i _ => k - (intOf i).toNat)
  case atStart => exact ⟨0, Nat.zero_le _, rfl, rfl, rfl⟩
  case round =>
    obtain ⟨j, hj, rfl, rfl, rfl⟩ := hrel
    by_cases hlt : j < min k n
    · have hjk : (j : Int) < (k : Int) := by omega
      have hjn : (j : Int) < (n : Int) := by omega
      obtain ⟨b, o, rfl, hb, hc⟩ := hx.atZ (show j < n by omega)
      have HN : Hid (hmA xs (j + 1) = max (hmA xs j) (min (xs.getD j 0) 12)) := Lib.hid rfl
      obtain ⟨x, hxx⟩ : ∃ x, x = xs.getD j 0 := ⟨_, rfl⟩
      obtain ⟨M, hM⟩ : ∃ M, M = hmA xs j := ⟨_, rfl⟩
      rw [← hxx, ← hM] at HN
      rw [← hxx] at hc
      rw [← hM]
      have hjk2 : j < k := by omega
      clear hxx hM hlt
      by_cases q1 : (12 : Int) < x
      · by_cases q2 : M < 12
        · have e : max M (min x 12) = 12 := by omega
          have HN := Lib.hid (HN.out.trans e)
          clear e
          go_wp2_with fail
          go_roundw
          case rel => exact ⟨j + 1, by omega, by go_num, by rw [HN.out], by trivial⟩
          case measure => simp [intOf]; omega
        · have e : max M (min x 12) = M := by omega
          have HN := Lib.hid (HN.out.trans e)
          clear e
          go_wp2_with fail
          go_roundw
          case rel => exact ⟨j + 1, by omega, by go_num, by rw [HN.out], by trivial⟩
          case measure => simp [intOf]; omega
      · by_cases q2 : M < x
        · have e : max M (min x 12) = x := by omega
          have HN := Lib.hid (HN.out.trans e)
          clear e
          go_wp2_with fail
          go_roundw
          case rel => exact ⟨j + 1, by omega, by go_num, by rw [HN.out], by trivial⟩
          case measure => simp [intOf]; omega
        · have e : max M (min x 12) = M := by omega
          have HN := Lib.hid (HN.out.trans e)
          clear e
          go_wp2_with fail
          go_roundw
          case rel => exact ⟨j + 1, by omega, by go_num, by rw [HN.out], by trivial⟩
          case measure => simp [intOf]; omega
    · have hje : j = min k n := by omega
      have HM : Hid (hmA xs j = R) := Lib.hid (by rw [hje]; exact Hfin.out)
      rw [HM.out]
      by_cases q : j < k
      · have hjk : (j : Int) < (k : Int) := by omega
        have hjn : ¬ (j : Int) < (n : Int) := by omega
        clear hje hlt
        go_wp2_with fail
        go_ret
        exact ⟨rfl, rfl⟩
      · have hjk : ¬ (j : Int) < (k : Int) := by omega
        clear hje hlt
        go_wp2_with fail
        go_ret
        exact ⟨rfl, rfl⟩

end Go.Proofs.Ytkmnhapeohlooaa

/-
  Layer 18: the reference: Range.
-/
namespace Go.Proofs.Ytkmnhapeohlooaa
open Go.RowKit
set_option maxRecDepth 100000

def inR (lo hi k : List Nat) : Bool := decide (0 ≤ ordT k lo) && !(stopB hi k)
def fK (L : List (List Nat)) (lo hi : List Nat) : Nat → List (List Nat)
  | 0 => []
  | j + 1 => if inR lo hi (L.getD j []) = true then fK L lo hi j ++ [L.getD j []] else fK L lo hi j
def fV (L : List (List Nat)) (V : List Int) (lo hi : List Nat) : Nat → List Int
  | 0 => []
  | j + 1 => if inR lo hi (L.getD j []) = true then fV L V lo hi j ++ [V.getD j 0] else fV L V lo hi j

/-- Two lists that are written, beside a box. -/
structure QS (w W : World) (cur : Array Value) (A' : Option Addr) (c' : Nat) (ts : List Sl) (A'' : Option Addr) (c'' : Nat) (vs : List Int) : Prop where
  own : OwnT W w.heap.size A' c' ts
  tx : Txts W w.heap.size ts
  vs : OwnG shZ 3 W w.heap.size A'' c'' vs
  ext : Ext w W
  box : W.heap[w.heap.size]? = some (.cells cur 51 (0, 0))

section
variable {w W W' : World} {cur : Array Value} {A' A'' : Option Addr} {c' c'' : Nat} {ts : List Sl} {vs : List Int}
theorem QS.ext' (h : QS w W cur A' c' ts A'' c'' vs) (he : Ext W W') : QS w W' cur A' c' ts A'' c'' vs :=
  ⟨h.own.ext he, h.tx.ext he, h.vs.ext he, h.ext.trans he, (he.block _ (Array.getElem?_eq_some_iff.1 h.box).1).trans h.box⟩
theorem ownB_some {A : Option Addr} {n c r : Nat} (h : (Value.slice A n c).ownBlock = some r) : ∃ a, A = some a ∧ a.block = r := by
  cases A with
  | none => simp [Value.ownBlock] at h
  | some a => simp only [Value.ownBlock] at h; injection h with h; exact ⟨a, rfl, h⟩
theorem QS.pushK (h : QS w W cur A' c' ts A'' c'' vs) {s : Sl} {b2 : Nat} (hs : Own .u8 5 W b2 s.A s.c s.body) (hb2 : w.heap.size ≤ b2) (hlt : ∀ t ∈ ts, ∀ p, t.A = some p → p.block < b2) {A4 : Option Addr} {c4 : Nat} (ho : OwnT W' w.heap.size A4 c4 (ts ++ [s])) (hg : W.grownBy W' (Value.slice A' ts.length c').ownBlock) (hE : Ext w W') : QS w W' cur A4 c4 (ts ++ [s]) A'' c'' vs := by
  refine ⟨ho, (h.tx.snoc hs hb2 hlt).grown h.own hg, h.vs.grown hg (fun a ha e => ?_), hE, (hg.block _ (Array.getElem?_eq_some_iff.1 h.box).1 (fun e => ?_)).trans h.box⟩
  · obtain ⟨a2, h1, h2⟩ := ownB_some e.symm
    obtain ⟨cu, q1⟩ := h.vs.cellsAt a ha
    obtain ⟨cu2, q2⟩ := h.own.cellsAt a2 h1
    rw [h2] at q2
    exact two_ne (by decide) q1 q2
  · obtain ⟨a2, h1, h2⟩ := ownB_some e.symm
    obtain ⟨cu2, q2⟩ := h.own.cellsAt a2 h1
    rw [h2] at q2
    exact two_ne (by decide) h.box q2
theorem QS.pushV (h : QS w W cur A' c' ts A'' c'' vs) {x : Int} {A4 : Option Addr} {c4 : Nat} (ho : OwnG shZ 3 W' w.heap.size A4 c4 (vs ++ [x])) (hg : W.grownBy W' (Value.slice A'' vs.length c'').ownBlock) (hE : Ext w W') : QS w W' cur A' c' ts A4 c4 (vs ++ [x]) := by
  refine ⟨h.own.grown hg (fun a ha e => ?_), h.tx.grownN hg (fun r e cu fr q => ?_), ho, hE, (hg.block _ (Array.getElem?_eq_some_iff.1 h.box).1 (fun e => ?_)).trans h.box⟩
  · obtain ⟨a2, h1, h2⟩ := ownB_some e.symm
    obtain ⟨cu, q1⟩ := h.own.cellsAt a ha
    obtain ⟨cu2, q2⟩ := h.vs.cellsAt a2 h1
    rw [h2] at q2
    exact two_ne (by decide) q1 q2
  · obtain ⟨a2, h1, h2⟩ := ownB_some e
    obtain ⟨cu2, q2⟩ := h.vs.cellsAt a2 h1
    rw [h2] at q2
    exact two_ne (by decide) q q2
  · obtain ⟨a2, h1, h2⟩ := ownB_some e.symm
    obtain ⟨cu2, q2⟩ := h.vs.cellsAt a2 h1
    rw [h2] at q2
    exact two_ne (by decide) h.box q2
end

end Go.Proofs.Ytkmnhapeohlooaa

/-
  Layer 18: the reference: Range, walked.
-/
namespace Go.Proofs.Ytkmnhapeohlooaa
open Go.RowKit
set_option maxRecDepth 100000

set_option maxHeartbeats 6400000 in
theorem rrange_any (Ak : Option Addr) (n ck : Nat) (Av : Option Addr) (cv : Nat) (ss : List Sl) (V : List Int) (A : Option Addr) (m c : Nat) (lo : List Nat) (Ah : Option Addr) (mh ch : Nat) (hi : List Nat) (w : World) (hk : RdL w Ak n ss) (hv : RdG shZ w Av n V) (hs : ∀ s ∈ ss, Rd .u8 w s.A s.body.length s.body ∧ s.body.length ≤ 140737488355328) (hn : n ≤ 1048576) (ht : Rd .u8 w A m lo) (hm : m ≤ 140737488355328) (hth : Rd .u8 w Ah mh hi) (hmh : mh ≤ 140737488355328) :
    Calls Try.prog 72 #[.agg #[.slice Ak n ck, .slice Av n cv], .slice A m c, .slice Ah mh ch] w fun e w' => ∃ A' c' ts A'' c'', e = .returned (.tuple #[.slice A' ts.length c', .slice A'' ts.length c'']) ∧ bodies ts = fK (bodies ss) lo hi n ∧ OwnT w' w.heap.size A' c' ts ∧ Txts w' w.heap.size ts ∧ OwnG shZ 3 w' w.heap.size A'' c'' (fV (bodies ss) V lo hi n) ∧ (fV (bodies ss) V lo hi n).length = ts.length ∧ Ext w w' := by
  have Hk := Lib.hid hk
  have Hv := Lib.hid hv
  have Hs := Lib.hid hs
  have Ht := Lib.hid ht
  have Hth := Lib.hid hth
  have Hhl := Lib.hid hth.len
  have hb1 := heap_alloc_new w (.cells #[.slice Ak n ck, .slice Av n cv] 51)
  have hq0 : QS w (((w.alloc (.cells #[.slice Ak n ck, .slice Av n cv] 51)).alloc (.cells #[] 52)).alloc (.cells #[] 3)) #[.slice Ak n ck, .slice Av n cv] (some ⟨w.heap.size + 1, 0, none⟩) 0 [] (some ⟨w.heap.size + 1 + 1, 0, none⟩) 0 [] := by
    have o1 := OwnG.made (base := w.heap.size) shS 52 (w.alloc (.cells #[.slice Ak n ck, .slice Av n cv] 51)) (by simp)
    have o2 := OwnG.made (base := w.heap.size) shZ 3 ((w.alloc (.cells #[.slice Ak n ck, .slice Av n cv] 51)).alloc (.cells #[] 52)) (by simp; omega)
    rw [World.size_alloc] at o1
    rw [World.size_alloc, World.size_alloc] at o2
    exact ⟨o1.ext ((Ext.refl _).alloc _), Txts.nil _ _, o2, (((Ext.refl w).alloc _).alloc _).alloc _, (Below.heap_alloc _ _ _ (by simp; omega)).trans ((Below.heap_alloc _ _ _ (by simp)).trans hb1)⟩
  have HQ0 := Lib.hid hq0
  clear hk hv hs ht hth hb1 hq0
  go_enter Try.func72, Try.ntmps72
  go_wp2_with fail
  go_loopw [8, 9, 10] (fun kv vv i wr => ∃ (j p : Nat) (A' : Option Addr) (c' : Nat) (A'' : Option Addr) (c'' : Nat) (ts : List Sl) (vs : List Int), j ≤ n ∧ i = .int .i64 j ∧ kv = .slice A' p c' ∧ vv = .slice A'' p c'' ∧ ts.length = p ∧ vs.length = p ∧ Hid (QS w wr #[.slice Ak n ck, .slice Av n cv] A' c' ts A'' c'' vs) ∧ Hid (bodies ts = fK (bodies ss) lo hi j) ∧ Hid (vs = fV (bodies ss) V lo hi j)) (fun _ _ i _ => n - (intOf i).toNat)
  case atStart => exact ⟨0, 0, _, _, _, _, [], [], Nat.zero_le _, rfl, rfl, rfl, rfl, rfl, HQ0, Lib.hid rfl, Lib.hid rfl⟩
  case round =>
    clear HQ0
    obtain ⟨j, p, A', c', A'', c'', ts, vs, hj, rfl, rfl, rfl, htl, hvl, HQ, HB1, HB2⟩ := hrel
    have HB := Lib.hid (⟨HB1.out, HB2.out⟩ : bodies ts = fK (bodies ss) lo hi j ∧ vs = fV (bodies ss) V lo hi j)
    clear HB1 HB2
    have c0 := cell_of_row wr w.heap.size 0 _ _ (0, 0) HQ.out.box
    by_cases hlt : j < n
    · have hpj : p ≤ j := by
        have : ∀ j, (fK (bodies ss) lo hi j).length ≤ j := by
          intro j
          induction j with
          | zero => exact Nat.le_refl _
          | succ j ih => unfold fK; split <;> (try rw [List.length_append, List.length_singleton]) <;> omega
        have h1 := this j
        rw [← HB.out.1, bodies_len, htl] at h1
        exact h1
      obtain ⟨b, o, s, eA, hf, hc⟩ := (Hk.out.ext HQ.out.ext).at_ hlt
      subst eA
      have hbw : b < wr.heap.size := World.block_lt_of_cell? wr _ hc
      obtain ⟨q1, q2⟩ := Hs.out s (List.mem_of_getElem? hf)
      have HL := Lib.hid (show (bodies ss).getD j [] = s.body from bodies_get hf)
      have CL := Lib.hid (fun W (hW : Ext w W) => order_any s.A A s.body.length s.c m c s.body lo W (q1.ext hW) (Ht.out.ext hW) q2 hm)
      have CH := Lib.hid (fun W (hW : Ext w W) => order_any s.A Ah s.body.length s.c mh ch s.body hi W (q1.ext hW) (Hth.out.ext hW) q2 hmh)
      obtain ⟨sA, sc, sb⟩ := s
      simp only at q1 q2 HL CL CH hc
      obtain ⟨sn, hsn⟩ : ∃ sn, sn = sb.length := ⟨_, rfl⟩
      have Hsn := Lib.hid hsn
      rw [← hsn] at q1 q2 CL CH hc
      have q1 := Lib.hid q1
      obtain ⟨xv, hxv⟩ : ∃ xv, xv = V.getD j 0 := ⟨_, rfl⟩
      have Hxv := Lib.hid hxv
      obtain ⟨OL, hOL⟩ : ∃ O, O = ordT sb lo := ⟨_, rfl⟩
      obtain ⟨OH, hOH⟩ : ∃ O, O = ordT sb hi := ⟨_, rfl⟩
      rw [← hOL] at CL
      rw [← hOH] at CH
      have HOL := Lib.hid hOL
      have HOH := Lib.hid hOH
      have hji : (j : Int) < (n : Int) := by omega
      have C1 := Lib.hid (CL.out wr HQ.out.ext)
      have HYN : Hid ((inR lo hi sb = true → fK (bodies ss) lo hi (j + 1) = fK (bodies ss) lo hi j ++ [sb] ∧ fV (bodies ss) V lo hi (j + 1) = fV (bodies ss) V lo hi j ++ [xv]) ∧ (inR lo hi sb = false → fK (bodies ss) lo hi (j + 1) = fK (bodies ss) lo hi j ∧ fV (bodies ss) V lo hi (j + 1) = fV (bodies ss) V lo hi j)) := Lib.hid (by
        refine ⟨fun h => ?_, fun h => ?_⟩
        · show (if inR lo hi ((bodies ss).getD j []) = true then _ else _) = _ ∧ (if inR lo hi ((bodies ss).getD j []) = true then _ else _) = _
          rw [HL.out, if_pos h, if_pos h, Hxv.out]
          exact ⟨rfl, rfl⟩
        · show (if inR lo hi ((bodies ss).getD j []) = true then _ else _) = _ ∧ (if inR lo hi ((bodies ss).getD j []) = true then _ else _) = _
          rw [HL.out, if_neg (by rw [h]; decide), if_neg (by rw [h]; decide)]
          exact ⟨rfl, rfl⟩)
      clear hsn hxv hOL hOH hf
      by_cases g1 : 0 ≤ OL
      · by_cases g2 : mh = 0
        · have HYes := Lib.hid (HYN.out.1 (by unfold inR stopB; rw [← HOL.out, decide_eq_true g1, Hhl.out, g2]; rfl))
          have gI : ((mh : Int) == 0) = true := by simp; omega
          clear g2
          go_wp2_with fail
          refine C1.out.mono ?_
          rintro e W5 ⟨rfl, q5, hw5⟩
          have H5 := Lib.hid (show Ext wr W5 from by rw [hw5]; exact (Ext.refl wr).drewN q5)
          clear hw5
          have HQ5 := Lib.hid (HQ.out.ext' H5.out)
          have d5 := cell_of_row W5 w.heap.size 0 _ _ (0, 0) HQ5.out.box
          have hc5 : W5.cell? ⟨b, o + j, none⟩ = some (.slice sA sn sc) := (Below.cell H5.out (p := ⟨b, o + j, none⟩) hbw).trans hc
          have CC := Lib.hid (copy_any sA sn sc sb W5 (q1.out.ext HQ5.out.ext) (by omega))
          go_wp2_with fail
          refine CC.out.mono ?_
          rintro e W6 ⟨A3, c3, rfl, ho3, he3⟩
          have HQ6 := HQ5.out.ext' (he3.trans ((Ext.refl W6).alloc (.cells #[.slice A3 sn c3] 52)))
          have HQ6' := Lib.hid HQ6
          have ho3' := ho3.ext ((Ext.refl W6).alloc (.cells #[.slice A3 sn c3] 52))
          have hsz5 : w.heap.size ≤ W5.heap.size := HQ5.out.ext.size
          have hsz6 := HQ6.ext.size
          have hlts : ∀ t ∈ ts, ∀ p, t.A = some p → p.block < W5.heap.size := HQ5.out.tx.lt
          clear he3 ho3 CC d5 hc5
          go_wp2_with (first
            | (at_builtin; refine wpList_pushT (w0 := w) ⟨A3, c3, sb⟩ rfl _ _ rfl HQ6.own p htl rfl rfl ((heap_alloc_new _ _).trans (by rw [← Hsn.out])) (by omega) HQ6.ext hsz6 ?_; intro A4 c4 w4 hown4 hg4 hb4 hz4; rw [← htl] at hg4; have HQ7 := Lib.hid (HQ6'.out.pushK (s := ⟨A3, c3, sb⟩) ho3' hsz5 hlts hown4 hg4 hb4); have d8 := cell_of_row w4 w.heap.size 1 _ _ (0, 0) HQ7.out.box; have Hcv := Lib.hid ((Hv.out.ext HQ7.out.ext).atZ hlt); obtain ⟨b', o', rfl, hb', hcv⟩ := Hcv.out; rw [← Hxv.out] at hcv; have HQ8 := HQ7.out.ext' ((Ext.refl w4).alloc (.cells #[.int .i64 xv] 3)); have hsz8 := HQ8.ext.size; clear HQ6 hown4 hg4 hb4 hz4)
            | (at_builtin; refine wpList_pushG (w0 := w) (base := w.heap.size) shZ xv 3 rfl _ _ 45 rfl _ 8 Try.underlying45 Try.infoInt18 rfl (by decide) HQ8.vs p hvl rfl rfl (heap_alloc_new _ _) (by omega) (by omega) HQ8.ext hsz8 ?_; intro A9 c9 w9 hown9 hg9 hb9 hz9))
          rw [← hvl] at hg9
          have HQ9 := Lib.hid (HQ8.pushV hown9 hg9 hb9)
          clear hown9 hg9 hb9 hz9 HQ8 hsz8 d8 hcv hb'
          go_roundw
          case rel => exact ⟨j + 1, p + 1, A4, c4, A9, c9, ts ++ [⟨A3, c3, sb⟩], vs ++ [xv], by omega, by go_num, rfl, rfl, by rw [List.length_append, htl]; rfl, by rw [List.length_append, hvl]; rfl, Lib.hid HQ9.out, Lib.hid (by rw [HYes.out.1, ← HB.out.1]; unfold bodies; rw [List.map_append]; rfl), Lib.hid (by rw [HYes.out.2, ← HB.out.2])⟩
          case measure => simp [intOf]; omega
        · have gI : ((mh : Int) == 0) = false := by simp; omega
          by_cases g3 : OH < 0
          · have HYes := Lib.hid (HYN.out.1 (by unfold inR stopB; rw [← HOL.out, ← HOH.out, decide_eq_true g1, decide_eq_false (show ¬ 0 ≤ OH by omega), Bool.and_false]; rfl))
            go_wp2_with fail
            refine C1.out.mono ?_
            rintro e W4 ⟨rfl, q4, hw4⟩
            have H4 := Lib.hid (show Ext wr W4 from by rw [hw4]; exact (Ext.refl wr).drewN q4)
            have d4 := cell_of_row W4 w.heap.size 0 _ _ (0, 0) (HQ.out.ext' H4.out).box
            have hc4 : W4.cell? ⟨b, o + j, none⟩ = some (.slice sA sn sc) := (Below.cell H4.out (p := ⟨b, o + j, none⟩) hbw).trans hc
            have C2 := Lib.hid (CH.out W4 (HQ.out.ext.trans H4.out))
            clear hw4
            go_wp2_with fail
            refine C2.out.mono ?_
            rintro e W5 ⟨rfl, q5, hw5⟩
            have H5 := Lib.hid (show Ext wr W5 from by rw [hw5]; exact H4.out.drewN q5)
            clear hw5 d4 hc4
            have HQ5 := Lib.hid (HQ.out.ext' H5.out)
            have d5 := cell_of_row W5 w.heap.size 0 _ _ (0, 0) HQ5.out.box
            have hc5 : W5.cell? ⟨b, o + j, none⟩ = some (.slice sA sn sc) := (Below.cell H5.out (p := ⟨b, o + j, none⟩) hbw).trans hc
            have CC := Lib.hid (copy_any sA sn sc sb W5 (q1.out.ext HQ5.out.ext) (by omega))
            go_wp2_with fail
            refine CC.out.mono ?_
            rintro e W6 ⟨A3, c3, rfl, ho3, he3⟩
            have HQ6 := HQ5.out.ext' (he3.trans ((Ext.refl W6).alloc (.cells #[.slice A3 sn c3] 52)))
            have HQ6' := Lib.hid HQ6
            have ho3' := ho3.ext ((Ext.refl W6).alloc (.cells #[.slice A3 sn c3] 52))
            have hsz5 : w.heap.size ≤ W5.heap.size := HQ5.out.ext.size
            have hsz6 := HQ6.ext.size
            have hlts : ∀ t ∈ ts, ∀ p, t.A = some p → p.block < W5.heap.size := HQ5.out.tx.lt
            clear he3 ho3 CC d5 hc5
            go_wp2_with (first
              | (at_builtin; refine wpList_pushT (w0 := w) ⟨A3, c3, sb⟩ rfl _ _ rfl HQ6.own p htl rfl rfl ((heap_alloc_new _ _).trans (by rw [← Hsn.out])) (by omega) HQ6.ext hsz6 ?_; intro A4 c4 w4 hown4 hg4 hb4 hz4; rw [← htl] at hg4; have HQ7 := Lib.hid (HQ6'.out.pushK (s := ⟨A3, c3, sb⟩) ho3' hsz5 hlts hown4 hg4 hb4); have d8 := cell_of_row w4 w.heap.size 1 _ _ (0, 0) HQ7.out.box; have Hcv := Lib.hid ((Hv.out.ext HQ7.out.ext).atZ hlt); obtain ⟨b', o', rfl, hb', hcv⟩ := Hcv.out; rw [← Hxv.out] at hcv; have HQ8 := HQ7.out.ext' ((Ext.refl w4).alloc (.cells #[.int .i64 xv] 3)); have hsz8 := HQ8.ext.size; clear HQ6 hown4 hg4 hb4 hz4)
              | (at_builtin; refine wpList_pushG (w0 := w) (base := w.heap.size) shZ xv 3 rfl _ _ 45 rfl _ 8 Try.underlying45 Try.infoInt18 rfl (by decide) HQ8.vs p hvl rfl rfl (heap_alloc_new _ _) (by omega) (by omega) HQ8.ext hsz8 ?_; intro A9 c9 w9 hown9 hg9 hb9 hz9))
            rw [← hvl] at hg9
            have HQ9 := Lib.hid (HQ8.pushV hown9 hg9 hb9)
            clear hown9 hg9 hb9 hz9 HQ8 hsz8 d8 hcv hb'
            go_roundw
            case rel => exact ⟨j + 1, p + 1, A4, c4, A9, c9, ts ++ [⟨A3, c3, sb⟩], vs ++ [xv], by omega, by go_num, rfl, rfl, by rw [List.length_append, htl]; rfl, by rw [List.length_append, hvl]; rfl, Lib.hid HQ9.out, Lib.hid (by rw [HYes.out.1, ← HB.out.1]; unfold bodies; rw [List.map_append]; rfl), Lib.hid (by rw [HYes.out.2, ← HB.out.2])⟩
            case measure => simp [intOf]; omega
          · have HNo := Lib.hid (HYN.out.2 (by unfold inR stopB; rw [← HOL.out, ← HOH.out, decide_eq_true g1, decide_eq_true (show 0 ≤ OH by omega), Hhl.out, decide_eq_true (show 0 < mh by omega)]; rfl))
            go_wp2_with fail
            refine C1.out.mono ?_
            rintro e W4 ⟨rfl, q4, hw4⟩
            have H4 := Lib.hid (show Ext wr W4 from by rw [hw4]; exact (Ext.refl wr).drewN q4)
            have d4 := cell_of_row W4 w.heap.size 0 _ _ (0, 0) (HQ.out.ext' H4.out).box
            have hc4 : W4.cell? ⟨b, o + j, none⟩ = some (.slice sA sn sc) := (Below.cell H4.out (p := ⟨b, o + j, none⟩) hbw).trans hc
            have C2 := Lib.hid (CH.out W4 (HQ.out.ext.trans H4.out))
            clear hw4
            go_wp2_with fail
            refine C2.out.mono ?_
            rintro e W5 ⟨rfl, q5, hw5⟩
            have H5 := Lib.hid (show Ext wr W5 from by rw [hw5]; exact H4.out.drewN q5)
            clear hw5 d4 hc4
            go_wp2_with fail
            go_roundw
            case rel => exact ⟨j + 1, p, A', c', A'', c'', ts, vs, by omega, by go_num, rfl, rfl, htl, hvl, Lib.hid (HQ.out.ext' H5.out), Lib.hid (by rw [HNo.out.1]; exact HB.out.1), Lib.hid (by rw [HNo.out.2]; exact HB.out.2)⟩
            case measure => simp [intOf]; omega
      · have HNo := Lib.hid (HYN.out.2 (by unfold inR; rw [← HOL.out, decide_eq_false g1]; rfl))
        go_wp2_with fail
        refine C1.out.mono ?_
        rintro e W5 ⟨rfl, q5, hw5⟩
        have H5 := Lib.hid (show Ext wr W5 from by rw [hw5]; exact (Ext.refl wr).drewN q5)
        clear hw5
        go_wp2_with fail
        go_roundw
        case rel => exact ⟨j + 1, p, A', c', A'', c'', ts, vs, by omega, by go_num, rfl, rfl, htl, hvl, Lib.hid (HQ.out.ext' H5.out), Lib.hid (by rw [HNo.out.1]; exact HB.out.1), Lib.hid (by rw [HNo.out.2]; exact HB.out.2)⟩
        case measure => simp [intOf]; omega
    · obtain rfl : j = n := by omega
      have HF := Lib.hid (show bodies ts = fK (bodies ss) lo hi j ∧ OwnT wr w.heap.size A' c' ts ∧ Txts wr w.heap.size ts ∧ OwnG shZ 3 wr w.heap.size A'' c'' (fV (bodies ss) V lo hi j) ∧ (fV (bodies ss) V lo hi j).length = ts.length ∧ Ext w wr from ⟨HB.out.1, HQ.out.own, HQ.out.tx, by rw [← HB.out.2]; exact HQ.out.vs, by rw [← HB.out.2, hvl, htl], HQ.out.ext⟩)
      clear HB
      go_wp2_with fail
      go_ret2
      exact ⟨A', c', ts, A'', c'', by rw [htl]; rfl, HF.out⟩

end Go.Proofs.Ytkmnhapeohlooaa

/-
  Layer 18: the program's Range is the reference's.
-/
namespace Go.Proofs.Ytkmnhapeohlooaa
open Go.RowKit
set_option maxRecDepth 100000

theorem tw_lt {α : Type} {p : α → Bool} : ∀ {l : List α} {k : Nat} {x : α}, k < (l.takeWhile p).length → l[k]? = some x → p x = true
  | [], k, x, h, _ => by simp at h
  | y :: r, k, x, h, hx => by
    rw [List.takeWhile_cons] at h
    by_cases q : p y = true
    · rw [if_pos q] at h
      cases k with
      | zero => simp at hx; rw [← hx]; exact q
      | succ k => exact tw_lt (l := r) (k := k) (by simpa using h) (by simpa using hx)
    · rw [if_neg q] at h; simp at h
theorem tw_at {α : Type} {p : α → Bool} : ∀ {l : List α} {x : α}, l[(l.takeWhile p).length]? = some x → p x = false
  | [], x, hx => by simp at hx
  | y :: r, x, hx => by
    rw [List.takeWhile_cons] at hx
    by_cases q : p y = true
    · rw [if_pos q] at hx
      exact tw_at (l := r) (by simpa using hx)
    · rw [if_neg q] at hx
      simp at hx
      rw [← hx]
      simpa using q
theorem stop_mono {hi x y : List Nat} (h : stopB hi x = true) (hxy : ordT x y < 0) : stopB hi y = true := by
  unfold stopB at h ⊢
  rw [Bool.and_eq_true, decide_eq_true_eq, decide_eq_true_eq] at h ⊢
  refine ⟨h.1, ?_⟩
  rcases (show ordT y hi < 0 ∨ 0 ≤ ordT y hi by omega) with q | q
  · have := ordT_trans hxy q
    omega
  · exact q

theorem inR_iff {L : List (List Nat)} (ha : Asc L) {lo hi : List Nat} {j : Nat} {x : List Nat} (hj : L[j]? = some x) : inR lo hi x = true ↔ skN lo L ≤ j ∧ j - skN lo L < (rngK L lo hi).length := by
  unfold inR
  rw [Bool.and_eq_true, decide_eq_true_eq]
  constructor
  · rintro ⟨h1, h2⟩
    have hs : skN lo L ≤ j := by
      rcases Nat.lt_or_ge j (skN lo L) with q | q
      · have := skN_lt q hj; omega
      · exact q
    refine ⟨hs, ?_⟩
    rcases Nat.lt_or_ge (j - skN lo L) (rngK L lo hi).length with q | q
    · exact q
    · exfalso
      obtain ⟨r, hr⟩ : ∃ r, r = (rngK L lo hi).length := ⟨_, rfl⟩
      rw [← hr] at q
      have hlt := (List.getElem?_eq_some_iff.1 hj).1
      have hr2 : (L.drop (skN lo L))[r]? = some (L[skN lo L + r]'(by omega)) := by rw [List.getElem?_drop, List.getElem?_eq_getElem (by omega)]
      have h4 : (!stopB hi (L[skN lo L + r]'(by omega))) = false := tw_at (p := fun k => !stopB hi k) (by
        show (L.drop (skN lo L))[(rngK L lo hi).length]? = _
        rw [← hr]; exact hr2)
      have h5 : stopB hi (L[skN lo L + r]'(by omega)) = true := by simpa using h4
      rcases Nat.lt_or_ge (skN lo L + r) j with g | g
      · have := stop_mono h5 (asc_lt ha (List.getElem?_eq_getElem (by omega)) hj g)
        rw [this] at h2; cases h2
      · have e : skN lo L + r = j := by omega
        have : L[skN lo L + r]'(by omega) = x := by
          have h6 : L[skN lo L + r]? = some x := by rw [e]; exact hj
          rw [List.getElem?_eq_getElem (by omega)] at h6
          injection h6
        rw [this] at h5
        rw [h5] at h2; cases h2
  · rintro ⟨h1, h2⟩
    refine ⟨skN_ge ha h1 hj, ?_⟩
    exact tw_lt (p := fun k => !stopB hi k) (l := L.drop (skN lo L)) h2 (by rw [List.getElem?_drop, show skN lo L + (j - skN lo L) = j by omega]; exact hj)

theorem fKV_is {L : List (List Nat)} (ha : Asc L) {V : List Int} (hV : V.length = L.length) (lo hi : List Nat) : ∀ j, j ≤ L.length →
    fK L lo hi j = (L.drop (skN lo L)).take (min (j - skN lo L) (rngK L lo hi).length) ∧ fV L V lo hi j = (V.drop (skN lo L)).take (min (j - skN lo L) (rngK L lo hi).length)
  | 0, _ => by
    rw [show min (0 - skN lo L) (rngK L lo hi).length = 0 by omega]
    exact ⟨by rw [List.take_zero]; rfl, by rw [List.take_zero]; rfl⟩
  | j + 1, h => by
    obtain ⟨h1, h2⟩ := fKV_is ha hV lo hi j (by omega)
    have hj : L[j]? = some (L.getD j []) := by rw [List.getD, List.getElem?_eq_getElem (by omega)]; rfl
    have hv : V[j]? = some (V.getD j 0) := by rw [List.getD, List.getElem?_eq_getElem (by omega)]; rfl
    have hi' := inR_iff ha (lo := lo) (hi := hi) hj
    show (if inR lo hi (L.getD j []) = true then fK L lo hi j ++ [L.getD j []] else fK L lo hi j) = _ ∧ (if inR lo hi (L.getD j []) = true then fV L V lo hi j ++ [V.getD j 0] else fV L V lo hi j) = _
    by_cases q : inR lo hi (L.getD j []) = true
    · obtain ⟨g1, g2⟩ := hi'.1 q
      rw [if_pos q, if_pos q, h1, h2, show min (j + 1 - skN lo L) (rngK L lo hi).length = (j - skN lo L) + 1 by omega, show min (j - skN lo L) (rngK L lo hi).length = j - skN lo L by omega, List.take_add_one, List.take_add_one, List.getElem?_drop, List.getElem?_drop, show skN lo L + (j - skN lo L) = j by omega, hj, hv]
      exact ⟨rfl, rfl⟩
    · rw [if_neg q, if_neg q, h1, h2]
      have g : ¬ (skN lo L ≤ j ∧ j - skN lo L < (rngK L lo hi).length) := fun g => q (hi'.2 g)
      rw [show min (j + 1 - skN lo L) (rngK L lo hi).length = min (j - skN lo L) (rngK L lo hi).length by omega]
      exact ⟨rfl, rfl⟩

/-- The reference's Range is the program's. -/
theorem ref_rng {L : List (List Nat)} (ha : Asc L) {V : List Int} (hV : V.length = L.length) (lo hi : List Nat) : fK L lo hi L.length = rngK L lo hi ∧ fV L V lo hi L.length = rngV L V lo hi := by
  obtain ⟨h1, h2⟩ := fKV_is ha hV lo hi L.length (Nat.le_refl _)
  have hle : (rngK L lo hi).length ≤ L.length - skN lo L := by
    unfold rngK
    have := (List.takeWhile_sublist (fun k => !stopB hi k) (l := L.drop (skN lo L))).length_le
    rwa [List.length_drop] at this
  rw [Nat.min_eq_right hle] at h1 h2
  refine ⟨?_, h2⟩
  rw [h1]
  have hp : rngK L lo hi <+: L.drop (skN lo L) := List.takeWhile_prefix _
  exact (List.prefix_iff_eq_take.1 hp).symm

end Go.Proofs.Ytkmnhapeohlooaa

/-
  Layer 18: whatever the heights: walked.
-/
namespace Go.Proofs.Ytkmnhapeohlooaa
open Go.RowKit
set_option maxRecDepth 100000

theorem RdL.fr {P : Nat → Prop} {w w' : World} {A : Option Addr} {n : Nat} {ss : List Sl} (h : RdL w A n ss) (f : FrX P w w') (hP : ∀ a, A = some a → ¬ P a.block) : RdL w' A n ss :=
  ⟨h.1, fun hn => by
    obtain ⟨b, o, e, hlt, hc⟩ := h.2 hn
    exact ⟨b, o, e, Nat.lt_of_lt_of_le hlt f.size, fun j s hj => (World.cell?_of_block (w := w) (a := ⟨b, o + j, none⟩) (show w'.heap[b]? = w.heap[b]? from f.block b hlt (hP _ e))).trans (hc j s hj)⟩⟩
theorem Rd.fr {P : Nat → Prop} {k : IntKind} {w w' : World} {A : Option Addr} {n : Nat} {xs : List Nat} (h : Rd k w A n xs) (f : FrX P w w') (hP : ∀ a, A = some a → ¬ P a.block) : Rd k w' A n xs :=
  ⟨h.1, fun hn => by
    obtain ⟨b, o, e, hlt, hc⟩ := h.2 hn
    exact ⟨b, o, e, Nat.lt_of_lt_of_le hlt f.size, fun j hj => (World.cell?_of_block (w := w) (a := ⟨b, o + j, none⟩) (show w'.heap[b]? = w.heap[b]? from f.block b hlt (hP _ e))).trans (hc j hj)⟩⟩
theorem FrX.toExt {P : Nat → Prop} {w0 w w' : World} (f : FrX P w w') (h : Ext w0 w) (hP : ∀ q, P q → w0.heap.size ≤ q) : Ext w0 w' :=
  ⟨f.os.trans h.os, f.tape.trans h.tape, f.output.trans h.output, Nat.le_trans h.size f.size, fun q hq => (f.block q (Nat.lt_of_lt_of_le hq h.size) (fun hp => by have := hP q hp; omega)).trans (h.block q hq)⟩

theorem zs_up (j : Nat) : zs (List.range (j + 1)) = zs (List.range j) ++ [(j : Int)] := by rw [List.range_succ, zs_snoc]
theorem zs_down {m k : Nat} (h : k < m) : (zs (List.range m)).drop k = (k : Int) :: (zs (List.range m)).drop (k + 1) := by
  have hl : k < (zs (List.range m)).length := by rw [zs_len, List.length_range]; exact h
  rw [List.drop_eq_getElem_cons hl]
  congr 1
  simp [zs]

set_option maxHeartbeats 6400000 in
theorem walk_SkipHeights (A1 : Option Addr) (n1 c1 : Nat) (xs1 : List Int) (A2 : Option Addr) (n2 c2 : Nat) (xs2 : List Int) (A3 : Option Addr) (n3 c3 : Nat) (ss : List Sl) (A4 : Option Addr) (n4 c4 : Nat) (lo : List Nat) (A5 : Option Addr) (n5 c5 : Nat) (hi : List Nat) (w : World)
    (r1 : RdG shZ w A1 n1 xs1) (z1 : n1 ≤ 17592186044416) (r2 : RdG shZ w A2 n2 xs2) (z2 : n2 ≤ 17592186044416) (r3 : TxL w A3 n3 ss) (z3 : n3 ≤ 140737488355328) (r4 : Rd .u8 w A4 n4 lo) (u4 : ∀ v ∈ lo, v < 256) (z4 : n4 ≤ 140737488355328) (r5 : Rd .u8 w A5 n5 hi) (u5 : ∀ v ∈ hi, v < 256) (_z5 : n5 ≤ 140737488355328) :
    Calls Try.prog 8 #[.slice A1 n1 c1, .slice A2 n2 c2, .slice A3 n3 c3, .slice A4 n4 c4, .slice A5 n5 c5] w fun e w' => e = .returned (.bool true) ∧ Ext w w' := by
  have C1 := Lib.hid (snew_any A1 n1 c1 xs1 w r1 z1)
  have C2 := Lib.hid (fun W (hW : Ext w W) => snew_any A2 n2 c2 xs2 W (r2.ext hW) z2)
  have C4 := Lib.hid (fun W (hW : Ext w W) => refIndex_any A3 n3 c3 ss W (r3.ext hW) z3)
  have R4 := Lib.hid r4
  have R5 := Lib.hid r5
  have U4 := Lib.hid u4
  have U5 := Lib.hid u5
  have R3 := Lib.hid r3
  clear r1 r2 r3 r4 r5 u4 u5
  go_enter Try.func8, Try.ntmps8
  go_wp2_with fail
  refine C1.out.mono ?_
  rintro e w1 ⟨sl, rfl, k1, he1⟩
  have K1 := Lib.hid k1
  have C2 := Lib.hid (C2.out w1 he1)
  have HE1 := Lib.hid he1
  clear k1 he1 C1
  go_wp2_with fail
  refine C2.out.mono ?_
  rintro e w2 ⟨sm, rfl, k2, he2⟩
  have K2 := Lib.hid k2
  have HE2 := Lib.hid he2
  clear k2 he2 C2
  go_wp2_with fail
  refine (alive18_any _).mono ?_
  rintro e w3 ⟨rfl, he3⟩
  have C4 := Lib.hid (C4.out w3 ((HE1.out.trans HE2.out).trans he3))
  have HE3 := Lib.hid he3
  clear he3
  go_wp2_with fail
  refine C4.out.mono ?_
  rintro e w4 ⟨A, c, us, B, cB, rfl, hbu, hEn, _, he4⟩
  obtain ⟨ha, hl, hx⟩ := idx_facts (bodies ss)
  obtain ⟨U, hU⟩ : ∃ U, U = (idxR (bodies ss)).1 := ⟨_, rfl⟩
  rw [← hU] at hbu ha hl hx
  obtain ⟨H1, hH1⟩ : ∃ H1, H1 = hts xs1 := ⟨_, rfl⟩
  obtain ⟨H2, hH2⟩ : ∃ H2, H2 = hts xs2 := ⟨_, rfl⟩
  obtain ⟨P, hP⟩ : ∃ P : Nat → Prop, P = fun q => w.heap.size ≤ q ∧ q < w2.heap.size := ⟨_, rfl⟩
  have hs1 := HE1.out.size
  have hs2 := HE2.out.size
  have hs3 := HE3.out.size
  have hs4 := he4.size
  have hTwo : TwoL P w4 w4 sl H1 [] [] sm H2 [] [] := by
    subst hH1 hH2 hP
    exact ⟨_, _, _, _, ((K1.out.ext HE2.out).ext HE3.out).ext he4, (K2.out.ext HE3.out).ext he4, fun q h1 h2 => by omega, fun q h1 => .inl ⟨by omega, by omega⟩, fun q h1 => .inl ⟨by omega, by omega⟩, FrX.refl _ _⟩
  have hE4 : Ext w w4 := ((HE1.out.trans HE2.out).trans HE3.out).trans he4
  have HUs : Hid (∀ W, FrX P w4 W → RdL W A us.length us ∧ (∀ s ∈ us, Rd .u8 W s.A s.body.length s.body) ∧ Ext w W) := Lib.hid fun W f => by
    subst hP
    refine ⟨hEn.rd.fr f (fun a h1 h2 => by have := hEn.row a h1; omega), fun s hs => (hEn.own s hs).rd.fr f (fun a h1 h2 => by have := ((hEn.own s hs).block a h1).1; omega), f.toExt hE4 (fun q hq => hq.1)⟩
  have HBs : Hid (∀ s ∈ us, U8 s.body ∧ s.body.length ≤ 200) := Lib.hid fun s hs => by
    have h1 : s.body ∈ U := by rw [← hbu]; exact List.mem_map_of_mem hs
    obtain ⟨h2, h3⟩ := hx _ h1
    obtain ⟨t, ht, e⟩ := List.mem_map.1 h2
    exact ⟨by rw [← e]; exact (R3.out.each t ht).u8, h3⟩
  have HTwo := Lib.hid hTwo
  have Ha := Lib.hid ha
  have Hbu := Lib.hid hbu
  obtain ⟨m, hm⟩ : ∃ m, m = us.length := ⟨_, rfl⟩
  have hmU : U.length = m := by rw [← hbu, hm]; exact bodies_len us
  have HmU := Lib.hid hmU
  have hmb : m ≤ 4096 := by rw [← hmU]; exact hl
  rw [← hm] at HUs ⊢
  clear hU hH1 hH2 hP hs1 hs2 hs3 hs4 hTwo hE4 ha hbu hx hl hm hmU hEn he4 C4
  go_wp2_with fail
  go_loopw [51] (fun i wr => ∃ j : Nat, j ≤ m ∧ i = .int .i64 j ∧ Hid (TwoL P w4 wr sl H1 (U.take j) (zs (List.range j)) sm H2 [] [])) (fun i _ => m - (intOf i).toNat)
  case atStart => exact ⟨0, Nat.zero_le _, rfl, HTwo⟩
  case round =>
    obtain ⟨j, hj, rfl, HT⟩ := hrel
    by_cases hlt : j < m
    · obtain ⟨q1, q2, q3⟩ := HUs.out _ HT.out.fr
      obtain ⟨b, o, s, rfl, hf, hc⟩ := q1.at_ hlt
      have hUj : U[j]? = some s.body := by rw [← Hbu.out]; exact bodies_at hf
      obtain ⟨a1, a2, a3⟩ := asc_up Ha.out hUj (V := zs (List.range j)) (by rw [zs_len, List.length_range]) (j : Int)
      obtain ⟨b1, b2⟩ := HBs.out s (List.mem_of_getElem? hf)
      have CP := twoput_any HT.out (by rw [List.length_take]; omega) s.A s.body.length s.c s.body (j : Int) (q2 s (List.mem_of_getElem? hf)) b1 (by omega)
      rw [a2, a3, decide_eq_true a1, ← zs_up] at CP
      have CP := Lib.hid CP
      obtain ⟨sn, hsn⟩ : ∃ sn, sn = s.body.length := ⟨_, rfl⟩
      rw [← hsn] at hc CP
      clear q1 q2 q3 hUj a1 a2 a3 hf b1 b2 hsn
      go_wp2_with fail
      refine CP.out.mono ?_
      rintro e w5 ⟨rfl, h5⟩
      have H5 := Lib.hid h5
      clear h5 CP
      go_wp2_with fail
      go_roundw
      case rel => exact ⟨j + 1, by omega, by go_num, H5⟩
      case measure => simp [intOf]; omega
    · obtain rfl : j = m := by omega
      have HT0 : Hid (TwoL P w4 wr sl H1 U (zs (List.range j)) sm H2 (U.drop j) ((zs (List.range j)).drop j)) := Lib.hid (by
        have := HT.out
        rw [List.take_of_length_le (by rw [HmU.out]; exact Nat.le_refl _)] at this
        rw [List.drop_of_length_le (by rw [HmU.out]; exact Nat.le_refl _), List.drop_of_length_le (by rw [zs_len, List.length_range]; exact Nat.le_refl _)]
        exact this)
      clear HT HTwo
      go_wp2_with fail
      go_loopw [18] (fun v wr => ∃ k : Nat, k ≤ j ∧ v = .int .i64 ((k : Int) - 1) ∧ Hid (TwoL P w4 wr sl H1 U (zs (List.range j)) sm H2 (U.drop k) ((zs (List.range j)).drop k))) (fun v _ => (intOf v + 1).toNat)
      case atStart => exact ⟨j, Nat.le_refl _, by go_num, HT0⟩
      case round =>
        obtain ⟨k, hk, rfl, HT⟩ := hrel
        by_cases k0 : k = 0
        · subst k0
          have hT := HT.out
          rw [List.drop_zero, List.drop_zero] at hT
          obtain ⟨X1, b1, l1⟩ := hT.one
          obtain ⟨X2, b2, l2⟩ := hT.swap.one
          obtain ⟨_, _, hEw⟩ := HUs.out _ hT.fr
          obtain ⟨V, hV⟩ : ∃ V, V = zs (List.range j) := ⟨_, rfl⟩
          rw [← hV] at l1 l2
          have hUb : U.length < 1099511627776 := by rw [HmU.out]; omega
          have HL1 := Lib.hid (fun W (hW : Ext wr W) => l1.ext hW)
          have HL2 := Lib.hid (fun W (hW : Ext wr W) => l2.ext hW)
          have HEw := Lib.hid hEw
          have CR1 := Lib.hid (srange_any l1 hUb A4 n4 c4 lo (R4.out.ext hEw) U4.out z4 A5 n5 c5 hi (R5.out.ext hEw) U5.out)
          have hk1 : ((0 : Nat) : Int) - 1 = -1 := rfl
          clear HT hT l1 l2 hEw hV HT0
          go_wp2_with fail
          refine CR1.out.mono ?_
          rintro e w5 ⟨A6, c6, ts, Av6, cv6, rfl, hb6, hk6, ht6, hv6, he6⟩
          have HE6 := Lib.hid he6
          have CR2 := Lib.hid (srange_any (HL2.out _ he6) hUb A4 n4 c4 lo (R4.out.ext (HEw.out.trans he6)) U4.out z4 A5 n5 c5 hi (R5.out.ext (HEw.out.trans he6)) U5.out)
          have H6 := Lib.hid (show bodies ts = rngK U lo hi ∧ OwnT w5 wr.heap.size A6 c6 ts ∧ Txts w5 wr.heap.size ts ∧ OwnG shZ 3 w5 wr.heap.size Av6 cv6 (rngV U V lo hi) from ⟨hb6, hk6, ht6, hv6⟩)
          obtain ⟨n6, hn6⟩ : ∃ n6, n6 = ts.length := ⟨_, rfl⟩
          obtain ⟨nv, hnv⟩ : ∃ nv, nv = (rngV U V lo hi).length := ⟨_, rfl⟩
          rw [← hn6, ← hnv]
          have Hn6 := Lib.hid hn6
          have HB6 := Lib.hid hb6
          have Hnv := Lib.hid hnv
          clear hb6 hk6 ht6 hv6 he6 CR1 hn6 hnv
          go_wp2_with fail
          refine CR2.out.mono ?_
          rintro e w6 ⟨A7, c7, us7, Av7, cv7, rfl, hb7, hk7, ht7, hv7, he7⟩
          rw [← Hnv.out]
          have HE7 := Lib.hid (HE6.out.trans he7)
          have hl67 : us7.length = n6 := by
            have h1 := congrArg List.length hb7
            have h2 := congrArg List.length H6.out.1
            rw [bodies_len] at h1 h2
            rw [h1, ← h2, ← Hn6.out]
          rw [hl67]
          have H67 := Lib.hid (show OwnT w6 wr.heap.size A6 c6 ts ∧ Txts w6 wr.heap.size ts ∧ OwnG shZ 3 w6 wr.heap.size Av6 cv6 (rngV U V lo hi) from ⟨H6.out.2.1.ext he7, H6.out.2.2.1.ext he7, H6.out.2.2.2.ext he7⟩)
          have H7 := Lib.hid (show bodies ts = bodies us7 ∧ OwnT w6 w5.heap.size A7 c7 us7 ∧ Txts w6 w5.heap.size us7 ∧ OwnG shZ 3 w6 w5.heap.size Av7 cv7 (rngV U V lo hi) from ⟨H6.out.1.trans hb7.symm, hk7, ht7, hv7⟩)
          have Hl67 := Lib.hid hl67
          have CS1 := Lib.hid (lsseek_any (HL1.out _ HE7.out) hUb A4 n4 c4 lo (R4.out.ext (HEw.out.trans HE7.out)) U4.out)
          clear hb7 hk7 ht7 hv7 he7 CR2 hl67 H6
          go_wp2_with fail
          refine CS1.out.mono ?_
          rintro e w7 ⟨hs7, he8⟩
          have HE8 := Lib.hid (HE7.out.trans he8)
          have CS2 := Lib.hid (lsseek_any (HL2.out _ HE8.out) hUb A4 n4 c4 lo (R4.out.ext (HEw.out.trans HE8.out)) U4.out)
          have H67 := Lib.hid (show OwnT w7 wr.heap.size A6 c6 ts ∧ Txts w7 wr.heap.size ts ∧ OwnG shZ 3 w7 wr.heap.size Av6 cv6 (rngV U V lo hi) from ⟨H67.out.1.ext he8, H67.out.2.1.ext he8, H67.out.2.2.ext he8⟩)
          have H7 := Lib.hid (show bodies ts = bodies us7 ∧ OwnT w7 w5.heap.size A7 c7 us7 ∧ Txts w7 w5.heap.size us7 ∧ OwnG shZ 3 w7 w5.heap.size Av7 cv7 (rngV U V lo hi) from ⟨H7.out.1, H7.out.2.1.ext he8, H7.out.2.2.1.ext he8, H7.out.2.2.2.ext he8⟩)
          clear he8 CS1
          obtain ⟨pA, pn, pc, pv, pb, pt, rfl, hp1, hp2, hp3⟩ : ∃ (pA : Option Addr) (pn pc : Nat) (pv : Int) (pb : Bool) (pt : List Nat), e = .returned (.tuple #[.slice pA pn pc, .int .i64 pv, .bool pb]) ∧ Rd .u8 w7 pA pn pt ∧ pn ≤ 200 ∧
              ((skN lo U = U.length ∧ pn = 0 ∧ pt = [] ∧ pv = 0 ∧ pb = false) ∨ (U[skN lo U]? = some pt ∧ pv = V.getD (skN lo U) 0 ∧ pb = true)) := by
            rcases hs7 with ⟨h1, rfl⟩ | ⟨x, A', c', h1, rfl, h3⟩
            · exact ⟨none, 0, 0, 0, false, [], rfl, ⟨rfl, fun h => absurd h (by decide)⟩, by omega, .inl ⟨h1, rfl, rfl, rfl, rfl⟩⟩
            · exact ⟨A', x.length, c', _, true, x, rfl, h3.rd, by
                obtain ⟨s, hs, e⟩ := List.mem_map.1 (show x ∈ us.map Sl.body from by have := List.mem_of_getElem? h1; rw [← Hbu.out] at this; exact this)
                rw [← e]; exact (HBs.out s hs).2, .inr ⟨h1, rfl, rfl⟩⟩
          have Hp1 := Lib.hid hp1
          have Hp3 := Lib.hid hp3
          clear hs7 hp1 hp3
          go_wp2_with fail
          refine CS2.out.mono ?_
          rintro e w8 ⟨hs8, he9⟩
          have HE9 := Lib.hid (HE8.out.trans he9)
          have H67 := Lib.hid (show OwnT w8 wr.heap.size A6 c6 ts ∧ Txts w8 wr.heap.size ts ∧ OwnG shZ 3 w8 wr.heap.size Av6 cv6 (rngV U V lo hi) from ⟨H67.out.1.ext he9, H67.out.2.1.ext he9, H67.out.2.2.ext he9⟩)
          have H7 := Lib.hid (show bodies ts = bodies us7 ∧ OwnT w8 w5.heap.size A7 c7 us7 ∧ Txts w8 w5.heap.size us7 ∧ OwnG shZ 3 w8 w5.heap.size Av7 cv7 (rngV U V lo hi) from ⟨H7.out.1, H7.out.2.1.ext he9, H7.out.2.2.1.ext he9, H7.out.2.2.2.ext he9⟩)
          have Hp1 := Lib.hid (Hp1.out.ext he9)
          clear he9 CS2
          obtain ⟨qA, qn, qc, rfl, hq1⟩ : ∃ (qA : Option Addr) (qn qc : Nat), e = .returned (.tuple #[.slice qA qn qc, .int .i64 pv, .bool pb]) ∧ Rd .u8 w8 qA qn pt := by
            rcases hs8 with ⟨h1, rfl⟩ | ⟨x, A', c', h1, rfl, h3⟩
            · rcases Hp3.out with ⟨_, _, e3, e4, e5⟩ | ⟨g1, _, _⟩
              · subst e3 e4 e5
                exact ⟨none, 0, 0, rfl, ⟨rfl, fun h => absurd h (by decide)⟩⟩
              · rw [h1, List.getElem?_eq_none (Nat.le_refl _)] at g1; cases g1
            · rcases Hp3.out with ⟨g1, _⟩ | ⟨g1, g2, g3⟩
              · rw [g1, List.getElem?_eq_none (Nat.le_refl _)] at h1; cases h1
              · rw [h1] at g1
                injection g1 with g1
                subst g1 g2 g3
                exact ⟨A', x.length, c', rfl, h3.rd⟩
          have CL1 := Lib.hid (lslen_any (HL1.out _ HE9.out) hUb)
          have CL2 := Lib.hid (lslen_any (HL2.out _ HE9.out) hUb)
          rw [HmU.out] at CL1 CL2
          have Hq1 := Lib.hid hq1
          have hr6 : RdL w8 A6 n6 ts := by have := OwnG.rdL H67.out.1; rwa [← Hn6.out] at this
          have hr7 : RdL w8 A7 n6 us7 := by have := OwnG.rdL H7.out.2.1; rwa [Hl67.out] at this
          have hn6b : n6 ≤ 4096 := by
            have h1 : (rngK U lo hi).length ≤ U.length := by
              unfold rngK
              have := (List.takeWhile_sublist (fun k => !stopB hi k) (l := U.drop (skN lo U))).length_le
              rw [List.length_drop] at this
              omega
            have h2 : n6 = (rngK U lo hi).length := by rw [Hn6.out, ← HB6.out, bodies_len]
            rw [h2]
            have := HmU.out
            omega
          have hnvb : nv ≤ n6 := by
            have h2 : n6 = (rngK U lo hi).length := by rw [Hn6.out, ← HB6.out, bodies_len]
            rw [Hnv.out, h2]
            unfold rngV
            exact List.length_take_le _ _
          have Hsb : Hid (∀ s ∈ ts, s.body.length ≤ 140737488355328) := Lib.hid fun s hs => by
            have h1 : s.body ∈ rngK U lo hi := by rw [← HB6.out]; exact List.mem_map_of_mem hs
            have h2 : s.body ∈ U := List.mem_of_mem_drop ((List.takeWhile_sublist _).subset h1)
            rw [← Hbu.out] at h2
            obtain ⟨x, hx, e⟩ := List.mem_map.1 h2
            have := (HBs.out x hx).2
            rw [← e]
            omega
          clear hs8 hq1
          go_wp2_with fail
          refine CL1.out.mono ?_
          rintro e w9 ⟨rfl, rfl⟩
          go_wp2_with fail
          refine CL2.out.mono ?_
          rintro e w9 ⟨rfl, rfl⟩
          go_wp2_with fail
          refine (sameT_yes A6 A7 n6 c6 n6 c7 ts us7 w8 hr6 hr7 H7.out.1 (by omega) (fun s hs => ⟨H67.out.2.1.rd s hs, Hsb.out s hs⟩) (fun t ht => H7.out.2.2.1.rd t ht)).mono ?_
          rintro e w9 ⟨rfl, q9, hw9⟩
          have hE9 : Ext w8 w9 := by rw [hw9]; exact (Ext.refl w8).drewN q9
          have HE10 := Lib.hid (HE9.out.trans hE9)
          have CI := Lib.hid (sameInts_yes Av6 Av7 nv cv6 cv7 (rngV U V lo hi) w9 ((H67.out.2.2.rd' Hnv.out.symm).ext hE9) ((H7.out.2.2.2.rd' Hnv.out.symm).ext hE9) (by omega))
          have Hp1 := Lib.hid (Hp1.out.ext hE9)
          have Hq1 := Lib.hid (Hq1.out.ext hE9)
          clear hw9 hE9
          go_wp2_with fail
          refine CI.out.mono ?_
          rintro e w10 ⟨rfl, q10, hw10⟩
          have hE10 : Ext w9 w10 := by rw [hw10]; exact (Ext.refl w9).drewN q10
          have CS := Lib.hid (same_yes (c := pc) (c' := qc) (Hp1.out.ext hE10) (Hq1.out.ext hE10) (by omega))
          have HE11 := Lib.hid ((HEw.out.trans HE10.out).trans hE10)
          clear hw10 hE10
          go_wp2_with fail
          refine CS.out.mono ?_
          rintro e w11 ⟨rfl, q11, hw11⟩
          have HE12 := Lib.hid (show Ext w w11 from by rw [hw11]; exact HE11.out.drewN q11)
          clear hw11
          go_wp2_with fail
          go_ret
          exact ⟨rfl, HE12.out⟩
        · obtain ⟨i, rfl⟩ : ∃ i, k = i + 1 := ⟨k - 1, by omega⟩
          have hki : (((i + 1 : Nat) : Int) - 1) = (i : Int) := by omega
          rw [hki]
          obtain ⟨q1, q2, q3⟩ := HUs.out _ HT.out.fr
          obtain ⟨b, o, s, rfl, hf, hc⟩ := q1.at_ (show i < j by omega)
          have hUj : U[i]? = some s.body := by rw [← Hbu.out]; exact bodies_at hf
          obtain ⟨a1, a2, a3⟩ := asc_down Ha.out hUj (V := (zs (List.range j)).drop (i + 1)) (i : Int)
          obtain ⟨b1, b2⟩ := HBs.out s (List.mem_of_getElem? hf)
          have CP := twoput_any HT.out.swap (by rw [List.length_drop, HmU.out]; omega) s.A s.body.length s.c s.body (i : Int) (q2 s (List.mem_of_getElem? hf)) b1 (by omega)
          rw [a2, a3, decide_eq_true a1, ← zs_down (show i < j by omega)] at CP
          have CP := Lib.hid CP
          obtain ⟨sn, hsn⟩ : ∃ sn, sn = s.body.length := ⟨_, rfl⟩
          rw [← hsn] at hc CP
          have hij : (i : Int) < (j : Int) := by omega
          clear q1 q2 q3 hUj a1 a2 a3 hf b1 b2 hsn hki
          go_wp2_with fail
          refine CP.out.mono ?_
          rintro e w5 ⟨rfl, h5⟩
          have H5 := Lib.hid h5.swap
          clear h5 CP
          go_wp2_with fail
          go_roundw
          case rel => exact ⟨i, by omega, by go_num, H5⟩
          case measure => simp [intOf] <;> omega

end Go.Proofs.Ytkmnhapeohlooaa

/-
  Layer 18: what was put in last is got.
-/
namespace Go.Proofs.Ytkmnhapeohlooaa
open Go.RowKit
set_option maxRecDepth 100000

/-- What is got of a key. -/
def gv (L : List (List Nat)) (V : List Int) (a : List Nat) : Int := if L[skN a L]? = some a then V.getD (skN a L) 0 else 0

theorem skN_pos {L : List (List Nat)} (ha : Asc L) {a : List Nat} {p : Nat} (hp : L[p]? = some a) : skN a L = p ∧ L[skN a L]? = some a := by
  have hm : a ∈ L := List.mem_of_getElem? hp
  have h1 : L[skN a L]? = some a := by
    refine Classical.byContradiction fun h => skN_notMem h ha hm
  exact ⟨asc_eq ha h1 hp, h1⟩
theorem skN_iff {L : List (List Nat)} (ha : Asc L) {a : List Nat} : L[skN a L]? = some a ↔ a ∈ L := by
  constructor
  · exact fun h => List.mem_of_getElem? h
  · intro h
    obtain ⟨p, hp⟩ := List.getElem?_of_mem h
    exact (skN_pos ha hp).2
theorem gv_at {L : List (List Nat)} (ha : Asc L) {V : List Int} {a : List Nat} {p : Nat} (hp : L[p]? = some a) : gv L V a = V.getD p 0 := by
  obtain ⟨h1, h2⟩ := skN_pos ha hp
  unfold gv
  rw [if_pos h2, h1]
theorem gv_none {L : List (List Nat)} (ha : Asc L) {V : List Int} {a : List Nat} (h : ¬ a ∈ L) : gv L V a = 0 := by
  unfold gv
  rw [if_neg (fun q => h ((skN_iff ha).1 q))]

theorem gv_put {L : List (List Nat)} (ha : Asc L) {V : List Int} (hV : V.length = L.length) (t : List Nat) (v : Int) (a : List Nat) (ha2 : Asc (insL L t)) :
    gv (insL L t) (putV L V t v) a = if t = a then v else gv L V a := by
  by_cases hy : L[skN t L]? = some t
  · have hl := (List.getElem?_eq_some_iff.1 hy).1
    rw [insL_yes hy] at ha2 ⊢
    unfold putV
    rw [if_pos hy]
    by_cases e : t = a
    · subst e
      rw [if_pos rfl, gv_at ha hy]
      simp [List.getD, hV, hl]
    · rw [if_neg e]
      by_cases hm : a ∈ L
      · obtain ⟨p, hp⟩ := List.getElem?_of_mem hm
        rw [gv_at ha hp, gv_at ha hp]
        have hne : skN t L ≠ p := fun q => by rw [q, hp] at hy; injection hy with hy; exact e hy.symm
        rw [List.getD, List.getD, List.getElem?_set_ne hne]
      · rw [gv_none ha hm, gv_none ha hm]
  · have hsl := skN_le t L
    rw [insL_no hy] at ha2 ⊢
    have hlt : (L.take (skN t L) ++ t :: L.drop (skN t L))[skN t L]? = some t := by rw [ins_at hsl, if_neg (by omega), if_pos rfl]
    unfold putV
    rw [if_neg hy]
    have hVs : skN t L ≤ V.length := by rw [hV]; exact hsl
    by_cases e : t = a
    · subst e
      rw [if_pos rfl, gv_at ha2 hlt, List.getD, ins_at hVs, if_neg (by omega), if_pos rfl]
      rfl
    · rw [if_neg e]
      by_cases hm : a ∈ L
      · obtain ⟨p, hp⟩ := List.getElem?_of_mem hm
        rw [gv_at ha hp]
        by_cases hq : p < skN t L
        · rw [gv_at (p := p) ha2 (by rw [ins_at hsl, if_pos hq]; exact hp), List.getD, ins_at hVs, if_pos hq]
          rfl
        · rw [gv_at (p := p + 1) ha2 (by rw [ins_at hsl, if_neg (by omega), if_neg (by omega)]; exact hp), List.getD, ins_at hVs, if_neg (by omega), if_neg (by omega)]
          rfl
      · rw [gv_none ha hm, gv_none ha2]
        intro h
        rw [← insL_no hy] at h
        rcases insL_mem.1 h with h | h
        · exact hm h
        · exact e h.symm

theorem putV_len {L : List (List Nat)} {V : List Int} (hV : V.length = L.length) (t : List Nat) (v : Int) : (putV L V t v).length = (insL L t).length := by
  by_cases hy : L[skN t L]? = some t
  · rw [insL_yes hy]
    unfold putV
    rw [if_pos hy, List.length_set, hV]
  · have hsl := skN_le t L
    rw [insL_no hy]
    unfold putV
    rw [if_neg hy]
    simp [hV]

/-- The list behind the first puts, the i-th with the value i + d. -/
def lvA (ks : List (List Nat)) (d : Int) : Nat → List (List Nat) × List Int
  | 0 => ([], [])
  | j + 1 => (insL (lvA ks d j).1 (ks.getD j []), putV (lvA ks d j).1 (lvA ks d j).2 (ks.getD j []) (j + d))
/-- The last of the first that is a, and one: or 0. -/
def lastA (ks : List (List Nat)) (a : List Nat) : Nat → Nat
  | 0 => 0
  | j + 1 => if ks.getD j [] = a then j + 1 else lastA ks a j

theorem lastA_succ (ks : List (List Nat)) (a : List Nat) (j : Nat) : lastA ks a (j + 1) = if ks.getD j [] = a then j + 1 else lastA ks a j := rfl

theorem lvA_dents (ks : List (List Nat)) (d : Int) : ∀ j, j ≤ ks.length → (lvA ks d j).1 = dents (ks.take j)
  | 0, _ => rfl
  | j + 1, h => by
    have hj : ks[j]? = some (ks.getD j []) := by rw [List.getD, List.getElem?_eq_getElem (by omega)]; rfl
    show insL (lvA ks d j).1 (ks.getD j []) = _
    rw [lvA_dents ks d j (by omega), dents_step hj]
theorem lvA_len (ks : List (List Nat)) (d : Int) : ∀ j, (lvA ks d j).2.length = (lvA ks d j).1.length ∧ (lvA ks d j).1.length ≤ j
  | 0 => ⟨rfl, Nat.le_refl _⟩
  | j + 1 => ⟨putV_len (lvA_len ks d j).1 _ _, Nat.le_trans (insL_len _ _) (Nat.succ_le_succ (lvA_len ks d j).2)⟩
theorem lvA_asc (ks : List (List Nat)) (d : Int) (j : Nat) (h : j ≤ ks.length) : Asc (lvA ks d j).1 := by rw [lvA_dents ks d j h]; exact dents_asc _
theorem lvA_get (ks : List (List Nat)) (a : List Nat) : ∀ j, j ≤ ks.length → gv (lvA ks 1 j).1 (lvA ks 1 j).2 a = (lastA ks a j : Int) ∧ ((a ∈ (lvA ks 1 j).1) ↔ 0 < lastA ks a j)
  | 0, _ => ⟨rfl, by simp [lvA, lastA]⟩
  | j + 1, h => by
    obtain ⟨h1, h2⟩ := lvA_get ks a j (by omega)
    have ha := lvA_asc ks 1 (j + 1) h
    refine ⟨?_, ?_⟩
    · show gv (insL _ _) (putV _ _ _ _) a = _
      rw [gv_put (lvA_asc ks 1 j (by omega)) (lvA_len ks 1 j).1 _ _ a ha, h1, lastA_succ]
      by_cases e : ks.getD j [] = a
      · rw [if_pos e, if_pos e]; exact (Int.natCast_succ j).symm
      · rw [if_neg e, if_neg e]
    · show a ∈ insL _ _ ↔ _
      rw [insL_mem, h2, lastA_succ]
      by_cases e : ks.getD j [] = a
      · rw [if_pos e]; exact ⟨fun _ => by omega, fun _ => .inr e.symm⟩
      · rw [if_neg e]; exact ⟨fun q => q.elim id (fun q => absurd q.symm e), .inl⟩
theorem lastA_le (ks : List (List Nat)) (a : List Nat) : ∀ j, lastA ks a j ≤ j
  | 0 => Nat.le_refl _
  | j + 1 => by
    unfold lastA
    split
    · exact Nat.le_refl _
    · exact Nat.le_succ_of_le (lastA_le ks a j)

theorem rng_whole (L : List (List Nat)) (V : List Int) (hV : V.length = L.length) : rngK L [] [] = L ∧ rngV L V [] [] = V := by
  have hs : skN [] L = 0 := skN_zero (fun x _ => by cases x <;> simp [ordT])
  have hk : rngK L [] [] = L := by
    unfold rngK
    rw [hs, List.drop_zero]
    exact tw_all (fun x _ => rfl)
  refine ⟨hk, ?_⟩
  unfold rngV
  rw [hk, hs, List.drop_zero, List.take_of_length_le (by omega)]

end Go.Proofs.Ytkmnhapeohlooaa
