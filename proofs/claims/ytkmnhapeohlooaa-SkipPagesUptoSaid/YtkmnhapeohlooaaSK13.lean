/-
  Layer 18: two lists side by side; the document's SameInts.
-/
import Derived.Test.YtkmnhapeohlooaaSK12
import Derived.Test.YtkmnhapeohlooaaD10b
import Derived.Test.YtkmnhapeohlooaaTXCm
namespace Go.Proofs.Ytkmnhapeohlooaa
open Go.RowKit
set_option maxRecDepth 100000

theorem sameInts_yes (A A' : Option Addr) (n c c' : Nat) (xs : List Int) (w : World) (hx : RdG shZ w A n xs) (hy : RdG shZ w A' n xs) (hn : n ≤ 281474976710656) :
    Calls Try.prog 39 #[.slice A n c, .slice A' n c'] w fun e w' => e = .returned (.bool true) ∧ ∃ q, w' = w.drewN q := by
  go_enter Try.func39, Try.ntmps39
  go_wp2
  go_loopw [5] (fun i wr => ∃ j q : Nat, j ≤ n ∧ i = .int .i64 j ∧ wr = w.drewN q) (fun i _ => n - (intOf i).toNat)
  case atStart => exact ⟨0, 0, Nat.zero_le _, rfl, rfl⟩
  case round =>
    obtain ⟨j, q, hj, rfl, hw⟩ := hrel
    have hE : Ext w wr := by rw [hw]; exact (Ext.refl w).drewN q
    have Hw := Lib.hid hw
    clear hw
    by_cases hlt : j < n
    · obtain ⟨b, o, rfl, hb, h1⟩ := (hx.ext hE).atZ hlt
      obtain ⟨b', o', rfl, hb', g1⟩ := (hy.ext hE).atZ hlt
      have hji : (j : Int) < (n : Int) := by omega
      obtain ⟨x, hx⟩ : ∃ x, x = xs.getD j 0 := ⟨_, rfl⟩
      rw [← hx] at h1 g1
      clear hx
      go_wp2_with fail
      go_quiet (fail)
      go_wp2
      go_roundw
      case rel => exact ⟨j + 1, _, by omega, by go_num, by rw [Hw.out, World.drewN_drewN]⟩
      case measure => simp [intOf]; omega
    · obtain rfl : j = n := by omega
      go_wp2
      go_ret
      exact ⟨by trivial, q, Hw.out⟩

theorem RdL.blk {w w' : World} {A : Option Addr} {n : Nat} {ss : List Sl} (h : RdL w A n ss) (hb : ∀ a, A = some a → w'.heap[a.block]? = w.heap[a.block]?) (hs : w.heap.size ≤ w'.heap.size) : RdL w' A n ss :=
  ⟨h.1, fun hn => by
    obtain ⟨b, o, e, hlt, hc⟩ := h.2 hn
    exact ⟨b, o, e, Nat.lt_of_lt_of_le hlt hs, fun j s hj => (World.cell?_of_block (w := w) (a := ⟨b, o + j, none⟩) (show w'.heap[b]? = w.heap[b]? from hb _ e)).trans (hc j s hj)⟩⟩
theorem LS.kept {w w' : World} {X : Nat → Prop} {base sb : Nat} {hs : List Int} {L : List (List Nat)} {V : List Int} (h : LS w X base sb hs L V) (hb : ∀ b, X b → w'.heap[b]? = w.heap[b]?) (hz : w.heap.size ≤ w'.heap.size) : LS w' X base sb hs L V := by
  obtain ⟨ns, h1, h2⟩ := h
  exact ⟨ns, h1.kept hb hz, h2⟩

/-- Two lists of the call's own, apart; but for the blocks of P all that lay in w4 lies. -/
def TwoL (P : Nat → Prop) (w4 W : World) (s1 : Nat) (h1 : List Int) (L1 : List (List Nat)) (V1 : List Int) (s2 : Nat) (h2 : List Int) (L2 : List (List Nat)) (V2 : List Int) : Prop :=
  ∃ X1 b1 X2 b2, LS W X1 b1 s1 h1 L1 V1 ∧ LS W X2 b2 s2 h2 L2 V2 ∧ (∀ q, X1 q → ¬ X2 q) ∧ (∀ q, X1 q → P q ∨ w4.heap.size ≤ q) ∧ (∀ q, X2 q → P q ∨ w4.heap.size ≤ q) ∧ FrX P w4 W
section
variable {P : Nat → Prop} {w4 w w' : World} {s1 s2 : Nat} {h1 h2 : List Int} {L1 L2 : List (List Nat)} {V1 V2 : List Int}
theorem TwoL.swap (h : TwoL P w4 w s1 h1 L1 V1 s2 h2 L2 V2) : TwoL P w4 w s2 h2 L2 V2 s1 h1 L1 V1 := by
  obtain ⟨X1, b1, X2, b2, l1, l2, d, p1, p2, f⟩ := h
  exact ⟨X2, b2, X1, b1, l2, l1, fun q hq hx => d q hx hq, p2, p1, f⟩
theorem TwoL.ext (h : TwoL P w4 w s1 h1 L1 V1 s2 h2 L2 V2) (he : Ext w w') : TwoL P w4 w' s1 h1 L1 V1 s2 h2 L2 V2 := by
  obtain ⟨X1, b1, X2, b2, l1, l2, d, p1, p2, f⟩ := h
  exact ⟨X1, b1, X2, b2, l1.ext he, l2.ext he, d, p1, p2, f.trans (he.frX P)⟩
theorem TwoL.fr (h : TwoL P w4 w s1 h1 L1 V1 s2 h2 L2 V2) : FrX P w4 w := by
  obtain ⟨X1, b1, X2, b2, l1, l2, d, p1, p2, f⟩ := h
  exact f
theorem TwoL.one (h : TwoL P w4 w s1 h1 L1 V1 s2 h2 L2 V2) : ∃ X b, LS w X b s1 h1 L1 V1 := by
  obtain ⟨X1, b1, X2, b2, l1, l2, d, p1, p2, f⟩ := h
  exact ⟨X1, b1, l1⟩
theorem twoput_any (h : TwoL P w4 w s1 h1 L1 V1 s2 h2 L2 V2) (hb : L1.length < 1099511627776) (A : Option Addr) (m c : Nat) (t : List Nat) (v : Int) (ht : Rd .u8 w A m t) (hu : U8 t) (hm : m ≤ 140737488355328) :
    Calls Try.prog 41 #[.pointer (some ⟨s1, 0, none⟩), .slice A m c, .int .i64 v] w fun e w' => e = .returned (.bool (decide (¬ L1[skN t L1]? = some t))) ∧ TwoL P w4 w' s1 h1 (insL L1 t) (putV L1 V1 t v) s2 h2 L2 V2 := by
  obtain ⟨X1, b1, X2, b2, l1, l2, d, p1, p2, f⟩ := h
  refine (sput_any l1 hb A m c t v ht hu hm).mono ?_
  rintro e w' ⟨he, h4, h5⟩
  refine ⟨he, XN X1 w w', b1, X2, b2, h4, l2.kept (fun q hq => h5.block q (l2.bd' q hq).2 (fun hx => d q hx hq)) h5.size, fun q hq hx => ?_, fun q hq => ?_, p2, ?_⟩
  · rcases hq with hq | hq
    · exact d q hq hx
    · have := (l2.bd' q hx).2; omega
  · rcases hq with hq | hq
    · exact p1 q hq
    · exact .inr (Nat.le_trans f.size hq.1)
  · refine ⟨h5.os.trans f.os, h5.tape.trans f.tape, h5.output.trans f.output, Nat.le_trans f.size h5.size, fun q hq hp => (h5.block q (Nat.lt_of_lt_of_le hq f.size) (fun hx => ?_)).trans (f.block q hq hp)⟩
    rcases p1 q hx with h | h
    · exact hp h
    · omega
end

/-! ### Keys put in their order, and against it -/
theorem skN_all {t : List Nat} : ∀ {L : List (List Nat)}, (∀ x ∈ L, ordT x t < 0) → skN t L = L.length
  | [], _ => rfl
  | s :: r, h => by rw [skN, if_pos (h s (List.mem_cons_self ..)), skN_all (fun x hx => h x (List.mem_cons_of_mem _ hx))]; rfl
theorem skN_zero {t : List Nat} : ∀ {L : List (List Nat)}, (∀ x ∈ L, ¬ ordT x t < 0) → skN t L = 0
  | [], _ => rfl
  | s :: r, h => by rw [skN, if_neg (h s (List.mem_cons_self ..))]
theorem asc_up {U : List (List Nat)} (ha : Asc U) {j : Nat} {t : List Nat} (hj : U[j]? = some t) {V : List Int} (hV : V.length = j) (v : Int) : ¬ (U.take j)[skN t (U.take j)]? = some t ∧ insL (U.take j) t = U.take (j + 1) ∧ putV (U.take j) V t v = V ++ [v] := by
  have hlt := (List.getElem?_eq_some_iff.1 hj).1
  have hs : skN t (U.take j) = (U.take j).length := skN_all (fun x hx => by
    obtain ⟨k, hk⟩ := List.getElem?_of_mem hx
    have hkl := (List.getElem?_eq_some_iff.1 hk).1
    rw [List.length_take] at hkl
    rw [List.getElem?_take, if_pos (by omega)] at hk
    exact asc_lt ha hk hj (by omega))
  have hl : (U.take j).length = j := by rw [List.length_take]; omega
  have hno : ¬ (U.take j)[skN t (U.take j)]? = some t := by rw [hs, List.getElem?_eq_none (Nat.le_refl _)]; exact fun h => by cases h
  refine ⟨hno, ?_, ?_⟩
  · rw [insL_no hno, hs, List.take_length, List.drop_length, List.take_add_one, hj]; rfl
  · unfold putV
    rw [if_neg hno, hs, hl, List.take_of_length_le (by omega), List.drop_of_length_le (by omega)]
theorem asc_down {U : List (List Nat)} (ha : Asc U) {j : Nat} {t : List Nat} (hj : U[j]? = some t) {V : List Int} (v : Int) : ¬ (U.drop (j + 1))[skN t (U.drop (j + 1))]? = some t ∧ insL (U.drop (j + 1)) t = U.drop j ∧ putV (U.drop (j + 1)) V t v = v :: V := by
  have hlt := (List.getElem?_eq_some_iff.1 hj).1
  have hge : ∀ x ∈ U.drop (j + 1), ordT t x < 0 := fun x hx => by
    obtain ⟨k, hk⟩ := List.getElem?_of_mem hx
    rw [List.getElem?_drop] at hk
    exact asc_lt ha hj hk (by omega)
  have hs : skN t (U.drop (j + 1)) = 0 := skN_zero (fun x hx => ordT_asym (hge x hx))
  have hno : ¬ (U.drop (j + 1))[skN t (U.drop (j + 1))]? = some t := by
    rw [hs]
    intro h
    exact ordT_irr t (hge t (List.mem_of_getElem? h))
  refine ⟨hno, ?_, ?_⟩
  · rw [insL_no hno, hs, List.take_zero, List.drop_zero, List.nil_append]
    obtain ⟨h1, rfl⟩ := List.getElem?_eq_some_iff.1 hj
    exact (List.drop_eq_getElem_cons h1).symm
  · unfold putV
    rw [if_neg hno, hs]; rfl

theorem idx_facts (ss : List (List Nat)) : Asc (idxR ss).1 ∧ (idxR ss).1.length ≤ 4096 ∧ ∀ x ∈ (idxR ss).1, x ∈ ss ∧ x.length ≤ 200 := by
  by_cases h : 4096 < ss.length ∨ anyLong ss = true
  · rw [idxR_bad h]
    exact ⟨List.Pairwise.nil, by simp, fun x hx => by cases hx⟩
  · have h1 : ss.length ≤ 4096 := by
      rcases Nat.lt_or_ge 4096 ss.length with q | q
      · exact absurd (.inl q) h
      · exact q
    have h2 : anyLong ss = false := by
      cases q : anyLong ss with
      | true => exact absurd (.inr q) h
      | false => rfl
    rw [idxR_good h1 h2]
    exact ⟨dents_asc ss, Nat.le_trans (dents_len _ ss rfl) h1, fun x hx => ⟨dents_mem.1 hx, dents_short h2 x hx⟩⟩

end Go.Proofs.Ytkmnhapeohlooaa
