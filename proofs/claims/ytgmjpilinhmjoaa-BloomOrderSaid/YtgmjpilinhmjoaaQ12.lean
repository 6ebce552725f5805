/-
  Layer 13: a filter made of keys.
-/
import Derived.Test.YtgmjpilinhmjoaaQ11
namespace Go.Proofs.Ytgmjpilinhmjoaa
open Go.RowKit
set_option maxRecDepth 100000

def zeros (n : Int) : List Nat := List.replicate (newLen n) 0
theorem zeros_len (n : Int) : (zeros n).length = newLen n := List.length_replicate
theorem newLen_lo (n : Int) : 8 ≤ newLen n := by unfold newLen; omega
theorem newLen_hi (n : Int) : newLen n ≤ 5120 := by unfold newLen; omega
theorem one_u8s {k : List Nat} (h : U8 k) : U8s [k] := by intro x hx; simp at hx; subst hx; exact h

set_option maxHeartbeats 2000000 in
theorem made_any (n : Int) (A : Option Addr) (m c : Nat) (ss : List Sl) (w : World) (h1 : -9223372036854775808 ≤ n) (h2 : n ≤ 9223372036854775807) (hx : TxL w A m ss) (hm : m ≤ 5900000000000) :
    Calls Try.prog 28 #[.int .i64 n, .slice A m c] w fun e w' => ∃ g r, e = .returned (.pointer (some ⟨g, 0, none⟩)) ∧ Fil w' w.heap.size g r (addAll (zeros n) (bodies ss)) ∧ Ext w w' := by
  have hlen := hx.len
  have hnew := new_any n w h1 h2
  have hz : zeros n = List.replicate (newLen n) 0 := rfl
  rw [← hz] at hnew
  obtain ⟨F0, hF0⟩ : ∃ F0, F0 = zeros n := ⟨_, rfl⟩
  rw [← hF0] at hnew ⊢
  have Hnew := Lib.hid hnew
  have Hx := Lib.hid hx
  have Hlen := Lib.hid hlen
  clear hz hF0 hnew hx hlen
  go_enter Try.func28, Try.ntmps28
  go_wp2_with fail
  refine Hnew.out.mono ?_
  rintro e w1 ⟨g, r, rfl, hf, he1⟩
  have hgr := hf.rlt
  go_wp2_with fail
  go_loopw [14] (fun i wr => ∃ j : Nat, j ≤ m ∧ i = .int .i64 (j : Int) ∧ Fil wr w.heap.size g r (addAll F0 ((bodies ss).take j)) ∧ Ext w wr ∧ r < wr.heap.size) (fun i _ => m - (intOf i).toNat)
  case atStart => exact ⟨0, Nat.zero_le _, rfl, hf, he1, hgr.2⟩
  case round =>
    obtain ⟨j, hj, rfl, hF, hE, hr⟩ := hrel
    by_cases hlt : j < m
    · obtain ⟨b, o, s, rfl, hs, hcell, hti⟩ := (Hx.out.ext hE).at_ hlt
      have hbl : (bodies ss).length = m := by rw [bodies_len, Hlen.out]
      have hnext : addAll F0 ((bodies ss).take (j + 1)) = addF (addAll F0 ((bodies ss).take j)) s.body := by
        rw [take_nextL _ _ (by omega), addAll_snoc, bodies_get hs]
      have hl := hti.len
      have hcopy := copy_any s.A s.body.length s.c s.body wr hti.rd (by omega)
      have hu := hti.u8
      have HF := Lib.hid hF
      have HE := Lib.hid hE
      have Hnext := Lib.hid hnext
      have Hcopy := Lib.hid hcopy
      have Hti := Lib.hid hti
      clear hF hE hnext hcopy hti hf
      go_wp2_with fail
      refine Hcopy.out.mono ?_
      rintro e w2 ⟨A2, c2, rfl, hown2, he2⟩
      have hne : ∀ a, A2 = some a → a.block ≠ r := fun a ha => by have := (hown2.block a ha).1; omega
      have hsz := he2.size
      go_wp2_with fail
      refine (fadd_any _ g r _ _ 1 1 [s.body] _ (HF.out.ext (he2.alloc _)) (fun W hW => rdss_one 23 hown2.rd (fun _ => hne) (by omega) rfl W hW) (one_u8s hu) (by intro xs hxs; simp at hxs; subst hxs; omega) (by decide)).mono ?_
      rintro e w3 ⟨rfl, hf3, hg3⟩
      rw [addAll_one, ← Hnext.out] at hf3
      have hE3 : Ext w w3 := grownBy_ext (HE.out.trans (he2.alloc _)) hg3 (fun x e => by have e2 : r = x := Option.some.inj e; omega)
      have hr3 := hf3.rlt.2
      go_wp2_with fail
      go_roundw
      case rel => exact ⟨j + 1, hlt, by go_num, hf3, hE3, hr3⟩
      case measure => simp [intOf]; omega
    · obtain rfl : j = m := by omega
      rw [List.take_of_length_le (by rw [bodies_len, Hlen.out]; exact Nat.le_refl _)] at hF
      go_wp2
      go_ret
      exact ⟨g, r, rfl, hF, hE⟩

end Go.Proofs.Ytgmjpilinhmjoaa
