/-
  Layer 13: one key handed to Add; the document's examples; a filter made of keys.
-/
import Derived.Test.YtgmjpilinhmjoaaQ10
import Derived.Test.YtgmjpilinhmjoaaCSs
namespace Go.Proofs.Ytgmjpilinhmjoaa
open Go.RowKit
set_option maxRecDepth 100000

/-- A row of one key stays while the filter's row turns. -/
theorem rdss_one (e : TypeId) {w : World} {A : Option Addr} {n c r b : Nat} {xs : List Nat} (hx : Rd .u8 w A n xs) (hA : 0 < n → ∀ a, A = some a → a.block ≠ r) (hr : r < w.heap.size) (hb : w.heap.size = b) (W : World) (hW : (w.alloc (.cells #[.slice A n c] e)).grownBy W (some r)) : RdSS W (some ⟨b, 0, none⟩) 1 [xs] := by
  subst hb
  have h1 := heap_alloc_new w (.cells #[.slice A n c] e)
  have h2 : W.heap[w.heap.size]? = some (.cells #[.slice A n c] e) := (hW.block w.heap.size (by simp) (fun e => by have e2 : w.heap.size = r := Option.some.inj e; omega)).trans h1
  refine ⟨rfl, fun _ => ⟨w.heap.size, 0, rfl, (Array.getElem?_eq_some_iff.1 h2).1, fun j hj => ?_⟩⟩
  obtain rfl : j = 0 := by omega
  refine ⟨A, n, c, cell_of_row W w.heap.size 0 _ e (0, 0) h2, ?_⟩
  show Rd .u8 W A n xs
  exact (hx.ext ((Ext.refl _).alloc _)).grown0 hW (fun h a ha e => hA h a ha (Option.some.inj e))

theorem e_new : newLen 10 = 13 := by decide
theorem e_none : hasF (List.replicate 13 0) [97] = false := by decide +kernel
theorem e_hash : fnv [97] = 12638187200555641996 := by decide +kernel
theorem e_count : 0 < countF (addF (List.replicate 13 0) [97]) ∧ countF (addF (List.replicate 13 0) [97]) ≤ 6 := by decide +kernel

theorem addAll_one (fs k : List Nat) : addAll fs [k] = addF fs k := rfl

theorem dec_enc (A : Option Addr) (c : Nat) (fs : List Nat) (w : World) (hx : Rd .u8 w A (encF fs).length (encF fs)) (hu : U8 fs) (lo : 8 ≤ fs.length) (hi : fs.length ≤ 5120) (hc : (encF fs).length ≤ c) (hcm : c ≤ 9223372036854775807) :
    Calls Try.prog 26 #[.slice A (encF fs).length c] w fun e w' => ∃ g r, e = .returned (.tuple #[.pointer (some ⟨g, 0, none⟩), .int .i64 0]) ∧ Fil w' w.heap.size g r fs ∧ Ext w w' := by
  have hl := encF_len fs
  have hv := vsize_le (u := fs.length) (by omega)
  obtain ⟨h1, h2⟩ := enc_dec hu lo hi
  refine (fdecode_any A _ c (encF fs) w hx (encF_u8 hu) (by omega) hc hcm).mono ?_
  rintro e w' ⟨he, ⟨h, _⟩ | ⟨_, g, r, rfl, hf⟩⟩
  · exact absurd h1 h
  · rw [h2] at hf
    exact ⟨g, r, rfl, hf, he⟩
theorem u97 : U8 [97] := by intro x hx; simp at hx; subst hx; decide
theorem u97s : U8s [[97]] := by intro x hx; simp at hx; subst hx; exact u97

set_option maxHeartbeats 4000000 in
theorem alive13 (w : World) : Calls Try.prog 7 #[] w fun e w' => e = .returned (.bool true) ∧ Ext w w' := by
  have hcv := conv_const
  have hF0 : ∀ W, Calls Try.prog 8 #[.int .i64 10] W fun e w' => ∃ g r, e = .returned (.pointer (some ⟨g, 0, none⟩)) ∧ Fil w' W.heap.size g r (List.replicate 13 0) ∧ Ext W w' := fun W => by
    have := new_any 10 W (by decide) (by decide)
    rwa [e_new] at this
  obtain ⟨F0, hF⟩ : ∃ F0 : List Nat, F0 = List.replicate 13 0 := ⟨_, rfl⟩
  have hl0 : F0.length = 13 := by rw [hF, List.length_replicate]
  have hno := e_none
  have hcn := e_count
  rw [← hF] at hno hcn hF0
  obtain ⟨F1, hF1⟩ : ∃ F1, F1 = addF F0 [97] := ⟨_, rfl⟩
  have hl1 : F1.length = 13 := by rw [hF1, addF_len, hl0]
  have hyes : hasF F1 [97] = true := by rw [hF1]; exact has_addF (by omega) _
  rw [← hF1] at hcn
  have HF0 := Lib.hid hF0
  have HF1 := Lib.hid hF1
  have Hl0 := Lib.hid hl0
  have Hl1 := Lib.hid hl1
  have Hno := Lib.hid hno
  have Hyes := Lib.hid hyes
  have Hcn := Lib.hid hcn
  clear hF0 hF hl0 hno hF1 hl1 hyes hcn
  go_enter Try.func7, Try.ntmps7
  go_wp2_with fail
  refine (HF0.out w).mono ?_
  rintro e w1 ⟨g, r, rfl, hf, he1⟩
  go_wp2_with fail
  have hrg1 := hf.rlt
  have HB := bits_any _ g r F0 w1 hf
  rw [Hl0.out] at HB
  refine HB.mono ?_
  rintro e w1' ⟨rfl, rfl⟩
  go_wp2_with fail
  have hm1 : Rd .u8 (w1.alloc (.cells #[.int .u8 97] 5 (1, 2))) (some ⟨w1.heap.size, 0, none⟩) 1 [97] := Rd.mark_at .u8 5 (1, 2) w1 [97] rfl rfl
  have HH := has_any _ g r F0 _ 1 1 [97] _ (hf.ext ((Ext.refl _).alloc _)) hm1 u97 (by decide)
  rw [Hno.out] at HH
  refine HH.mono ?_
  rintro e w2 ⟨rfl, he2⟩
  have he12 : Ext w1 w2 := ((Ext.refl _).alloc _).trans he2
  have hf2 := hf.ext he12
  have hrg2 := hf2.rlt
  go_wp2_with fail
  have hm2 : Rd .u8 (w2.alloc (.cells #[.int .u8 97] 5 (1, 2))) (some ⟨w2.heap.size, 0, none⟩) 1 [97] := Rd.mark_at .u8 5 (1, 2) w2 [97] rfl rfl
  refine (fadd_any _ g r F0 _ 1 1 [[97]] _ (hf2.ext (((Ext.refl _).alloc _).alloc _)) (fun W hW => rdss_one 23 hm2 (fun _ a ha => by have e2 := Option.some.inj ha; subst e2; show w2.heap.size ≠ r; omega) (by simp; omega) (by simp) W hW) u97s (by intro xs hxs; simp at hxs; subst hxs; decide) (by decide)).mono ?_
  rintro e w3 ⟨rfl, hf3, hg3⟩
  rw [addAll_one, ← HF1.out] at hf3
  have he3 : Ext w w3 := grownBy_ext (((he1.trans he12).alloc _).alloc _) hg3 (fun x e => by have e2 : r = x := Option.some.inj e; omega)
  go_wp2_with fail
  refine (encode_any _ g r F1 w3 hf3).mono ?_
  rintro e w4 ⟨A4, c4, rfl, hown4, he4⟩
  go_wp2_with fail
  have hcap := hown4.cap
  refine (dec_enc A4 c4 F1 w4 hown4.rd hf3.u8 hf3.lo hf3.hi hcap.1 hcap.2).mono ?_
  rintro e w5 ⟨g2, r2, rfl, hf5, he5⟩
  have he35 := he4.trans he5
  have hf35 := hf3.ext he35
  go_wp2_with fail
  have hm5 : Rd .u8 (w5.alloc (.cells #[.int .u8 97] 5 (1, 2))) (some ⟨w5.heap.size, 0, none⟩) 1 [97] := Rd.mark_at .u8 5 (1, 2) w5 [97] rfl rfl
  have HH5 := has_any _ g r F1 _ 1 1 [97] _ (hf35.ext ((Ext.refl _).alloc _)) hm5 u97 (by decide)
  rw [Hyes.out] at HH5
  refine HH5.mono ?_
  rintro e w6 ⟨rfl, he6⟩
  have he56 : Ext w5 w6 := ((Ext.refl _).alloc _).trans he6
  have hf6 := hf35.ext he56
  have hf6' := hf5.ext he56
  have hc0 : decide ((0 : Int) < (countF F1 : Int)) = true := decide_eq_true (by have := Hcn.out.1; omega)
  have hc6 : decide ((countF F1 : Int) ≤ 6) = true := decide_eq_true (by have := Hcn.out.2; omega)
  have hcp : 0 < countF F1 := Hcn.out.1
  have hcq : countF F1 ≤ 6 := Hcn.out.2
  go_wp2_with fail
  refine (count_any _ g r F1 w6 hf6).mono ?_
  rintro e w6' ⟨rfl, rfl⟩
  go_wp2_with fail
  refine (count_any _ g r F1 w6 hf6).mono ?_
  rintro e w6' ⟨rfl, rfl⟩
  go_wp2_with fail
  have hm6 : Rd .u8 (w6.alloc (.cells #[.int .u8 97] 5 (1, 2))) (some ⟨w6.heap.size, 0, none⟩) 1 [97] := Rd.mark_at .u8 5 (1, 2) w6 [97] rfl rfl
  have HH6 := has_any _ g2 r2 F1 _ 1 1 [97] _ (hf6'.ext ((Ext.refl _).alloc _)) hm6 u97 (by decide)
  rw [Hyes.out] at HH6
  refine HH6.mono ?_
  rintro e w7 ⟨rfl, he7⟩
  go_wp2_with fail
  have hm7 : Rd .u8 (w7.alloc (.cells #[.int .u8 97] 5 (1, 2))) (some ⟨w7.heap.size, 0, none⟩) 1 [97] := Rd.mark_at .u8 5 (1, 2) w7 [97] rfl rfl
  have HH7 := hash_any _ 1 1 [97] _ hm7 u97 (by decide)
  rw [e_hash] at HH7
  refine HH7.mono ?_
  rintro e w8 ⟨rfl, rfl⟩
  go_wp2_with fail
  go_ret
  exact ⟨rfl, (he3.trans (he35.trans (he56.trans (((Ext.refl _).alloc _).trans he7)))).alloc _⟩

end Go.Proofs.Ytgmjpilinhmjoaa
