/-
  Layer 9: the document's examples; the statements PackedEncodes and PackedDecodes, walked.
-/
import Derived.Test.YtoefhblojoaikaaP9d
import Derived.Test.YtoefhblojoaikaaP9g
import Derived.Test.YtoefhblojoaikaaP9i
import Derived.Test.YtoefhblojoaikaaA3
import Derived.Test.YtoefhblojoaikaaPU
namespace Go.Proofs.Ytoefhblojoaikaa
open Go.RowKit

theorem ex9_enc : encode9 [10, 12, 11] = ([3, 20, 2, 24], 0) := by decide +kernel
theorem ex9_dec : decode9 [3, 20, 2, 24] = ([10, 12, 11], 0) := by decide +kernel
theorem ex9_rng : rangeR [3, 20, 2, 24] = (10, 12, 3, 0) := by decide +kernel

theorem RdG.cellZ {w : World} {b o n : Nat} {xs : List Int} (h : RdG shZ w (some ⟨b, o, none⟩) n xs) {j : Nat} {x : Int} (hj : xs[j]? = some x) : w.cell? ⟨b, o + j, none⟩ = some (.int .i64 x) := by
  obtain ⟨b', o', e, _, hc⟩ := h.2 (by have := (List.getElem?_eq_some_iff.1 hj).1; rw [h.1] at this; omega)
  injection e with e
  injection e with e1 e2
  subst e1
  subst e2
  have := hc j x hj 0 _ rfl
  rw [show o + j * shZ.sz + 0 = o + j from by show o + j * 1 + 0 = o + j; omega] at this
  exact this

set_option maxHeartbeats 1600000 in
theorem alive9 (w : World) : Calls Try.prog 31 #[] w fun e w' => e = .returned (.bool true) ∧ Ext w w' := by
  have hE : ∀ (W : World) o, Ext W (W.alloc o) := fun W o => (Ext.refl W).alloc o
  go_enter Try.func31, Try.ntmps31
  go_wp2_with fail
  refine (pencode_any _ 3 3 [10, 12, 11] _ (RdG.lit shZ 2 w [10, 12, 11] rfl rfl) (by intro v hv; simp at hv; rcases hv with rfl | rfl | rfl <;> exact ⟨by decide, by decide⟩)).mono ?_
  rintro e w1 ⟨A1, c1, rfl, hown1, he1⟩
  rw [ex9_enc] at hown1 ⊢
  have he1' := (hE w _).trans he1
  clear he1
  go_wp2_with fail
  refine (pdecode_any _ 4 4 [3, 20, 2, 24] _ (Rd.lit_at .u8 5 w1 [3, 20, 2, 24] rfl rfl) (by intro v hv; simp at hv; omega) (by omega) (by omega) (by omega)).mono ?_
  rintro e w2 ⟨A2, c2, rfl, hown2, he2⟩
  rw [ex9_dec] at hown2 ⊢
  have he2' := (hE w1 _).trans he2
  clear he2
  go_wp2_with fail
  refine (prange_any _ 4 4 [3, 20, 2, 24] _ (Rd.lit_at .u8 5 w2 [3, 20, 2, 24] rfl rfl) (by intro v hv; simp at hv; omega) (by omega) (by omega) (by omega)).mono ?_
  rintro e w3 ⟨rfl, he3⟩
  rw [ex9_rng]
  have he3' := (hE w2 _).trans he3
  clear he3
  have hr1 := (hown1.rd.ext he2').ext he3'
  obtain ⟨b2, hA2⟩ := hown2.head (by decide)
  subst hA2
  have hr2 := hown2.rd.ext he3'
  clear hown1 hown2
  go_wp2_with fail
  refine (same_any _ _ 4 _ 4 _ [3, 20, 2, 24] [3, 20, 2, 24] _ (hr1.ext (hE w3 _)) (Rd.lit_at .u8 5 w3 [3, 20, 2, 24] rfl rfl) (by omega) (by omega)).mono ?_
  rintro e w4 ⟨rfl, q, rfl⟩
  have k1 : ((w3.alloc (.cells #[.int .u8 3, .int .u8 20, .int .u8 2, .int .u8 24] 5)).drewN q).cell? ⟨b2, 1, none⟩ = some (.int .i64 12) := (hr2.ext (hE w3 _)).cellZ (o := 0) (j := 1) rfl
  go_wp2_with fail
  go_ret
  exact ⟨rfl, (((he1'.trans he2').trans he3').trans (hE w3 _)).drewN q⟩

theorem encP_u8 (vs : List Int) (h : R64s vs) : U8 (encP vs) := by
  unfold encP
  split
  · exact vput_u8 _
  · rename_i hn
    have := wid_le h (by omega)
    intro v hv
    rcases List.mem_append.1 hv with h1 | h1
    · exact vput_u8 _ v h1
    · rcases List.mem_append.1 h1 with h1 | h1
      · exact vput_u8 _ v h1
      · rcases List.mem_append.1 h1 with h1 | h1
        · simp at h1; omega
        · exact packB_u8 _ _ v h1
theorem encode9_u8 (vs : List Int) (h : R64s vs) : U8 (encode9 vs).1 := by
  unfold encode9
  split
  · intro v hv; cases hv
  · exact encP_u8 vs h
theorem encP_len {vs : List Int} (h : R64s vs) (h4 : vs.length ≤ 4096) : (encP vs).length ≤ 40000 := by
  unfold encP
  split
  · rw [vput_len]; have := vsize_le (u := 0) (by omega); omega
  · rename_i hn
    have h1 := wid_le h (by omega)
    have h2 := fold_range (h _ (lo_mem (show 0 < vs.length by omega)))
    have a1 := vsize_le (u := vs.length) (by omega)
    have a2 := vsize_le (u := (foldS (lo vs)).toNat) (by omega)
    have a3 : wid vs * vs.length ≤ 64 * 4096 := Nat.mul_le_mul h1 h4
    rw [List.length_append, List.length_append, List.length_append, vput_len, vput_len, packB_len, dst_len]
    simp only [List.length_singleton]
    omega
theorem encode9_len {vs : List Int} (h : R64s vs) : (encode9 vs).1.length ≤ 40000 := by
  unfold encode9
  split
  · simp
  · exact encP_len h (by omega)

theorem apart3V {w2 w3 w4 w5 : World} {A3 A4 A5 : Option Addr} {c3 c4 c5 n : Nat} {xs : List Nat} (h3 : Own .u8 5 w3 w2.heap.size A3 c3 xs) (e3 : Ext w2 w3) (h4 : Own .u8 5 w4 w3.heap.size A4 c4 xs) (e4 : Ext w3 w4)
    (h5 : Own .u8 5 w5 w4.heap.size A5 c5 xs) (e5 : Ext w4 w5) (hl : xs.length = n) (hu : U8 xs) (hn : n + 70 ≤ 180000000000000) :
    Calls Try.prog 19 #[.slice A3 n c3, .slice A4 n c4, .slice A5 n c5] w5 fun e w' => e = .returned (.bool true) ∧ Ext w2 w' := by
  refine apart_any A3 A4 A5 n c3 c4 c5 w2.heap.size xs w2 w5 ((h3.ext e4).ext e5) hl hu ((h4.ext e5).rd' hl) (h5.rd' hl) ?_ ?_ ((e3.trans e4).trans e5) (Nat.le_refl _) ((e3.trans e4).trans e5).size hn
  · intro a a2 ha ha2
    have := (h3.block a ha).2
    have := (h4.block a2 ha2).1
    omega
  · intro a a3 ha ha3
    have := (h3.block a ha).2
    have := (h5.block a3 ha3).1
    have := e4.size
    omega

set_option maxHeartbeats 3200000 in
theorem walk_PackedEncodes (A : Option Addr) (n c : Nat) (vs : List Int) (w : World) (hx : RdG shZ w A n vs) (hv : R64s vs) (hn : n * 8 ≤ 140737488351232) :
    Calls Try.prog 8 #[.slice A n c] w fun e w' => e = .returned (.bool true) ∧ Ext w w' := by
  have Hl := Lib.hid hx.len
  have he1 := encode9_len hv
  have he2 := encode9_u8 vs hv
  obtain ⟨⟨P, F⟩, hR2⟩ : ∃ R, R = encode9 vs := ⟨_, rfl⟩
  rw [← hR2] at he1 he2
  simp only at he1 he2
  obtain ⟨p, hp⟩ : ∃ p, p = P.length := ⟨_, rfl⟩
  rw [← hp] at he1
  have Hp := Lib.hid hp.symm
  have HE1 : Hid (∀ (B : Option Addr) (cb : Nat) (W : World), RdG shZ W B n vs → Calls Try.prog 32 #[.slice B n cb] W fun e w' => ∃ A' c', e = .returned (.tuple #[.slice A' p c', .int .i64 F]) ∧ Own .u8 5 w' W.heap.size A' c' P ∧ Ext W w') := Lib.hid (fun B cb W h1 => by
    have h := pencode_any B n cb vs W h1 hv
    unfold Enc9Post at h
    rw [← hR2] at h
    simp only [← hp] at h
    exact h)
  have HE2 : Hid (∀ (B : Option Addr) (cb : Nat) (W : World), RdG shZ W B n vs → Calls Try.prog 33 #[.slice B n cb] W fun e w' => ∃ A' c', e = .returned (.tuple #[.slice A' p c', .int .i64 F]) ∧ Own .u8 5 w' W.heap.size A' c' P ∧ Ext W w') := Lib.hid (fun B cb W h1 => by
    have h := refPencode_any B n cb vs W h1 hv
    unfold Enc9Post at h
    rw [← hR2] at h
    simp only [← hp] at h
    exact h)
  have k2 : (F == F) = true := by simp
  have Hu := Lib.hid he2
  clear hp hR2 hv he2
  go_enter Try.func8, Try.ntmps8
  go_wp2_with fail
  refine (alive9 _).mono ?_
  rintro e w1 ⟨rfl, he1⟩
  have hx1 := hx.ext he1
  go_wp2_with fail
  refine (copyZ_any A n c vs _ hx1 (by omega)).mono ?_
  rintro e w2 ⟨A2, c2, rfl, hown2, he2⟩
  have hxr := hx1.ext he2
  have hmr := hown2.rd' Hl.out
  have hE3 := he1.trans he2
  clear hown2 he1 he2 hx1 hx
  go_wp2_with fail
  refine (HE1.out _ _ _ hmr).mono ?_
  rintro e w8 ⟨A8, c8, rfl, hown8, he8⟩
  go_wp2_with fail
  refine (HE1.out _ _ _ (hmr.ext he8)).mono ?_
  rintro e w9 ⟨A9, c9, rfl, hown9, he9⟩
  go_wp2_with fail
  refine (HE2.out _ _ _ ((hxr.ext he8).ext he9)).mono ?_
  rintro e w10 ⟨A10, c10, rfl, hown10, he10⟩
  go_wp2_with fail
  refine (apart3V hown8 he8 hown9 he9 hown10 he10 Hp.out Hu.out (by omega)).mono ?_
  rintro e w11 ⟨rfl, he11⟩
  go_wp2_with fail
  refine (sameZ_yes (hmr.ext he11) (hxr.ext he11) (by omega)).mono ?_
  rintro e w13 ⟨rfl, q13, rfl⟩
  go_wp2_with fail
  go_ret
  exact ⟨rfl, (hE3.trans he11).drewN _⟩

end Go.Proofs.Ytoefhblojoaikaa
