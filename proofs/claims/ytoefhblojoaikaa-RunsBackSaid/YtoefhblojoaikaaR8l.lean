/-
  Layer 8: the document's examples.
-/
import Derived.Test.YtoefhblojoaikaaR8i
import Derived.Test.YtoefhblojoaikaaR8k
namespace Go.Proofs.Ytoefhblojoaikaa
open Go.RowKit

theorem ex_split : split8 [7, 7, -1] = ([(7, 2), (-1, 1)], 0) := by decide +kernel
theorem ex_join : joinF [] [(7, 2), (-1, 1)] = ([7, 7, -1], 0) := by decide +kernel
theorem ex_enc : encode8 [7, 7, -1] = ([2, 14, 2, 1, 1], 0) := by decide +kernel
theorem ex_dec : decode8 [2, 14, 2, 1, 1] = ([7, 7, -1], 0) := by decide +kernel

theorem RdG.cell {T : Type} {s : Shape T} {w : World} {b o n : Nat} {xs : List T} (h : RdG s w (some ⟨b, o, none⟩) n xs) {j i : Nat} {x : T} {u : Value} (hj : xs[j]? = some x) (hu : (s.cells x)[i]? = some u) : w.cell? ⟨b, o + j * s.sz + i, none⟩ = some u := by
  obtain ⟨b', o', e, _, hc⟩ := h.2 (by have := (List.getElem?_eq_some_iff.1 hj).1; rw [h.1] at this; omega)
  injection e with e
  injection e with e1 e2
  subst e1
  subst e2
  exact hc j x hj i u hu

set_option maxHeartbeats 1600000 in
theorem alive8 (w : World) : Calls Try.prog 12 #[] w fun e w' => e = .returned (.bool true) ∧ Ext w w' := by
  have hE : ∀ (W : World) o, Ext W (W.alloc o) := fun W o => (Ext.refl W).alloc o
  go_enter Try.func12, Try.ntmps12
  go_wp2_with fail
  refine (split_any _ 3 3 [7, 7, -1] _ (RdG.lit shZ 2 w [7, 7, -1] rfl rfl) (by intro v hv; simp at hv; rcases hv with rfl | rfl <;> exact ⟨by decide, by decide⟩)).mono ?_
  rintro e w1 ⟨A1, c1, rfl, hown1, he1⟩
  rw [ex_split] at hown1 ⊢
  obtain ⟨b1, hA1⟩ := hown1.head (by decide)
  subst hA1
  have hr1 := hown1.rd
  have he1' := (hE w _).trans he1
  clear he1 hown1
  go_wp2_with fail
  refine (join_any _ 2 2 [(7, 2), (-1, 1)] _ (RdG.lit shR 33 w1 [(7, 2), (-1, 1)] rfl rfl) (by intro v hv; simp at hv; rcases hv with rfl | rfl <;> exact ⟨by decide, by decide⟩) (by omega)).mono ?_
  rintro e w2 ⟨A2, c2, rfl, hown2, he2⟩
  rw [ex_join] at hown2 ⊢
  have he2' := (hE w1 _).trans he2
  clear he2
  go_wp2_with fail
  refine (encode_any _ 3 3 [7, 7, -1] _ (RdG.lit shZ 2 w2 [7, 7, -1] rfl rfl) (by intro v hv; simp at hv; rcases hv with rfl | rfl <;> exact ⟨by decide, by decide⟩)).mono ?_
  rintro e w3 ⟨A3, c3, rfl, hown3, he3⟩
  rw [ex_enc] at hown3 ⊢
  have he3' := (hE w2 _).trans he3
  clear he3
  go_wp2_with fail
  refine (decode_any _ 5 5 [2, 14, 2, 1, 1] _ (Rd.lit_at .u8 5 w3 [2, 14, 2, 1, 1] rfl rfl) (by intro v hv; simp at hv; omega) (by omega) (by omega) (by omega)).mono ?_
  rintro e w4 ⟨A4, c4, rfl, hown4, he4⟩
  rw [ex_dec] at hown4 ⊢
  have he4' := (hE w3 _).trans he4
  clear he4
  obtain ⟨b4, hA4⟩ := hown4.head (by decide)
  subst hA4
  have k1 : w4.cell? ⟨b1, 1, none⟩ = some (.int .i64 2) := (hr1.ext ((he2'.trans he3').trans he4')).cell (o := 0) (j := 0) (i := 1) rfl rfl
  have k2 : w4.cell? ⟨b4, 2, none⟩ = some (.int .i64 (-1)) := hown4.rd.cell (o := 0) (j := 2) (i := 0) rfl rfl
  have hr3 := hown3.rd.ext he4'
  clear hr1 hown3 hown4 hown2
  go_wp2_with fail
  refine (same_any _ _ 5 _ 5 _ [2, 14, 2, 1, 1] [2, 14, 2, 1, 1] _ (hr3.ext (hE w4 _)) (Rd.lit_at .u8 5 w4 [2, 14, 2, 1, 1] rfl rfl) (by omega) (by omega)).mono ?_
  rintro e w5 ⟨rfl, q, rfl⟩
  go_wp2_with fail
  go_ret
  exact ⟨rfl, ((((he1'.trans he2').trans he3').trans he4').trans (hE w4 _)).drewN q⟩

end Go.Proofs.Ytoefhblojoaikaa
