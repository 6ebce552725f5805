import Derived.Test.YtnkggopkcjffoaaDoorG8
import Derived.Test.YtnkggopkcjffoaaDoorYK8h
import Derived.Test.YtnkggopkcjffoaaDoorYK8i
import Derived.Test.YtnkggopkcjffoaaDoorG7

/-
  Layer 7: the statement KeysBounds, walked.
-/
namespace Go.Proofs.YtnkggopkcjffoaaDoor
open Go.RowKit

theorem kbdsE_facts {keys : Int} {cs : List Col} {xs ys : List Ci} (hx : ∀ v ∈ xs.map Ci.val, U8 v.2.2) (hy : ∀ v ∈ ys.map Ci.val, U8 v.2.2) :
    U8 (kbdsE keys cs xs ys).1 ∧ U8 (kbdsE keys cs xs ys).2.1 ∧ (kbdsE keys cs xs ys).1.length ≤ 1206 ∧ (kbdsE keys cs xs ys).2.1.length ≤ 1206 := by
  have h0 : U8 ([] : List Nat) := by intro v hv; cases hv
  unfold kbdsE
  split
  · exact ⟨h0, h0, Nat.zero_le _, Nat.zero_le _⟩
  · split
    · exact ⟨h0, h0, Nat.zero_le _, Nat.zero_le _⟩
    · split
      · exact ⟨h0, h0, Nat.zero_le _, Nat.zero_le _⟩
      · exact ⟨kbndE_u8 hx, kbndE_u8 hy, kbndE_len, kbndE_len⟩

/-- Where one row alone may have been written. -/
theorem keptOne {w w' : World} {A : Option Addr} {c : Nat} {xs : List Nat} (h : Kept w w' [⟨A, c, xs⟩]) : w.grownBy w' (A.map (·.block)) :=
  ⟨h.os, h.tape, h.output, h.size, fun b hb hne => h.block b hb (fun s hs p hp e => by
    rw [List.mem_singleton.1 hs] at hp
    dsimp only at hp
    subst e
    exact hne (by rw [hp]; rfl))⟩

theorem off_one {A B : Option Addr} (h : ∀ a b, A = some a → B = some b → b.block ≠ a.block) : ∀ b, B = some b → some b.block ≠ A.map (·.block) := by
  intro b hb e
  cases hA : A with
  | none => rw [hA] at e; cases e
  | some a => rw [hA] at e; injection e with e; exact h a b hA hb e

set_option maxHeartbeats 6400000 in
set_option maxRecDepth 100000 in
theorem walk_KeysBounds (A : Option Addr) (n c : Nat) (keys : Int) (cs : List Col) (A2 : Option Addr) (n2 c2 : Nat) (xs : List Ci) (A3 : Option Addr) (n3 c3 : Nat) (ys : List Ci) (A4 : Option Addr) (n4 c4 : Nat) (ks : List Nat) (w : World) (hs : SchIn w A n c cs) (hx2 : RdX w A2 n2 xs) (hz2 : n2 * 40 ≤ 140737488351232) (hcap2 : ∀ x ∈ xs, x.txt.length ≤ x.c ∧ x.c ≤ 9223372036854775807) (hx3 : RdX w A3 n3 ys) (hz3 : n3 * 40 ≤ 140737488351232) (hcap3 : ∀ x ∈ ys, x.txt.length ≤ x.c ∧ x.c ≤ 9223372036854775807) (hb4 : Rd .u8 w A4 n4 ks) (hu4 : U8 ks) (hz4 : n4 ≤ 140737488351232) :
    Calls Tryd.prog 5 #[.agg #[.slice A n c, .int .i64 keys], .slice A2 n2 c2, .slice A3 n3 c3, .slice A4 n4 c4] w fun e w' => e = .returned (.bool true) ∧ Ext w w' := by
  go_enter Tryd.func5, Tryd.ntmps5
  go_wp2_with fail
  refine (alive7 _).mono ?_
  rintro e w1 ⟨rfl, he1⟩
  have ha := (AtS.box w A n c keys).ext he1
  have HW1 : Hid (Ext w w1) := Lib.hid (((Ext.refl w).alloc _).trans he1)
  have KS := Lib.hid (fun W (hW : Ext w1 W) => (show W.cell? ⟨w.heap.size, 0, none⟩ = some (.slice A n c) ∧ W.cell? ⟨w.heap.size, 1, none⟩ = some (.int .i64 keys) from ⟨(ha.ext hW).c0, (ha.ext hW).c1⟩))
  replace hs := hs.ext HW1.out
  replace hx2 := hx2.ext HW1.out
  replace hx3 := hx3.ext HW1.out
  replace hb4 := hb4.ext HW1.out
  obtain ⟨R, hR⟩ : ∃ R, R = kbdsE keys cs xs ys := ⟨_, rfl⟩
  have hRf := kbdsE_facts (keys := keys) (cs := cs) (rdX_u8 hx2) (rdX_u8 hx3)
  have HB := Lib.hid (fun W (hW : Ext w1 W) => kbounds_any A n c keys cs A2 n2 c2 xs A3 n3 c3 ys W (hs.ext hW) (hx2.ext hW) (by omega) hcap2 (hx3.ext hW) (by omega) hcap3)
  have HF := Lib.hid (fun W (hW : Ext w1 W) => refKBounds_any A n c keys cs A2 n2 c2 xs A3 n3 c3 ys W (hs.ext hW) (hx2.ext hW) (by omega) (hx3.ext hW) (by omega))
  unfold KBdsPost at HB
  unfold RBdsPost at HF
  rw [← hR] at HB HF hRf
  clear hR hs hx2 hx3 hcap2 hcap3
  obtain ⟨P, Q, E⟩ := R
  simp only at hRf
  obtain ⟨hPu, hQu, hPl, hQl⟩ := hRf
  obtain ⟨p, hp⟩ : ∃ p, P.length = p := ⟨_, rfl⟩
  obtain ⟨q, hq⟩ : ∃ q, Q.length = q := ⟨_, rfl⟩
  simp only [hp, hq] at HB HF hPl hQl
  have Hp := Lib.hid hp
  have Hq := Lib.hid hq
  have b1 : (E != E) = false := by simp
  obtain ⟨g, hg⟩ : ∃ g, g = withinF ks P Q := ⟨_, rfl⟩
  have b2 : (g != g) = false := by simp
  have Hg := Lib.hid hg
  clear hp hq hg
  have hk1 := KS.out _ (Ext.refl w1)
  obtain ⟨k10, k11⟩ := hk1
  go_wp2_with fail
  refine (HB.out _ (Ext.refl w1)).mono ?_
  rintro e w2 ⟨A5, c5, A6, c6, rfl, ho5, ho6, hlt56, he2⟩
  have hk2 := KS.out _ he2
  obtain ⟨k20, k21⟩ := hk2
  go_wp2_with fail
  refine (HB.out _ he2).mono ?_
  rintro e w3 ⟨A7, c7, A8, c8, rfl, ho7, ho8, _, he3⟩
  have hE3 := he2.trans he3
  have hk3 := KS.out _ hE3
  obtain ⟨k30, k31⟩ := hk3
  go_wp2_with fail
  refine (HF.out _ hE3).mono ?_
  rintro e w4 ⟨A9, c9, A10, c10, rfl, hr9, hr10, hl9, hl10, he4⟩
  have hE4 := hE3.trans he4
  have ho5' := (ho5.ext he3).ext he4
  have ho6' := (ho6.ext he3).ext he4
  have ho7' := ho7.ext he4
  have ho8' := ho8.ext he4
  have z3 := he3.size
  have z2 := he2.size
  have n57 : ∀ a b, A5 = some a → A7 = some b → b.block ≠ a.block := fun a b h1 h2 e => by have q1 := (ho5.block a h1).2; have q2 := (ho7.block b h2).1; omega
  have n59 : ∀ a b, A5 = some a → A9 = some b → b.block ≠ a.block := fun a b h1 h2 e => by have q1 := (ho5.block a h1).2; have q2 := hl9 b h2; omega
  have n56 : ∀ a b, A5 = some a → A6 = some b → b.block ≠ a.block := fun a b h1 h2 e => by have := hlt56 a b h1 h2; omega
  have n58 : ∀ a b, A5 = some a → A8 = some b → b.block ≠ a.block := fun a b h1 h2 e => by have q1 := (ho5.block a h1).2; have q2 := (ho8.block b h2).1; omega
  have n510 : ∀ a b, A5 = some a → A10 = some b → b.block ≠ a.block := fun a b h1 h2 e => by have q1 := (ho5.block a h1).2; have q2 := hl10 b h2; omega
  have n68 : ∀ a b, A6 = some a → A8 = some b → b.block ≠ a.block := fun a b h1 h2 e => by have q1 := (ho6.block a h1).2; have q2 := (ho8.block b h2).1; omega
  have n610 : ∀ a b, A6 = some a → A10 = some b → b.block ≠ a.block := fun a b h1 h2 e => by have q1 := (ho6.block a h1).2; have q2 := hl10 b h2; omega
  have l5 : ∀ a, A5 = some a → w1.heap.size ≤ a.block := fun a h => (ho5.block a h).1
  clear ho5 ho6 ho7 ho8 hl9 hl10 hlt56 he2 he3 he4 hE3 k10 k11 k20 k21 k30 k31 z2 z3
  have hS := same_yes (c := c5) (c' := c9) (ho5'.rd' Hp.out) hr9 (by omega)
  go_wp2_with fail
  refine hS.mono ?_
  rintro e w5 ⟨rfl, q5, rfl⟩
  have hS := same_yes (c := c6) (c' := c10) ((ho6'.rd' Hq.out).drewN q5) (hr10.drewN q5) (by omega)
  go_wp2_with fail
  refine hS.mono ?_
  rintro e w5 ⟨rfl, q6, rfl⟩
  have hE5 : Ext w4 (w4.drewN (q5 + q6)) := (Ext.refl w4).drewN _
  have hWi := within_any A4 A5 A6 n4 c4 p c5 q c6 ks P Q _ ((hb4.ext hE4).ext hE5) ((ho5'.rd' Hp.out).ext hE5) ((ho6'.rd' Hq.out).ext hE5) hu4 hPu hQu
  rw [← Hg.out] at hWi
  go_wp2_with fail
  refine hWi.mono ?_
  rintro e w5 ⟨rfl, rfl⟩
  have hWr := refWithin_any A4 A9 A10 n4 c4 p c9 q c10 ks P Q _ ((hb4.ext hE4).ext hE5) (hr9.ext hE5) (hr10.ext hE5) (by omega) (by omega) (by omega)
  rw [← Hg.out] at hWr
  go_wp2_with fail
  refine hWr.mono ?_
  rintro e w6 ⟨rfl, he6⟩
  have hE46 := hE5.trans he6
  have hE6 := hE4.trans hE46
  have ho5 := ho5'.ext hE46
  have ho6 := ho6'.ext hE46
  have hr7 := (ho7'.rd' Hp.out).ext hE46
  have hr8 := (ho8'.rd' Hq.out).ext hE46
  replace hr9 := hr9.ext hE46
  replace hr10 := hr10.ext hE46
  have hz6 := hE6.size
  have hA1 := apart_kept A5 A7 A9 p c5 c7 c9 w1.heap.size P w6 ho5 Hp.out hPu hr7 hr9 n57 n59 hz6 (by omega)
  clear ho5' ho6' ho7' ho8' hE4 hE5 he6 hWi hWr hS hb4
  go_wp2_with fail
  refine hA1.mono ?_
  rintro e w7 ⟨rfl, hk7⟩
  have hg7 := keptOne hk7
  have hE7 : Ext w1 w7 := hk7.toExt hE6 (fun s hs p hp => by rw [List.mem_singleton.1 hs] at hp; exact l5 p hp)
  have ho6'' := ho6.grown hg7 (off_one n56)
  have hr8' := hr8.grown hg7 (off_one n58)
  have hr10' := hr10.grown hg7 (off_one n510)
  have hz7 := hE7.size
  have hA2 := apart_any A6 A8 A10 q c6 c8 c10 w1.heap.size Q w1 w7 ho6'' Hq.out hQu hr8' hr10' n68 n610 hE7 (Nat.le_refl _) hz7 (by omega)
  clear hA1 hk7 hg7 ho5 ho6 hr7 hr8 hr9 hr10
  go_wp2_with fail
  refine hA2.mono ?_
  rintro e w8 ⟨rfl, he8⟩
  go_wp2_with fail
  go_ret
  exact ⟨rfl, HW1.out.trans he8⟩

end Go.Proofs.YtnkggopkcjffoaaDoor
