/-
  Layer 17: a map of times: one more, one less, the least.
-/
import Derived.Test.YtkmnhapeohlooaaMV0
import Derived.Maps.OwnOps
namespace Go.Proofs.Ytkmnhapeohlooaa
open Go.RowKit Go.Maps
set_option maxRecDepth 100000

theorem lawZ : Keyed Try.prog 2 := int_keyed Try.underlying2
theorem zeroI (w : World) : (zeroValue 3).run Try.prog w = .ok (.int .i64 0) w := by kernel_rfl

/-- Block b is a map of at most n times: how often each time of l is there. -/
def MT (w : World) (b n : Nat) (l : List Int) : Prop := ∃ D : DataW Unit, w.ownsMap Try.prog 2 (plainElem Try.prog 3) b n D ∧ Cnt D l

theorem MT.lt {w : World} {b n : Nat} {l : List Int} (h : MT w b n l) : b < w.heap.size := by obtain ⟨D, h, _⟩ := h; exact h.lt
theorem MT.mono {w : World} {b n n' : Nat} {l : List Int} (h : MT w b n l) (hn : n ≤ n') : MT w b n' l := by obtain ⟨D, h, k⟩ := h; exact ⟨D, h.mono hn, k⟩
theorem MT.perm {w : World} {b n : Nat} {l l' : List Int} (h : MT w b n l) (hp : ∀ t, l'.count t = l.count t) : MT w b n l' := by obtain ⟨D, h, k⟩ := h; exact ⟨D, h, k.perm hp⟩
theorem MT.grown {w w' : World} {b n : Nat} {l : List Int} {row : Option Nat} (h : MT w b n l) (hg : w.grownBy w' row) (hne : some b ≠ row) : MT w' b n l := by obtain ⟨D, h, k⟩ := h; exact ⟨D, h.kept hg hne, k⟩
theorem MT.ext {w w' : World} {b n : Nat} {l : List Int} (h : MT w b n l) (he : Ext w w') : MT w' b n l := h.grown (row := none) ⟨he.os, he.tape, he.output, he.size, fun i hi _ => he.block i hi⟩ (by simp)

set_option maxHeartbeats 800000 in
theorem tadd_any (b n : Nat) (l : List Int) (t : Int) (w : World) (h : MT w b n l) (ht : R64 t) (hn : n < 4611686018427387904) (hl : l.length < 4611686018427387904) :
    Calls Try.prog 64 #[.map (some b), .int .i64 t] w fun e w' => e = .returned (.tuple #[]) ∧ MT w' b (n + 1) (l ++ [t]) ∧ w.grownBy w' (some b) := by
  obtain ⟨D, hown, hC⟩ := h
  have hkey := keyOf_int_mk Try.underlying2 ht.wf
  have hm : l.count t ≤ l.length := List.count_le_length
  obtain ⟨m, hm2⟩ : ∃ m, m = l.count t := ⟨_, rfl⟩
  have hat0 : D.atKey (tkey t) (.lit (.int .i64 0)) = .lit (.int .i64 (m : Int)) := by rw [hm2]; exact hC.at_ t
  have hml : m < 4611686018427387904 := by omega
  have Hm2 := Lib.hid hm2
  have Hat := Lib.hid hat0
  have HC := Lib.hid hC
  clear hm hm2 hat0 hC
  go_enter Try.func64, Try.ntmps64
  go_wp2_with (first
    | (at_lookup; refine wpList_lookup_own_int _ rfl _ _ 81 rfl 2 3 .i64 lawZ Try.underlying81 Try.underlying3 (zeroI _) b n D rfl hown _ _ rfl hkey ?_; intro c hat hwc; obtain rfl : c = (m : Int) := (by have := hat.symm.trans Hat.out; injection this with this; injection this); clear hat hwc)
    | (at_mapUpdate; refine wpList_mapUpdate_in _ rfl _ _ _ 81 rfl 2 3 lawZ Try.underlying81 _ b n D rfl hown (by unfold maxLen; omega) _ _ _ rfl rfl hkey _ [] (plainElem_int Try.underlying3 (R64.wf (by constructor <;> omega))) ?_; intro w1 hown1 hturn1)
    | go_in)
  go_end0
  refine ⟨rfl, ⟨_, hown1, HC.out.put ?_ ?_ ?_⟩, hturn1.grown⟩
  · rw [count_snoc, if_pos rfl, ← Hm2.out]; simp
  · rw [count_snoc, if_pos rfl]; omega
  · intro s hs; rw [count_snoc, if_neg hs]; rfl

theorem count_erase_ne {l : List Int} {s t : Int} (h : s ≠ t) : (l.erase t).count s = l.count s := by
  rw [List.count_erase, if_neg (by simpa using fun e : t = s => h e.symm), Nat.sub_zero]
theorem count_erase_eq (l : List Int) (t : Int) : (l.erase t).count t = l.count t - 1 := by
  rw [List.count_erase, if_pos (by simp)]

set_option maxHeartbeats 1600000 in
theorem ttake_any (b n : Nat) (l : List Int) (t : Int) (w : World) (h : MT w b n l) (ht : R64 t) (hn : n < 4611686018427387904) (hl : l.length < 4611686018427387904) :
    Calls Try.prog 65 #[.map (some b), .int .i64 t] w fun e w' => e = .returned (.int .i64 (if t ∈ l then 0 else 172)) ∧ MT w' b (n + 1) (l.erase t) ∧ w.grownBy w' (some b) := by
  have h0 := h
  obtain ⟨D, hown, hC⟩ := h
  have hkey := keyOf_int_mk Try.underlying2 ht.wf
  have hm : l.count t ≤ l.length := List.count_le_length
  obtain ⟨m, hm2⟩ : ∃ m, m = l.count t := ⟨_, rfl⟩
  have hat0 : D.atKey (tkey t) (.lit (.int .i64 0)) = .lit (.int .i64 (m : Int)) := by rw [hm2]; exact hC.at_ t
  have hml : m < 4611686018427387904 := by omega
  have hmem : t ∈ l ↔ 0 < m := by rw [hm2]; exact List.count_pos_iff.symm
  obtain ⟨E, hE⟩ : ∃ E : Int, E = if t ∈ l then 0 else 172 := ⟨_, rfl⟩
  rw [← hE]
  have Hm2 := Lib.hid hm2
  have Hat := Lib.hid hat0
  have HC := Lib.hid hC
  have HE := Lib.hid hE
  have Hmem := Lib.hid hmem
  have H0 := Lib.hid h0
  have Hother : Hid (∀ s, s ≠ t → (l.erase t).count s = l.count s) := Lib.hid (fun s hs => count_erase_ne hs)
  have Hsame := Lib.hid (count_erase_eq l t)
  clear hm hm2 hat0 hC hE hmem h0
  have key : m = 0 ∨ m = 1 ∨ 2 ≤ m := by omega
  rcases key with rfl | rfl | q
  · have HE2 : Hid (E = 172) := Lib.hid (by rw [HE.out, if_neg (fun q => by have := Hmem.out.1 q; omega)])
    go_enter Try.func65, Try.ntmps65
    go_wp2_with (first
      | (at_lookup; refine wpList_lookup_own_int _ rfl _ _ 81 rfl 2 3 .i64 lawZ Try.underlying81 Try.underlying3 (zeroI _) b n D rfl hown _ _ rfl hkey ?_; intro c hat hwc; obtain rfl : c = ((0 : Nat) : Int) := (by have := hat.symm.trans Hat.out; injection this with this; injection this); clear hat hwc)
      | go_in)
    go_ret
    refine ⟨by rw [HE2.out]; rfl, ?_, hown.turned_refl.grown⟩
    rw [List.erase_of_not_mem (fun q => by have := Hmem.out.1 q; omega)]
    exact H0.out.mono (by omega)
  · have HE2 : Hid (E = 0) := Lib.hid (by rw [HE.out, if_pos (Hmem.out.2 (by omega))])
    go_enter Try.func65, Try.ntmps65
    go_wp2_with (first
      | (at_lookup; refine wpList_lookup_own_int _ rfl _ _ 81 rfl 2 3 .i64 lawZ Try.underlying81 Try.underlying3 (zeroI _) b n D rfl hown _ _ rfl hkey ?_; intro c hat hwc; obtain rfl : c = ((1 : Nat) : Int) := (by have := hat.symm.trans Hat.out; injection this with this; injection this); clear hat hwc)
      | (at_delete; refine wpList_delete_own _ rfl _ _ 81 2 rfl 3 lawZ Try.underlying81 _ b n D rfl hown _ _ rfl hkey ?_; intro w1 hown1 hturn1)
      | go_in)
    go_ret
    refine ⟨by rw [HE2.out]; rfl, ⟨_, hown1.mono (by omega), HC.out.del ?_ Hother.out⟩, hturn1.grown⟩
    rw [Hsame.out, ← Hm2.out]
  · have HE2 : Hid (E = 0) := Lib.hid (by rw [HE.out, if_pos (Hmem.out.2 (by omega))])
    have q0 : ((m : Int) == 0) = false := by simp; omega
    have q1 : ((m : Int) == 1) = false := by simp; omega
    go_enter Try.func65, Try.ntmps65
    go_wp2_with (first
      | (at_lookup; refine wpList_lookup_own_int _ rfl _ _ 81 rfl 2 3 .i64 lawZ Try.underlying81 Try.underlying3 (zeroI _) b n D rfl hown _ _ rfl hkey ?_; intro c hat hwc; obtain rfl : c = (m : Int) := (by have := hat.symm.trans Hat.out; injection this with this; injection this); clear hat hwc)
      | (at_mapUpdate; refine wpList_mapUpdate_in _ rfl _ _ _ 81 rfl 2 3 lawZ Try.underlying81 _ b n D rfl hown (by unfold maxLen; omega) _ _ _ rfl rfl hkey _ [] (plainElem_int Try.underlying3 (R64.wf (by constructor <;> omega))) ?_; intro w1 hown1 hturn1)
      | go_in)
    go_ret
    refine ⟨by rw [HE2.out]; rfl, ⟨_, hown1, HC.out.put ?_ ?_ Hother.out⟩, hturn1.grown⟩
    · rw [Hsame.out, ← Hm2.out]; omega
    · rw [Hsame.out, ← Hm2.out]; omega

end Go.Proofs.Ytkmnhapeohlooaa
