/-
  Layer 18: the first node behind, Get, Seek.
-/
import Derived.Test.YtkmnhapeohlooaaSK4
namespace Go.Proofs.Ytkmnhapeohlooaa
open Go.RowKit
set_option maxRecDepth 100000

section
variable {w : World} {X : Nat → Prop} {base sb H : Nat} {ns : List Nd} {hs : List Int} (h : SL w X base sb ns hs H)
include h

set_option maxHeartbeats 1600000 in
theorem sbehind_any (_hb : ns.length ≤ 17592186044417) (a : Nat → Nat) (ha : a 0 < ns.length) :
    Calls Try.prog 79 #[.pointer (some ⟨sb, 0, none⟩), twv a] w fun e w' => e = .returned (.int .i64 (nxt ns (a 0) 0 : Int)) ∧ Ext w w' := by
  have hE : Ext w (w.alloc (.cells (twr a).toArray 105)) := (Ext.refl w).alloc _
  obtain ⟨b, cn, Ah, ch, hS⟩ := (h.ext hE).see
  have c0 := hS.c0
  have n0 := hS.nx (a 0) 0 ha (by omega)
  obtain ⟨cap1, cap2⟩ := hS.cap
  have b0 : (w.alloc (.cells (twr a).toArray 105)).cell? ⟨w.heap.size, 0, none⟩ = some (.int .i64 (a 0 : Int)) := by
    rw [cell_of_row _ w.heap.size 0 _ 105 (0, 0) (heap_alloc_new w _), List.getElem?_toArray]
    exact twr_at (by omega)
  rw [Nat.add_zero] at n0
  obtain ⟨x, hx⟩ : ∃ x, x = nxt ns (a 0) 0 := ⟨_, rfl⟩
  obtain ⟨i, hi⟩ : ∃ i, i = a 0 := ⟨_, rfl⟩
  obtain ⟨n, hn⟩ : ∃ n, n = ns.length := ⟨_, rfl⟩
  rw [← hx] at n0 ⊢
  rw [← hi] at n0 b0 ha
  rw [← hn] at c0 ha cap1
  have HE := Lib.hid hE
  clear hS h hx hi hn hE
  go_enter Try.func79, Try.ntmps79
  go_wp2_with fail
  go_quiet (fail)
  go_wp2_with fail
  go_ret
  exact ⟨rfl, HE.out.drewN _⟩

theorem sfirst_any (hb : ns.length ≤ 17592186044417) (A : Option Addr) (m c : Nat) (t : List Nat) (ht : Rd .u8 w A m t) (hu : U8 t) :
    Calls Try.prog 82 #[.pointer (some ⟨sb, 0, none⟩), .slice A m c] w fun e w' => (∃ j : Nat, e = .returned (.int .i64 (j : Int)) ∧ Fst ns.length (kb ns) t j) ∧ Ext w w' := by
  have CA := Lib.hid (sahead_any h hb A m c t ht hu)
  have CB := Lib.hid (fun W (hW : Ext w W) a ha => sbehind_any (h.ext hW) hb a ha)
  have Hsk := Lib.hid h.sk
  clear h ht hu
  go_enter Try.func82, Try.ntmps82
  go_wp2_with fail
  refine CA.out.mono ?_
  rintro e w1 ⟨⟨a, rfl, hA⟩, he1⟩
  have HA := Lib.hid hA
  have C2 := Lib.hid (CB.out _ he1 a (hA 0 (by omega)).lt)
  clear hA
  go_wp2_with fail
  refine C2.out.mono ?_
  rintro e w2 ⟨rfl, he2⟩
  go_wp2_with fail
  go_ret
  exact ⟨⟨_, rfl, fst_of Hsk.out (HA.out 0 (by omega))⟩, he1.trans he2⟩

set_option maxHeartbeats 800000 in
theorem shas_any (_hb : ns.length ≤ 17592186044417) (i : Nat) (hi : i < ns.length) (A : Option Addr) (m c : Nat) (t : List Nat) (ht : Rd .u8 w A m t) (hu : U8 t) :
    Calls Try.prog 80 #[.pointer (some ⟨sb, 0, none⟩), .int .i64 (i : Int), .slice A m c] w fun e w' => e = .returned (.bool (decide (i ≠ 0) && decide (kb ns i = t))) ∧ w = w' := by
  obtain ⟨b, cn, Ah, ch, hS⟩ := h.see
  have c0 := hS.c0
  obtain ⟨cap1, cap2⟩ := hS.cap
  have k0 := hS.key i hi
  by_cases i0 : i = 0
  · subst i0
    clear hS h k0 c0 cap1 cap2
    go_enter Try.func80, Try.ntmps80
    go_wp2_with fail
    go_ret
    exact ⟨rfl, rfl⟩
  · have hkx := h.keys i (by omega) hi
    have CC := Lib.hid (bequal_any (nat_ ns i).key.A (nat_ ns i).key.body.length (nat_ ns i).key.c (nat_ ns i).key.body A m c t w hkx.rd ht hkx.u8 hu)
    have hD : (decide (i ≠ 0) && decide (kb ns i = t)) = decide ((nat_ ns i).key.body = t) := by rw [decide_eq_true i0]; rfl
    rw [hD]
    have b0 : ((i : Int) != 0) = true := by simp; omega
    unfold Sl.v at k0
    obtain ⟨D, hDD⟩ : ∃ D, D = decide ((nat_ ns i).key.body = t) := ⟨_, rfl⟩
    rw [← hDD] at CC ⊢
    obtain ⟨kA, hkA⟩ : ∃ kA, kA = (nat_ ns i).key.A := ⟨_, rfl⟩
    obtain ⟨kn, hkn⟩ : ∃ kn, kn = (nat_ ns i).key.body.length := ⟨_, rfl⟩
    obtain ⟨kc, hkc⟩ : ∃ kc, kc = (nat_ ns i).key.c := ⟨_, rfl⟩
    obtain ⟨n, hn⟩ : ∃ n, n = ns.length := ⟨_, rfl⟩
    rw [← hkA, ← hkn, ← hkc] at k0 CC
    rw [← hn] at c0 hi cap1
    clear hS h hkx hD hDD hkA hkn hkc hn ht hu
    go_enter Try.func80, Try.ntmps80
    go_wp2_with fail
    refine CC.out.mono ?_
    rintro e w1 ⟨rfl, rfl⟩
    go_wp2_with fail
    go_ret
    exact ⟨rfl, rfl⟩

set_option maxHeartbeats 800000 in
theorem sget_any (hb : ns.length ≤ 17592186044417) (A : Option Addr) (m c : Nat) (t : List Nat) (ht : Rd .u8 w A m t) (hu : U8 t) :
    Calls Try.prog 44 #[.pointer (some ⟨sb, 0, none⟩), .slice A m c] w fun e w' => (∃ j : Nat, Fst ns.length (kb ns) t j ∧ e = .returned (.tuple #[.int .i64 (if j ≠ 0 ∧ kb ns j = t then vl ns j else 0), .bool (decide (j ≠ 0 ∧ kb ns j = t))])) ∧ Ext w w' := by
  have CA := Lib.hid (sfirst_any h hb A m c t ht hu)
  have CB := Lib.hid (fun W (hW : Ext w W) i hi => shas_any (h.ext hW) hb i hi A m c t (ht.ext hW) hu)
  have HS := Lib.hid (fun W (hW : Ext w W) => (h.ext hW).see)
  clear h ht hu
  go_enter Try.func44, Try.ntmps44
  go_wp2_with fail
  refine CA.out.mono ?_
  rintro e w1 ⟨⟨j, rfl, hF⟩, he1⟩
  have C2 := CB.out _ he1 j hF.lt
  obtain ⟨b, cn, Ah, ch, hS⟩ := HS.out _ he1
  have c0 := hS.c0
  obtain ⟨cap1, cap2⟩ := hS.cap
  have v0 := hS.val j hF.lt
  have hj := hF.lt
  have HF := Lib.hid hF
  by_cases q : j ≠ 0 ∧ kb ns j = t
  · have e1 : (decide (j ≠ 0) && decide (kb ns j = t)) = true := by rw [decide_eq_true q.1, decide_eq_true q.2]; rfl
    rw [e1] at C2
    have C2 := Lib.hid C2
    obtain ⟨x, hx⟩ : ∃ x, x = vl ns j := ⟨_, rfl⟩
    obtain ⟨n, hn⟩ : ∃ n, n = ns.length := ⟨_, rfl⟩
    rw [← hx] at v0
    rw [← hn] at c0 hj cap1
    have HR : Hid ((if j ≠ 0 ∧ kb ns j = t then vl ns j else 0) = x ∧ decide (j ≠ 0 ∧ kb ns j = t) = true) := Lib.hid ⟨by rw [if_pos q, hx], decide_eq_true q⟩
    clear hS hF e1 q hx hn
    go_wp2_with fail
    refine C2.out.mono ?_
    rintro e w2 ⟨rfl, rfl⟩
    go_wp2_with fail
    go_ret2
    exact ⟨⟨j, HF.out, by rw [HR.out.1, HR.out.2]; rfl⟩, he1⟩
  · have e1 : (decide (j ≠ 0) && decide (kb ns j = t)) = false := by
      rw [Bool.and_eq_false_iff]
      by_cases j0 : j ≠ 0
      · exact .inr (decide_eq_false (fun e => q ⟨j0, e⟩))
      · exact .inl (decide_eq_false j0)
    rw [e1] at C2
    have C2 := Lib.hid C2
    have HR : Hid ((if j ≠ 0 ∧ kb ns j = t then vl ns j else 0) = 0 ∧ decide (j ≠ 0 ∧ kb ns j = t) = false) := Lib.hid ⟨if_neg q, decide_eq_false q⟩
    clear hS hF e1 q v0 c0 cap1 cap2
    go_wp2_with fail
    refine C2.out.mono ?_
    rintro e w2 ⟨rfl, rfl⟩
    go_wp2_with fail
    go_ret2
    exact ⟨⟨j, HF.out, by rw [HR.out.1, HR.out.2]; rfl⟩, he1⟩

set_option maxHeartbeats 1600000 in
theorem sseek_any (hb : ns.length ≤ 17592186044417) (A : Option Addr) (m c : Nat) (t : List Nat) (ht : Rd .u8 w A m t) (hu : U8 t) :
    Calls Try.prog 42 #[.pointer (some ⟨sb, 0, none⟩), .slice A m c] w fun e w' => (∃ j : Nat, Fst ns.length (kb ns) t j ∧ ((j = 0 ∧ e = .returned (.tuple #[.slice none 0 0, .int .i64 0, .bool false])) ∨
      (j ≠ 0 ∧ ∃ A' c', e = .returned (.tuple #[.slice A' (kb ns j).length c', .int .i64 (vl ns j), .bool true]) ∧ Own .u8 5 w' w.heap.size A' c' (kb ns j)))) ∧ Ext w w' := by
  have CA := Lib.hid (sfirst_any h hb A m c t ht hu)
  have HS := Lib.hid (fun W (hW : Ext w W) => (h.ext hW).see)
  have HK := Lib.hid (fun W (hW : Ext w W) => (h.ext hW).keys)
  clear h ht hu
  go_enter Try.func42, Try.ntmps42
  go_wp2_with fail
  refine CA.out.mono ?_
  rintro e w1 ⟨⟨j, rfl, hF⟩, he1⟩
  have HF := Lib.hid hF
  have hj := hF.lt
  by_cases j0 : j = 0
  · subst j0
    clear hF
    go_wp2_with fail
    go_ret3
    exact ⟨⟨0, HF.out, .inl ⟨rfl, rfl⟩⟩, he1⟩
  · have b0 : ((j : Int) == 0) = false := by simp; omega
    obtain ⟨b, cn, Ah, ch, hS⟩ := HS.out _ he1
    have c0 := hS.c0
    obtain ⟨cap1, cap2⟩ := hS.cap
    have v0 := hS.val j hj
    have k0 := hS.key j hj
    have hlb : sb < w1.heap.size ∧ b < w1.heap.size := ⟨World.block_lt_of_cell? w1 _ c0, World.block_lt_of_cell? w1 _ v0⟩
    have hkx := HK.out _ he1 j (by omega) hj
    have CC := Lib.hid (fun W (hW : Ext w1 W) => clone_any (nat_ ns j).key.A (nat_ ns j).key.body.length (nat_ ns j).key.c (nat_ ns j).key.body W (hkx.rd.ext hW) (by have := hkx.len; omega))
    have HKB : Hid ((nat_ ns j).key.body = kb ns j) := Lib.hid rfl
    unfold Sl.v at k0
    rw [HKB.out] at k0 CC
    obtain ⟨kA, hkA⟩ : ∃ kA, kA = (nat_ ns j).key.A := ⟨_, rfl⟩
    obtain ⟨kn, hkn⟩ : ∃ kn, kn = (kb ns j).length := ⟨_, rfl⟩
    obtain ⟨kc, hkc⟩ : ∃ kc, kc = (nat_ ns j).key.c := ⟨_, rfl⟩
    obtain ⟨x, hx⟩ : ∃ x, x = vl ns j := ⟨_, rfl⟩
    obtain ⟨n, hn⟩ : ∃ n, n = ns.length := ⟨_, rfl⟩
    have Hkn := Lib.hid hkn
    have Hx := Lib.hid hx
    rw [← hkA, ← hkn, ← hkc] at k0 CC
    rw [← hx] at v0
    rw [← hn] at c0 hj cap1
    have hst : Hid (∀ W, Ext w1 W → W.cell? ⟨sb, 0, none⟩ = some (.slice (some ⟨b, 0, none⟩) n cn) ∧ W.cell? ⟨b, j * 14, none⟩ = some (.slice kA kn kc) ∧ W.cell? ⟨b, j * 14 + 1, none⟩ = some (.int .i64 x)) := Lib.hid fun W hW => ⟨(Below.cell hW (p := ⟨sb, 0, none⟩) hlb.1).trans c0, (Below.cell hW (p := ⟨b, j * 14, none⟩) hlb.2).trans k0, (Below.cell hW (p := ⟨b, j * 14 + 1, none⟩) hlb.2).trans v0⟩
    have h0 := hst.out w1 (Ext.refl _)
    clear hS hF hkx hkA hkn hkc hx hn hlb HKB c0 k0 v0
    go_wp2_with fail
    go_region_held3 (fun w' => w'.cell? ⟨sb, 0, none⟩ = some (.slice (some ⟨b, 0, none⟩) n cn) ∧ w'.cell? ⟨b, j * 14, none⟩ = some (.slice kA kn kc) ∧ w'.cell? ⟨b, j * 14 + 1, none⟩ = some (.int .i64 x))
      (first | exact h0 | exact hst.out _ he3 | fail)
      (first
        | (go_at_call 75; refine (CC.out _ ?_).mono ?_; (first | exact Ext.refl _ | exact (Ext.refl _).drew | exact Ext.of_drewN _ _ | fail); rintro e w2 ⟨A2, c2, rfl, hown2, he2⟩; have he3 : Ext w1 w2 := ⟨he2.os, he2.tape, he2.output, he2.size, he2.block⟩; have hown3 : Own .u8 5 w2 w1.heap.size A2 c2 (kb ns j) := hown2)
        | fail)
    go_wp2_with fail
    go_ret3
    exact ⟨⟨j, HF.out, .inr ⟨j0, A2, c2, by rw [← Hkn.out, ← Hx.out]; rfl, hown3.mono he1.size⟩⟩, he1.trans he3⟩
end

end Go.Proofs.Ytkmnhapeohlooaa
