/-
  Layer 14: a change made: its name is copied.
-/
import Derived.Shelf.Strconv.Clone
import Derived.Deep.RegionWith
import Derived.Test.YtjckfbpdnpehcaaDK6
namespace Go.Proofs
open Go.Shelf
def Try.layClone_ren : Go.Shelf.Ren := ⟨fun | 316 => 92 | n => n, fun | 9 => 9 | 3 => 3 | 4 => 4 | 37 => 22 | 0 => 0 | 127 => 130 | 5 => 5 | n => n, fun | n => n⟩
theorem Try.layClone : Go.Proofs.LaysM.n316 Try.prog Try.layClone_ren := {
  mixed := by kernel_rfl
  f316 := Try.func92.trans (congrArg some (by kernel_rfl))
  t0 := Try.underlying0
  a0 := Try.isAgg0
  z0 := Try.sizeOf0
  v0 := Try.zeroValue0
  t3 := Try.underlying3
  a3 := Try.isAgg3
  z3 := Try.sizeOf3
  v3 := Try.zeroValue3
  t4 := Try.underlying4
  a4 := Try.isAgg4
  z4 := Try.sizeOf4
  v4 := Try.zeroValue4
  t9 := Try.underlying9
  a9 := Try.isAgg9
  z9 := Try.sizeOf9
  v9 := Try.zeroValue9
  t37 := Try.underlying22
  a37 := Try.isAgg22
  z37 := Try.sizeOf22
  v37 := Try.zeroValue22
  t127 := Try.underlying130
  a127 := Try.isAgg130
  z127 := Try.sizeOf130
  v127 := Try.zeroValue130
  t5 := Try.underlying5
  a5 := Try.isAgg5
  z5 := Try.sizeOf5
  v5 := Try.zeroValue5
  i0 := by kernel_rfl
  i3 := by kernel_rfl
  i4 := by kernel_rfl
  i5 := by kernel_rfl
  i9 := by kernel_rfl
  i37 := by kernel_rfl
  i127 := by kernel_rfl }
end Go.Proofs
namespace Go.Proofs.Ytjckfbpdnpehcaa
open Go.RowKit Go.Maps Go.WideMaps
set_option maxRecDepth 100000

theorem slclone_any (s : ByteArray) (w : World) (h : s.size ≤ 281474976710656) : Calls Try.prog 92 #[.string s] w fun e w' => e = .returned (.string s) ∧ Ext w w' :=
  Any.stringslite_Clone Try.layClone s w h
theorem sclone_any (s : ByteArray) (w : World) (h : s.size ≤ 281474976710656) : Calls Try.prog 78 #[.string s] w fun e w' => e = .returned (.string s) ∧ Ext w w' := by
  have C := Lib.hid (slclone_any s w h)
  clear h
  go_enter Try.func78, Try.ntmps78
  go_wp2_with fail
  refine C.out.mono ?_
  rintro e w1 ⟨rfl, h1⟩
  go_wp2
  go_ret
  exact ⟨rfl, h1⟩

theorem ext_set {w w1 : World} {g o : Nat} {v : Value} (h : Ext w w1) (hb : w.heap.size ≤ g) : Ext w (w1.setCell ⟨g, o, none⟩ v) :=
  ⟨h.os, h.tape, h.output, Nat.le_trans h.size (by simp [World.setCell]), fun k hk => (heap_setCell_other w1 ⟨g, o, none⟩ k v (Nat.ne_of_lt (Nat.lt_of_lt_of_le hk hb))).trans (h.block k hk)⟩
theorem box_set {w1 : World} {g : Nat} {u v : Value} {t : TypeId} (h : w1.heap[g]? = some (.cells #[u] t (0, 0))) : (w1.setCell ⟨g, 0, none⟩ v).heap[g]? = some (.cells #[v] t (0, 0)) := by
  rw [heap_setCell_same w1 g 0 _ _ _ h]
  rfl

theorem removed_any (x : List UInt8) (w : World) (h : x.length ≤ 140737488355328) : Calls Try.prog 88 #[nm x] w fun e w' => ∃ k : Clo, e = .returned k.v ∧ CloR w' k (.rm x) ∧ (∀ q, k.has q → w.heap.size ≤ q) ∧ Ext w w' := by
  have C : ∀ W : World, Hid (Calls Try.prog 78 #[nm x] W fun e w' => e = .returned (nm x) ∧ Ext W w') := fun W => Lib.hid (sclone_any ⟨x.toArray⟩ W (by simp [ByteArray.size]; omega))
  clear h
  go_enter Try.func88, Try.ntmps88
  go_wp2_with fail
  refine (C _).out.mono ?_
  rintro e w1 ⟨rfl, h1⟩
  have hb := (h1.block w.heap.size (by simp)).trans (heap_alloc_new w _)
  have c1 := cell_of_row w1 w.heap.size 0 _ _ (0, 0) hb
  have fr : w1.frozen? ⟨w.heap.size, 0, none⟩ = false := by simp [World.frozen?, hb]
  go_wp2
  go_ret
  exact ⟨.rm w.heap.size, rfl, box_set hb, fun q hq => by rw [show q = w.heap.size from hq]; exact Nat.le_refl _, ext_set (((Ext.refl w).alloc _).trans h1) (Nat.le_refl _)⟩

theorem created_any (x : List UInt8) (f : Nat) (w : World) (h : x.length ≤ 140737488355328) : Calls Try.prog 48 #[nm x, .pointer (some ⟨f, 0, none⟩)] w fun e w' => ∃ k : Clo, e = .returned k.v ∧ CloR w' k (.cr x f) ∧ (∀ q, k.has q → w.heap.size ≤ q) ∧ Ext w w' := by
  have C : ∀ W : World, Hid (Calls Try.prog 78 #[nm x] W fun e w' => e = .returned (nm x) ∧ Ext W w') := fun W => Lib.hid (sclone_any ⟨x.toArray⟩ W (by simp [ByteArray.size]; omega))
  clear h
  go_enter Try.func48, Try.ntmps48
  go_wp2_with fail
  refine (C _).out.mono ?_
  rintro e w1 ⟨rfl, h1⟩
  have hb := (h1.block w.heap.size (by simp; omega)).trans ((heap_alloc_old _ _ (by simp)).trans (heap_alloc_new w _))
  have hb2 := (h1.block (w.heap.size + 1) (by simp)).trans (heap_at (by simp))
  have c1 := cell_of_row w1 w.heap.size 0 _ _ (0, 0) hb
  have fr : w1.frozen? ⟨w.heap.size, 0, none⟩ = false := by simp [World.frozen?, hb]
  go_wp2
  go_ret
  refine ⟨.cr (w.heap.size + 1) w.heap.size, ?_, ⟨(heap_setCell_other w1 _ _ _ (by simp)).trans hb2, box_set hb⟩, fun q hq => by rcases hq with rfl | rfl <;> omega, ext_set ((((Ext.refl w).alloc _).trans ((Ext.refl _).alloc _)).trans h1) (Nat.le_refl _)⟩
  simp [Clo.v]

/-- Two boxes with names. -/
structure Two (w0 : World) (x y : List UInt8) (w : World) : Prop where
  a : w.heap[w0.heap.size]? = some (.cells #[nm x] 9 (0, 0))
  b : w.heap[w0.heap.size + 1]? = some (.cells #[nm y] 9 (0, 0))
  e : Ext w0 w
theorem Two.lt {w0 w : World} {x y : List UInt8} (h : Two w0 x y w) : w0.heap.size + 1 < w.heap.size := (Array.getElem?_eq_some_iff.1 h.b).1
theorem Two.ext {w0 w w' : World} {x y : List UInt8} (h : Two w0 x y w) (k : Ext w w') : Two w0 x y w' :=
  ⟨(k.block _ (by have := h.lt; omega)).trans h.a, (k.block _ h.lt).trans h.b, h.e.trans (k.mono (by have := h.lt; omega))⟩
theorem Two.drew {w0 w : World} {x y : List UInt8} (h : Two w0 x y w) : Two w0 x y w.drew := ⟨h.a, h.b, ⟨h.e.os, h.e.tape, h.e.output, h.e.size, h.e.block⟩⟩
theorem Two.setA {w0 w : World} {x y : List UInt8} (h : Two w0 x y w) : Two w0 x y (w.setCell ⟨w0.heap.size, 0, none⟩ (nm x)) :=
  ⟨box_set h.a, (heap_setCell_other w _ _ _ (by simp)).trans h.b, ext_set h.e (Nat.le_refl _)⟩
theorem Two.setB {w0 w : World} {x y : List UInt8} (h : Two w0 x y w) : Two w0 x y (w.setCell ⟨w0.heap.size + 1, 0, none⟩ (nm y)) :=
  ⟨(heap_setCell_other w _ _ _ (by simp)).trans h.a, box_set h.b, ext_set h.e (by omega)⟩

theorem Two.cA {w0 w : World} {x y : List UInt8} (h : Two w0 x y w) : w.cell? ⟨w0.heap.size, 0, none⟩ = some (nm x) := cell_of_row w w0.heap.size 0 _ _ (0, 0) h.a
theorem Two.cB {w0 w : World} {x y : List UInt8} (h : Two w0 x y w) : w.cell? ⟨w0.heap.size + 1, 0, none⟩ = some (nm y) := cell_of_row w (w0.heap.size + 1) 0 _ _ (0, 0) h.b
theorem Two.fA {w0 w : World} {x y : List UInt8} (h : Two w0 x y w) : w.frozen? ⟨w0.heap.size, 0, none⟩ = false := by simp [World.frozen?, h.a]
theorem Two.fB {w0 w : World} {x y : List UInt8} (h : Two w0 x y w) : w.frozen? ⟨w0.heap.size + 1, 0, none⟩ = false := by simp [World.frozen?, h.b]

theorem renamed_any (x y : List UInt8) (w : World) (h : x.length ≤ 140737488355328) (h2 : y.length ≤ 140737488355328) : Calls Try.prog 62 #[nm x, nm y] w fun e w' => ∃ k : Clo, e = .returned k.v ∧ CloR w' k (.mv x y) ∧ (∀ q, k.has q → w.heap.size ≤ q) ∧ Ext w w' := by
  have C : ∀ W : World, Hid (Calls Try.prog 78 #[nm x] W fun e w' => e = .returned (nm x) ∧ Ext W w') := fun W => Lib.hid (sclone_any ⟨x.toArray⟩ W (by simp [ByteArray.size]; omega))
  have D : ∀ W : World, Hid (Calls Try.prog 78 #[nm y] W fun e w' => e = .returned (nm y) ∧ Ext W w') := fun W => Lib.hid (sclone_any ⟨y.toArray⟩ W (by simp [ByteArray.size]; omega))
  clear h h2
  go_enter Try.func62, Try.ntmps62
  go_wp2_with fail
  obtain ⟨W, hW⟩ : ∃ W, W = ((w.alloc (.cells #[nm x] 9)).alloc (.cells #[nm y] 9)) := ⟨_, rfl⟩
  have T : Hid (Two w x y W) := Lib.hid (by
    subst hW
    exact ⟨(heap_alloc_old _ _ (by simp)).trans (heap_alloc_new w _), heap_at (by simp), ((Ext.refl w).alloc _).trans (((Ext.refl _).alloc _).mono (by simp))⟩)
  rw [← hW]
  clear hW
  have cA := T.out.cA
  have cB := T.out.cB
  have fA := T.out.fA
  have fB := T.out.fB
  go_region_with (go_at_call 78; (first | refine (C _).out.mono ?_ | refine (D _).out.mono ?_); rintro e w1 ⟨rfl, h1⟩; have T := Lib.hid (Two.ext (by first | exact T.out | exact T.out.drew | exact T.out.setA | exact T.out.drew.setA | exact T.out.setA.drew) h1); have cA := T.out.cA; have cB := T.out.cB; have fA := T.out.fA; have fB := T.out.fB)
  all_goals
    have T2 := T.out.setA.setB
    go_wp2
    go_ret
    exact ⟨.mv w.heap.size (w.heap.size + 1), by simp [Clo.v], ⟨T2.a, T2.b⟩, fun q hq => by rcases hq with rfl | rfl <;> omega, T2.e⟩

end Go.Proofs.Ytjckfbpdnpehcaa
