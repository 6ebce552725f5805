/-
  Layer 17: the program's Clean, Floor, New.
-/
import Derived.Test.YtkmnhapeohlooaaMV5
import Derived.Deep.RegionHeld3
import Derived.BigQuiet
namespace Go.Proofs.Ytkmnhapeohlooaa
open Go.RowKit Go.Maps
set_option maxRecDepth 100000

section
variable {w : World} {b0 base sb bf bp N : Nat} {s : CkS} (h : Ck w b0 base sb bf bp N s)
include h
theorem mclean_any (ho : s.Ok N) : Calls Try.prog 18 #[.pointer (some ⟨sb, 0, none⟩)] w fun e w' => e = .returned (.int .i64 s.clean) ∧ Ext w w' := by
  have HN := Lib.hid (fun W (hW : Ext w W) => mnext_any (h.ext hW) ho)
  have HL := Lib.hid (fun W (hW : Ext w W) => tleast_any bf N s.fl s.next W (h.mf.ext hW))
  have HS := Lib.hid (fun W (hW : Ext w W) => (h.ext hW).cells.2.2.2.1)
  have hcl : s.clean = leastL s.fl s.next - 1 := rfl
  have hr := CkS.next_ok ho
  have hm : -9223372036854775808 ≤ leastL s.fl s.next - 1 ∧ leastL s.fl s.next - 1 ≤ 9223372036854775807 := by
    obtain ⟨k1, k2, k3⟩ := leastL_spec s.fl s.next
    rcases k3 with k3 | k3
    · rw [k3]; omega
    · have := ho.flr _ k3; omega
  obtain ⟨L, hL⟩ : ∃ L, L = leastL s.fl s.next := ⟨_, rfl⟩
  rw [← hL] at HL hcl hm
  obtain ⟨X, hX⟩ : ∃ X, X = s.next := ⟨_, rfl⟩
  rw [← hX] at HN HL
  have HC := Lib.hid hcl
  have Hw : Hid (IntKind.i64.wrap (L - 1) = L - 1) := Lib.hid (IntWalk.i64_in _ (by omega))
  clear hm
  have hc0 := HS.out w (Ext.refl w)
  clear hcl hL hX hr h ho
  go_enter Try.func18, Try.ntmps18
  go_wp2_with fail
  go_region_held3 (fun w' => w'.cell? ⟨sb, 3, none⟩ = some (.map (some bf)))
    (first | exact hc0 | exact HS.out _ he3 | exact HS.out _ he2 | fail)
    (first
      | (go_at_call 60; refine (HN.out _ ?_).mono ?_; (first | exact Ext.refl _ | exact (Ext.refl _).drew | exact Ext.of_drewN _ _ | fail); rintro e w2 ⟨rfl, he2'⟩; have he2 : Ext w w2 := ⟨he2'.os, he2'.tape, he2'.output, he2'.size, he2'.block⟩)
      | (go_at_call 59; refine (HL.out _ ?_).mono ?_; (first | exact he2 | exact he2.drew | exact he2.drewN _ | fail); rintro e w3 ⟨rfl, he3'⟩; have he3 : Ext w w3 := he2.trans ⟨he3'.os, he3'.tape, he3'.output, he3'.size, he3'.block⟩)
      | fail)
  go_wp2_with fail
  go_ret
  exact ⟨by (have e := congrArg (fun z => Ending.returned (Value.int .i64 z)) Hw.out; rw [HC.out]; exact e), he3⟩

theorem mfloor_any : Calls Try.prog 20 #[.pointer (some ⟨sb, 0, none⟩)] w fun e w' => e = .returned (.int .i64 s.floor) ∧ Ext w w' := by
  have HL := Lib.hid (fun W (hW : Ext w W) => tleast_any bp N s.pn s.mark W (h.mp.ext hW))
  have HS := Lib.hid (fun W (hW : Ext w W) => And.intro (h.ext hW).cells.2.2.2.2.1 (h.ext hW).cells.2.2.1)
  have hcl : s.floor = leastL s.pn s.mark := rfl
  obtain ⟨L, hL⟩ : ∃ L, L = leastL s.pn s.mark := ⟨_, rfl⟩
  rw [← hL] at HL hcl
  obtain ⟨X, hX⟩ : ∃ X, X = s.mark := ⟨_, rfl⟩
  rw [← hX] at HL HS
  have HC := Lib.hid hcl
  obtain ⟨hc0, hc1⟩ := HS.out w (Ext.refl w)
  clear hcl hL hX h
  go_enter Try.func20, Try.ntmps20
  go_wp2_with fail
  go_region_held3 (fun w' => w'.cell? ⟨sb, 4, none⟩ = some (.map (some bp)) ∧ w'.cell? ⟨sb, 2, none⟩ = some (.int .i64 X))
    (first | exact ⟨hc0, hc1⟩ | exact HS.out _ he3 | fail)
    (first
      | (go_at_call 59; refine (HL.out _ ?_).mono ?_; (first | exact Ext.refl _ | exact (Ext.refl _).drew | exact Ext.of_drewN _ _ | fail); rintro e w3 ⟨rfl, he3'⟩; have he3 : Ext w w3 := ⟨he3'.os, he3'.tape, he3'.output, he3'.size, he3'.block⟩)
      | fail)
  go_wp2_with fail
  go_ret
  exact ⟨by rw [HC.out]; rfl, he3⟩
end

theorem run_mkT (w : World) : (Instr.makeMap 81 none).run Try.prog w = .ok (.map (some w.heap.size)) (w.alloc (.map #[] 0)) := by
  simp [Instr.makeMap, Result.andThen]

theorem mnew_any (w : World) : Calls Try.prog 11 #[] w fun e w' => ∃ sb bf bp, e = .returned (.pointer (some ⟨sb, 0, none⟩)) ∧ Ck w' w.heap.size w'.heap.size sb bf bp 0 CkS.new ∧ Ext w w' := by
  have hmm := run_mkT
  go_enter Try.func11, Try.ntmps11
  go_wp2_with fail
  go_ret
  have hW : Ext w (((w.alloc (.map #[] 0)).alloc (.map #[] 0)).alloc (.cells #[.int .i64 0, .int .i64 (-1), .int .i64 0, .map (some w.heap.size), .map (some (w.heap.size + 1))] 83)) := (((Ext.refl w).alloc _).alloc _).alloc _
  refine ⟨w.heap.size + 2, w.heap.size, w.heap.size + 1, rfl, ⟨⟨by omega, by omega, by omega⟩, ?_, ⟨by omega, by omega, by omega⟩, Nat.le_refl _, ?_, ?_, ?_⟩, hW⟩
  · simp; omega
  · have := heap_alloc_new ((w.alloc (.map #[] 0)).alloc (.map #[] 0)) (.cells #[.int .i64 0, .int .i64 (-1), .int .i64 0, .map (some w.heap.size), .map (some (w.heap.size + 1))] 83)
    have e : ((w.alloc (.map #[] 0)).alloc (.map #[] 0)).heap.size = w.heap.size + 2 := by simp
    rw [e] at this
    exact this
  · exact ⟨_, ((World.ownsMap_made w Try.prog 2 (plainElem Try.prog 3)).alloc _).alloc _, Cnt.nil⟩
  · have := (World.ownsMap_made (H := Unit) (w.alloc (.map #[] 0)) Try.prog 2 (plainElem Try.prog 3)).alloc (.cells #[.int .i64 0, .int .i64 (-1), .int .i64 0, .map (some w.heap.size), .map (some (w.heap.size + 1))] 83)
    exact ⟨_, by simpa using this, Cnt.nil⟩

end Go.Proofs.Ytkmnhapeohlooaa
