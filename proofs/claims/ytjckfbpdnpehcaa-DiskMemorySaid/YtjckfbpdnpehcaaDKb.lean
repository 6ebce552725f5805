/-
  Layer 14: the directory made safe, as a step.
-/
import Derived.Test.YtjckfbpdnpehcaaDKa
namespace Go.Proofs.Ytjckfbpdnpehcaa
open Go.RowKit Go.Maps Go.WideMaps
set_option maxRecDepth 100000

/-- The box of the disk's pointer, as a closure holds it. -/
def Bx (w : World) (q dp : Nat) : Prop := w.heap[q]? = some (.cells #[.pointer (some ⟨dp, 0, none⟩)] 26 (0, 0))
theorem Hist.steps {S : DS} (h : Hist S) (n : Int) : Hist { S with steps := n } := ⟨h.few, h.id, h.ok, h.all⟩
theorem Hist.settled {S : DS} (h4 : S.files.length ≤ 400) (hid : ∀ x q, lkp S.files x = some q → x.length ≤ 40 ∧ ∃ f, (q, f) ∈ S.fl) : Hist { S with safe := S.files, chs := [] } where
  few := fun j _ => by unfold preD; simpa using h4
  id := fun j x q _ hl => by unfold preD at hl; exact hid x q (by simpa using hl)
  ok := fun j g hj => by simp at hj
  all := by unfold preD; rfl

theorem syncdir1_call (args : Array Value) (W : World) : (callFunc 54 args).run Try.prog W = .ok (.enter 54 args) W := by
  have h1 : Try.f54.name ≠ "runtime.NumGoroutine" := by decide
  have h2 : Try.f54.body ≠ none := by intro h; cases h
  simp [callFunc, Try.func54, h1, h2]

section
variable {w : World} {X : Nat → Prop} {base dp q : Nat} {S : DS} {I : DI}
theorem syncdir1_any (h : DK w X base dp S I) (hh : Hist S) (hq : Bx w q dp) : Calls Try.prog 54 #[.pointer (some ⟨q, 0, none⟩)] w fun e w' => e = .returned (.int .i64 0) ∧ DK w' X base dp { S with safe := S.files, chs := [] } { I with Ac := none, cc := 0, clos := [] } ∧ FrX X w w' := by
  have c1 := cell_of_row w q 0 _ _ (0, 0) hq
  have C := Lib.hid (settle_any h hh)
  clear h hh hq
  go_enter Try.func54, Try.ntmps54
  go_wp2_with fail
  refine C.out.mono ?_
  rintro e w' ⟨rfl, h1, h2⟩
  have H1 := Lib.hid h1
  have H2 := Lib.hid h2
  clear h1 h2
  go_wp2
  go_ret
  exact ⟨rfl, H1.out, H2.out⟩

theorem syncdir_any (h : DK w X base dp S I) (hh : Hist S) (hs : 0 ≤ S.steps ∧ S.steps < 1000000000000000) : Calls Try.prog 14 #[.pointer (some ⟨dp, 0, none⟩)] w fun e w' => ∃ r W0, e = .returned (.int .i64 r) ∧ Ext w W0 ∧
    StepR W0 X base dp S I (fun w1 r X' S' _ w' => r = 0 ∧ X' = X ∧ S' = { S with steps := S.steps + 1, safe := S.files, chs := [] } ∧ FrX X w1 w') (fun w1 _ X' S' I' w' => w' = w1 ∧ X' = X ∧ S' = { S with steps := S.steps + 1 } ∧ I' = I) r w' := by
  have hne : w.heap.size ≠ dp := Nat.ne_of_gt (h.bd dp h.xs.1).2
  have C := Lib.hid (step_any (R1 := fun w1 r X' S' _ w' => r = 0 ∧ X' = X ∧ S' = { S with steps := S.steps + 1, safe := S.files, chs := [] } ∧ FrX X w1 w') (c1 := #[.pointer (some ⟨w.heap.size, 0, none⟩)]) (h.ext ((Ext.refl w).alloc (.cells #[.pointer (some ⟨dp, 0, none⟩)] 26))) hs syncdir1_call (fun w1 f1 d1 =>
    (syncdir1_any (q := w.heap.size) d1 (hh.steps _) ((f1.block w.heap.size (by simp) hne).trans (heap_alloc_new w _))).mono (by rintro e w' ⟨rfl, h1, h2⟩; exact ⟨0, X, _, _, rfl, h1, rfl, rfl, rfl, h2⟩)))
  clear h hh hne
  go_enter Try.func14, Try.ntmps14
  go_wp2_with fail
  refine C.out.mono ?_
  rintro e w' ⟨r, rfl, h1⟩
  have H1 := Lib.hid h1
  clear h1
  go_wp2
  go_ret
  exact ⟨r, _, rfl, (Ext.refl w).alloc _, H1.out⟩
end

end Go.Proofs.Ytjckfbpdnpehcaa
