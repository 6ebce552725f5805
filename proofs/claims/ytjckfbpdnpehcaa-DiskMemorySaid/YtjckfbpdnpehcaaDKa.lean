/-
  Layer 14: a step that is all or nothing.
-/
import Derived.Test.YtjckfbpdnpehcaaDK9
namespace Go.Proofs.Ytjckfbpdnpehcaa
open Go.RowKit Go.Maps Go.WideMaps
set_option maxRecDepth 100000

theorem step1_call (args : Array Value) (W : World) : (callFunc 77 args).run Try.prog W = .ok (.enter 77 args) W := by
  have h1 : Try.f77.name ≠ "runtime.NumGoroutine" := by decide
  have h2 : Try.f77.body ≠ none := by intro h; cases h
  simp [callFunc, Try.func77, h1, h2]

theorem step1_any (n : Int) (W : World) : Calls Try.prog 77 #[.int .i64 n] W fun e w' => e = .returned (.tuple #[]) ∧ w' = W := by
  go_enter Try.func77, Try.ntmps77
  go_wp2
  go_end0
  exact ⟨rfl, rfl⟩

section
variable {w : World} {X : Nat → Prop} {base dp : Nat} {S : DS} {I : DI}
theorem step_any {f1 : FuncId} {c1 : Array Value} {R1 : World → Int → (Nat → Prop) → DS → DI → World → Prop} (h : DK w X base dp S I) (hs : 0 ≤ S.steps ∧ S.steps < 1000000000000000) (hf1 : ∀ args W, (callFunc f1 args).run Try.prog W = .ok (.enter f1 args) W)
    (H1 : ∀ w1, FrX (fun q => q = dp) w w1 → DK w1 X base dp { S with steps := S.steps + 1 } I → Calls Try.prog f1 c1 w1 fun e w' => ∃ r X' S' I', e = .returned (.int .i64 r) ∧ DK w' X' base dp S' I' ∧ R1 w1 r X' S' I' w') :
    Calls Try.prog 44 #[.pointer (some ⟨dp, 0, none⟩), .func (.func f1) #[] c1] w fun e w' => ∃ r, e = .returned (.int .i64 r) ∧ StepR w X base dp S I R1 (fun w1 _ X' S' I' w' => w' = w1 ∧ X' = X ∧ S' = { S with steps := S.steps + 1 } ∧ I' = I) r w' := by
  have C := Lib.hid (partly_any (f2 := 77) (c2 := #[]) (R2 := fun w1 _ X' S' I' w' => w' = w1 ∧ X' = X ∧ S' = { S with steps := S.steps + 1 } ∧ I' = I) h hs hf1 step1_call H1 (fun w1 n _ D => (step1_any n w1).mono (by rintro e w' ⟨rfl, rfl⟩; exact ⟨rfl, X, _, I, D, rfl, rfl, rfl, rfl⟩)))
  clear h hf1 H1
  go_enter Try.func44, Try.ntmps44
  go_wp2_with fail
  refine C.out.mono ?_
  rintro e w' ⟨r, rfl, h1⟩
  go_wp2
  go_ret
  exact ⟨r, rfl, h1⟩
end

end Go.Proofs.Ytjckfbpdnpehcaa
