/-
  What is handed in, opened: lists of strings.
-/
import Derived.Test.YtjckfbpdnpehcaaRow18
import Derived.Test.YtjckfbpdnpehcaaDKi
namespace Go.Proofs.Ytjckfbpdnpehcaa
open Go Go.RowKit Go.ChangeShapes
variable {H : Type} {enc : TypeId × Value → H} {W : World}

set_option maxRecDepth 100000 in
/-- A list of strings. -/
theorem open_strs {a : Option Addr} {len cap : Nat} {d : DataW H} {p : List MemPlace} (h : DataW.Trod enc Try.prog W 0 (fun _ => true) true 23 (.slice a len cap) d p) (hs : SzG Try.prog 23 d) :
    ∃ xs : List (List UInt8), RdG shNm W a len xs ∧ (∀ x ∈ xs, x.length ≤ 140737488355328) ∧ len * 16 ≤ 140737488351232 ∧ len ≤ Rows.uptoBulk d := by
  obtain ⟨fuel, hf⟩ := h
  obtain ⟨a', cap', xs, e, h1, h2, h3, h4, h5, h6⟩ := open_rowsG (k := 1) (bytes := 16) (cells := shNm.cells) (Q := fun x _ => x.length ≤ 140737488355328) (v := .slice a len cap) Try.underlying23 (by kernel_rfl) (by decide) (by kernel_rfl) (fun h hs => by
    obtain ⟨s, e1, e2, _⟩ := DataW.trod_string Try.underlying9 h
    refine ⟨s.data.toList, by rw [e1]; rfl, ?_⟩
    rw [e2] at hs
    have := hs s.data.toList.length (by simp [DataW.weights])
    simp [reachBytes] at this
    have e : s.data.toList.length = s.data.size := by simp
    have e9 : s.size = s.data.size := rfl
    rw [e]
    omega) hf hs
  injection e with e1 e2 e3
  subst e1 e2 e3
  exact ⟨xs, ⟨rfl, h6⟩, fun x hx => by obtain ⟨_, h⟩ := h5 x hx; exact h, h3, h4⟩

end Go.Proofs.Ytjckfbpdnpehcaa
