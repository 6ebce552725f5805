/-
  What is handed in, opened: lists of numbers.
-/
import Derived.Test.YtjckfbpdnpehcaaRow7
namespace Go.Proofs.Ytjckfbpdnpehcaa
open Go Go.RowKit Go.ChangeShapes
variable {H : Type} {enc : TypeId × Value → H} {W : World}

set_option maxRecDepth 100000 in
/-- A list of numbers. -/
theorem open_intz {a : Option Addr} {len cap : Nat} {d : DataW H} {p : List MemPlace} (h : DataW.Trod enc Try.prog W 0 (fun _ => true) true 24 (.slice a len cap) d p) (hs : SzG Try.prog 24 d) :
    ∃ xs : List Int, RdG shZ W a len xs ∧ len * 8 ≤ 140737488351232 ∧ len ≤ Rows.uptoBulk d := by
  obtain ⟨fuel, hf⟩ := h
  obtain ⟨a', cap', xs, e, h1, h2, h3, h4, h5, h6⟩ := open_rowsG (k := 1) (bytes := 8) (cells := shZ.cells) (Q := fun _ _ => True) (v := .slice a len cap) Try.underlying24 (by kernel_rfl) (by decide) (by kernel_rfl) (fun h hs => by
    obtain ⟨k, e1, _, _⟩ := DataW.trod_int Try.underlying3 h
    exact ⟨k, e1, trivial⟩) hf hs
  injection e with e1 e2 e3
  subst e1 e2 e3
  exact ⟨xs, ⟨rfl, h6⟩, h3, h4⟩

end Go.Proofs.Ytjckfbpdnpehcaa
