/-
  A list of texts that is handed in, with its spare room.
-/
import Derived.Test.YtgmjpilinhmjoaaRow7
namespace Go.Proofs.Ytgmjpilinhmjoaa
open Go.ChangeShapes Go.WideShapes Go.ChangeAt Go.RowKit Go.Deep

theorem open_textsC {H : Type} {enc : TypeId × Value → H} {W : World} {a : Option Addr} {len cap : Nat} {d : DataW H} {p : List MemPlace} (h : DataW.Trod enc Try.prog W 0 (fun _ => true) true 22 (.slice a len cap) d p) (hs : SzG Try.prog 22 d) :
    ∃ ss : List Sl, TxL W a len ss ∧ len * 24 ≤ 140737488351232 ∧ len ≤ cap ∧ cap ≤ 9223372036854775807 := by
  obtain ⟨fuel, hf⟩ := h
  obtain ⟨a', cap', xs, e, h1, h2, h3, h4, h5, h6⟩ := open_rowsG (k := 1) (bytes := 24) (cells := shS.cells) (Q := fun s _ => TxI W s) (v := .slice a len cap) Try.underlying22 (by kernel_rfl) (by decide) (by kernel_rfl) (fun h hs => open_text h hs) hf hs
  injection e with e1 e2 e3
  subst e1 e2 e3
  exact ⟨xs, ⟨RdG.rdL ⟨rfl, h6⟩, fun s hs => (h5 s hs).elim fun _ h => h⟩, h3, h1, h2⟩

end Go.Proofs.Ytgmjpilinhmjoaa
