/-
  What is handed in, opened: lists of fates.
-/
import Derived.Test.YtblkcphehkkbmaaRow14
import Derived.Deep.Slices
import Derived.Deep.Strs
import Derived.Test.YtblkcphehkkbmaaDKv
namespace Go.Proofs.Ytblkcphehkkbmaa
open Go.ChangeShapes Go.WideShapes Go.ChangeAt Go.RowKit Go.Deep
variable {H : Type} {enc : TypeId × Value → H} {W : World}

theorem nodes3f {H : Type} {enc : TypeId × Value → H} {P : Program} {W : World} {t : TypeId} {f0 f1 f2 : Field} {fuel : Nat} {cs : List Value} {x : DataW H × List MemPlace} (hs : P.underlying t = some (.struct #[f0, f1, f2])) (hone : oneCellFields P #[f0, f1, f2] = true) (hC : P.cellsOf t = 3)
    (h : DataW.trod enc P W 0 (fun _ => true) true fuel t cs = some x) :
    ∃ v0 v1 v2 y0 y1 y2 n, cs = [v0, v1, v2] ∧ x = (.agg [y0.1, y1.1, y2.1], y0.2 ++ (y1.2 ++ y2.2)) ∧ DataW.trod enc P W 0 (fun _ => true) true n f0.type [v0] = some y0 ∧ DataW.trod enc P W 0 (fun _ => true) true n f1.type [v1] = some y1 ∧ DataW.trod enc P W 0 (fun _ => true) true n f2.type [v2] = some y2 := by
  obtain ⟨y0, y1, y2, n, rfl, hl, h0, h1, h2⟩ := trod_struct3 hs h
  rw [hC] at hl
  match cs, hl with
  | [v0, v1, v2], _ =>
    obtain ⟨o0, k0⟩ := hone_of hone 0 f0 rfl
    obtain ⟨o1, k1⟩ := hone_of hone 1 f1 rfl
    obtain ⟨o2, k2⟩ := hone_of hone 2 f2 rfl
    exact ⟨v0, v1, v2, y0, y1, y2, n, rfl, rfl, by simpa [o0, k0] using h0, by simpa [o1, k1] using h1, by simpa [o2, k2] using h2⟩

set_option maxRecDepth 100000 in
/-- A list of fates. -/
theorem open_fates {a : Option Addr} {len cap : Nat} {d : DataW H} {p : List MemPlace} (h : DataW.Trod enc Try.prog W 0 (fun _ => true) true 43 (.slice a len cap) d p) (hs : SzG Try.prog 43 d) :
    ∃ xs : List (Int × Int × Int), RdG shFt W a len xs ∧ (∀ x ∈ xs, (Lit.int .i64 x.1).wf = true) ∧ len * 24 ≤ 140737488351232 ∧ len ≤ Rows.uptoBulk d := by
  obtain ⟨fuel, hf⟩ := h
  obtain ⟨a', cap', xs, e, h1, h2, h3, h4, h5, h6⟩ := open_rowsG (k := 3) (bytes := 24) (cells := shFt.cells) (Q := fun x _ => (Lit.int .i64 x.1).wf = true) (v := .slice a len cap) Try.underlying43 (by kernel_rfl) (by decide) (by kernel_rfl) (fun h hs => by
    obtain ⟨v0, v1, v2, y0, y1, y2, n, rfl, _, g0, g1, g2⟩ := nodes3f Try.underlying64 (by kernel_rfl) (by kernel_rfl) h
    obtain ⟨k0, e0, _, w0⟩ := DataW.trod_int Try.underlying3 g0
    obtain ⟨k1, e1, _, _⟩ := DataW.trod_int Try.underlying3 g1
    obtain ⟨k2, e2, _, _⟩ := DataW.trod_int Try.underlying3 g2
    injection e0 with e0
    injection e1 with e1
    injection e2 with e2
    subst e0 e1 e2
    exact ⟨(k0, k1, k2), rfl, w0⟩) hf hs
  injection e with e1 e2 e3
  subst e1 e2 e3
  exact ⟨xs, ⟨rfl, h6⟩, fun x hx => by obtain ⟨_, h⟩ := h5 x hx; exact h, h3, h4⟩

end Go.Proofs.Ytblkcphehkkbmaa
