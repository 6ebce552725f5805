import Derived.Test.YtnkggopkcjffoaaDoorG4

/-
  A row of cells that is handed in: each text within its spare room.
-/
namespace Go.Proofs.YtnkggopkcjffoaaDoor
open Go.ChangeShapes Go.WideShapes Go.ChangeAt Go.RowKit Go.Deep

theorem u8_cap {H : Type} {enc : TypeId × Value → H} {P : Program} {W : World} {t e : TypeId} {fuel : Nat} {a : Option Addr} {n cap : Nat} {y : DataW H × List MemPlace}
    (ht : P.underlying t = some (.slice e)) (he : P.underlying e = some (.int .u8)) (hc : P.cellsOf e = 1)
    (h : DataW.trod enc P W 0 (fun _ => true) true fuel t [.slice a n cap] = some y) : n ≤ cap ∧ cap ≤ 9223372036854775807 := by
  rcases open_ints ht he hc h with ⟨hcs, hx⟩ | ⟨x, l, c, zs, hcs, _, hl, hm, hz, hx, hcell, hwz⟩
  · simp at hcs
    obtain ⟨_, rfl, rfl⟩ := hcs
    exact ⟨Nat.le_refl _, by decide⟩
  · simp at hcs
    obtain ⟨_, rfl, rfl⟩ := hcs
    exact ⟨hl, hm⟩

section
variable {H : Type} {enc : TypeId × Value → H} {W : World}

set_option maxRecDepth 100000 in
theorem open_cell3c {fuel : Nat} {cs : List Value} {x : DataW H × List MemPlace} (h : DataW.trod enc Tryd.prog W 0 (fun _ => true) true fuel 63 cs = some x) (hs : Sz Tryd.prog 63 x.1) :
    ∃ c : Ci, cs = c.cells ∧ c.In W ∧ c.txt.length ≤ c.c ∧ c.c ≤ 9223372036854775807 := by
  obtain ⟨v0, v1, v2, y0, y1, y2, n, rfl, rfl, h0, h1, h2⟩ := nodes3 Tryd.underlying63 (by kernel_rfl) (by kernel_rfl) h
  have hs2 := sz_part hs Tryd.underlying63 2 rfl rfl
  obtain ⟨c, _, e0, e1, e2, hin, hb⟩ := open_parts h0 h1 h2 hs2
  subst e0 e1 e2
  exact ⟨c, rfl, hin, u8_cap Tryd.underlying28 Tryd.underlying5 (by kernel_rfl) h2⟩

set_option maxRecDepth 100000 in
theorem open_rowC {a : Option Addr} {len cap : Nat} {d : DataW H} {p : List MemPlace} (h : DataW.Trod enc Tryd.prog W 0 (fun _ => true) true 25 (.slice a len cap) d p) (hs : Sz Tryd.prog 25 d) :
    ∃ xs : List Ci, RdX W a len xs ∧ len * 40 ≤ 140737488351232 ∧ (∀ x ∈ xs, x.txt.length ≤ x.c ∧ x.c ≤ 9223372036854775807) ∧ len ≤ cap ∧ cap ≤ 9223372036854775807 := by
  obtain ⟨fuel, hf⟩ := h
  obtain ⟨a', cap', xs, e, h1, h2, h3, h4, h5, h6⟩ := open_rows (k := 3) (bytes := 40) (cells := Ci.cells) (Q := fun c _ => c.In W ∧ c.txt.length ≤ c.c ∧ c.c ≤ 9223372036854775807) Tryd.underlying25 (by kernel_rfl) (by decide) (by kernel_rfl) (fun h hs => open_cell3c h hs) hf hs
  injection e with e1 e2 e3
  subst e1 e2 e3
  refine ⟨xs, ⟨rfl, fun hn => ?_⟩, h3, fun x hx => (h5 x hx).elim fun _ q => q.2, h1, h2⟩
  obtain ⟨b, o, ea, hb, hc⟩ := h6 hn
  refine ⟨b, o, ea, hb, fun j x hj => ⟨?_, ?_, ?_, ?_⟩⟩
  · exact hc j x hj 0 _ rfl
  · exact hc j x hj 1 _ rfl
  · exact hc j x hj 2 _ rfl
  · obtain ⟨_, hin⟩ := h5 x (List.mem_of_getElem? hj)
    exact hin.1
end

end Go.Proofs.YtnkggopkcjffoaaDoor
