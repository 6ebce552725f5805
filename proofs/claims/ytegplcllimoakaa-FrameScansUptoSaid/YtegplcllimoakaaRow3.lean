/-
  From the row's reading of a slice of frames to the words of our walks.
-/
import Derived.Test.YtegplcllimoakaaJ1
import Derived.Test.YtegplcllimoakaaUp
import Derived.Deep.SlicePairs
namespace Go.Proofs.Ytegplcllimoakaa
open Go.ChangeShapes Go.WideShapes Go.ChangeAt Go.RowKit Go.Deep

theorem open_nums0 {H : Type} {enc : TypeId × Value → H} {P : Program} {W : World} {k : IntKind} {t e : TypeId} {M : Int} {fuel : Nat} {v : Value} {d : DataW H} {p : List MemPlace}
    (ht : P.underlying t = some (.slice e)) (he : P.underlying e = some (.int k)) (hc : P.cellsOf e = 1) (hM : ∀ n : Int, (Lit.int k n).wf = true → 0 ≤ n ∧ n < M)
    (h : DataW.trod enc P W 0 (fun _ => true) true fuel t [v] = some (d, p)) :
    ∃ (a : Option Addr) (cap : Nat) (xs : List Nat), v = .slice a xs.length cap ∧ Rd k W a xs.length xs ∧ (∀ v ∈ xs, (v : Int) < M) ∧ xs.length ≤ Rows.uptoBulk d := by
  rcases open_ints ht he hc h with ⟨hcs, hx⟩ | ⟨x, l, c, zs, hcs, _, hl, hm, hz, hx, hcell, hwz⟩
  · injection hcs with hcs
    exact ⟨none, 0, [], hcs, Rd.nil .., (by intro v hv; cases hv), Nat.zero_le _⟩
  · injection hcs with hcs
    simp only [Prod.mk.injEq] at hx
    obtain ⟨rfl, _⟩ := hx
    have hzl : zs.length = c := by simpa using hz
    have hw : ∀ i, i < l → 0 ≤ zs.getD i 0 ∧ zs.getD i 0 < M := by
      intro i hi
      have hlt : i < zs.length := by omega
      have := hM _ (hwz _ (List.getElem_mem hlt))
      simpa [List.getD, hlt] using this
    have hxl : ((zs.take l).map Int.toNat).length = l := by rw [List.length_map, List.length_take]; omega
    refine ⟨some x, c, (zs.take l).map Int.toNat, by rw [hxl]; exact hcs, ?_, ?_, ?_⟩
    · rw [hxl]
      refine ⟨hxl, fun hn => ?_⟩
      have hc0 := hcell 0 (by omega)
      obtain ⟨b, o, spot⟩ := x
      have hspot : spot = none := by simpa [Addr.add] using World.cell?_spot hc0
      subst hspot
      refine ⟨b, o, rfl, ?_, fun i hi => ?_⟩
      · have hb := World.block_lt_of_cell? W _ hc0
        simpa [Addr.add] using hb
      · have h1 := hcell i (by omega)
        rw [add_plain] at h1
        rw [h1]
        have h2 := (hw i hi).1
        have hlt : i < zs.length := by omega
        have h3 : (((zs.take l).map Int.toNat).getD i 0 : Nat) = (zs.getD i 0).toNat := by simp [List.getD, hi, hlt]
        rw [h3, Int.toNat_of_nonneg h2]
    · intro v hv
      obtain ⟨n, hn, rfl⟩ := List.mem_map.1 hv
      have := hM _ (hwz _ (List.mem_of_mem_take hn))
      omega
    · rw [hxl]
      exact bulk_len (.inr ⟨_, _, rfl, by simp [lits]; omega⟩)

theorem bulk_sum {H : Type} {D : Nat → DataW H} {g : Nat → Nat} : ∀ l : List Nat, (∀ i ∈ l, g i ≤ Rows.uptoBulk (D i)) → (l.map g).sum ≤ Rows.uptoBulkAll (l.map D)
  | [], _ => Nat.le_refl _
  | i :: r, h => by
    have h1 := h i (by simp)
    have h2 := bulk_sum (D := D) (g := g) r fun j hj => h j (by simp [hj])
    simp only [List.map_cons, List.sum_cons, Rows.uptoBulkAll]
    omega

theorem open_frames {H : Type} {enc : TypeId × Value → H} {P : Program} {W : World} {t e eb : TypeId} {f0 f1 : Field} {a : Option Addr} {len cap : Nat} {d : DataW H} {p : List MemPlace}
    (ht : P.underlying t = some (.slice e)) (he : P.underlying e = some (.struct #[f0, f1])) (ce : P.cellsOf e = 2) (o0 : f0.offset = 0) (o1 : f1.offset = 1) (c0 : P.cellsOf f0.type = 1) (c1 : P.cellsOf f1.type = 1)
    (hk : P.underlying f0.type = some (.int .i64)) (hb : P.underlying f1.type = some (.slice eb)) (heb : P.underlying eb = some (.int .u8)) (hcb : P.cellsOf eb = 1)
    (h : DataW.Trod enc P W 0 (fun _ => true) true t (.slice a len cap) d p) :
    ∃ fs : List FrI, RdI W a len fs ∧ (∀ f ∈ fs, U8 f.body ∧ -9223372036854775808 ≤ f.k ∧ f.k ≤ 9223372036854775807) ∧ (fs.map fun f => f.body.length + 2).sum ≤ Rows.uptoBulk d := by
  obtain ⟨fuel, hf⟩ := h
  rcases open_slice_pairs ht he ce o0 o1 c0 c1 hf with ⟨hcs, hx⟩ | ⟨x, l, c, m, n, V0, V1, D0, D1, P0, P1, hcs, _, hl, _, hm, hx, hcell⟩
  · simp [Value.cells] at hcs
    obtain ⟨rfl, rfl, rfl⟩ := hcs
    exact ⟨[], ⟨rfl, fun q => absurd q (by omega)⟩, (by intro f hf; cases hf), Nat.zero_le _⟩
  · simp [Value.cells] at hcs
    obtain ⟨rfl, rfl, rfl⟩ := hcs
    simp only [Prod.mk.injEq] at hx
    obtain ⟨rfl, _⟩ := hx
    have hlm : len ≤ m := by rw [hm]; split <;> omega
    have each : ∀ i, i < len → ∃ f : FrI, V0 i = .int .i64 f.k ∧ V1 i = .slice f.A f.body.length f.c ∧ Rd .u8 W f.A f.body.length f.body ∧ (U8 f.body ∧ -9223372036854775808 ≤ f.k ∧ f.k ≤ 9223372036854775807) ∧ f.body.length + 2 ≤ Rows.uptoBulk (DataW.agg [D0 i, D1 i]) := by
      intro i hi
      obtain ⟨_, _, h3, h4⟩ := hcell i (by omega)
      obtain ⟨k, e1, e2, wk⟩ := DataW.trod_int hk h3
      obtain ⟨aa, cc, xs, e3, hr, hu, hbk⟩ := open_nums0 hb heb hcb (fun _ h => wf_u8 h) h4
      injection e1 with e1
      have wb := wf_i64 wk
      refine ⟨⟨k, aa, cc, xs⟩, e1, e3, hr, ⟨fun v hv => by have := hu v hv; omega, wb.1, wb.2⟩, ?_⟩
      have := bulk_pos (D0 i)
      simp only [Rows.uptoBulk, Rows.uptoBulkAll]
      omega
    obtain ⟨q, hq⟩ := choose_lt each
    refine ⟨(List.range len).map q, ⟨by simp, fun hn => ?_⟩, ?_, ?_⟩
    · obtain ⟨b, o, spot⟩ := x
      have hc0 := (hcell 0 (by omega)).1
      have hspot : spot = none := by simpa [Addr.add] using World.cell?_spot hc0
      subst hspot
      refine ⟨b, o, rfl, ?_, fun j f hj => ?_⟩
      · have hb := World.block_lt_of_cell? W _ hc0
        simpa [Addr.add] using hb
      · rw [List.getElem?_map, Option.map_eq_some_iff] at hj
        obtain ⟨i, hi, rfl⟩ := hj
        obtain ⟨hi1, hi2⟩ := List.getElem?_eq_some_iff.1 hi
        simp at hi1 hi2
        subst hi2
        obtain ⟨g1, g2, _, _⟩ := hcell j (by omega)
        obtain ⟨q1, q2, q3, _, _⟩ := hq j hi1
        rw [add_plain] at g1 g2
        exact ⟨by rw [g1, q1], by rw [Nat.add_assoc] ; rw [g2, q2], q3⟩
    · intro f hf
      obtain ⟨i, hi, rfl⟩ := List.mem_map.1 hf
      exact (hq i (List.mem_range.1 hi)).2.2.2.1
    · rw [List.map_map]
      have := bulk_sum (D := fun i => DataW.agg [D0 i, D1 i]) (g := (fun f : FrI => f.body.length + 2) ∘ q) (List.range len) (fun i hi => (hq i (List.mem_range.1 hi)).2.2.2.2)
      simp only [Rows.uptoBulk]
      omega

end Go.Proofs.Ytegplcllimoakaa
