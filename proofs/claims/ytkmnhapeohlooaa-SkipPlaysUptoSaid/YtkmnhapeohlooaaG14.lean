import Derived.Test.YtkmnhapeohlooaaG13
import Derived.Test.YtkmnhapeohlooaaG10
import Derived.Test.YtkmnhapeohlooaaG11
import Derived.Test.YtkmnhapeohlooaaG1

/-
  Layer 18: the program's list beside the document's.
-/
namespace Go.Proofs.Ytkmnhapeohlooaa
open Go.RowKit
set_option maxRecDepth 100000

/-- The program's list at sb, and the document's in rows apart from it. -/
structure AS (w0 W : World) (sb : Nat) (hs : List Int) (Ak : Option Addr) (n : Nat) (Av : Option Addr) (ss : List Sl) (V : List Int) (X : Nat → Prop) (base : Nat) : Prop where
  ls : LS W X base sb hs (bodies ss) V
  low : w0.heap.size ≤ base
  ext : Ext w0 W
  rk : RdL W Ak n ss
  rv : RdG shZ W Av n V
  tx : ∀ s ∈ ss, Rd .u8 W s.A s.body.length s.body ∧ U8 s.body ∧ s.body.length ≤ 1048576
  fk : ∀ a, Ak = some a → ¬ X a.block ∧ a.block < W.heap.size
  fv : ∀ a, Av = some a → ¬ X a.block ∧ a.block < W.heap.size
  ft : ∀ s ∈ ss, ∀ a, s.A = some a → ¬ X a.block ∧ a.block < W.heap.size

section
variable {w0 W W' : World} {sb : Nat} {hs : List Int} {Ak : Option Addr} {n : Nat} {Av : Option Addr} {ss : List Sl} {V : List Int} {X : Nat → Prop} {base : Nat}
theorem AS.to (h : AS w0 W sb hs Ak n Av ss V X base) (he : Ext W W') : AS w0 W' sb hs Ak n Av ss V X base :=
  ⟨h.ls.ext he, h.low, h.ext.trans he, h.rk.ext he, h.rv.ext he, fun s hs => ⟨(h.tx s hs).1.ext he, (h.tx s hs).2⟩, fun a ha => ⟨(h.fk a ha).1, Nat.lt_of_lt_of_le (h.fk a ha).2 he.size⟩, fun a ha => ⟨(h.fv a ha).1, Nat.lt_of_lt_of_le (h.fv a ha).2 he.size⟩, fun s hs a ha => ⟨(h.ft s hs a ha).1, Nat.lt_of_lt_of_le (h.ft s hs a ha).2 he.size⟩⟩
theorem AS.len (h : AS w0 W sb hs Ak n Av ss V X base) : (bodies ss).length = n := by rw [bodies_len]; exact h.rk.1
end

/-- A block that neither list lies in. -/
def Fre (X : Nat → Prop) (Ak Av : Option Addr) (ss : List Sl) (q : Nat) : Prop := ¬ X q ∧ (∀ a, Ak = some a → a.block ≠ q) ∧ (∀ a, Av = some a → a.block ≠ q) ∧ ∀ s ∈ ss, ∀ a, s.A = some a → a.block ≠ q

/-- How a call of the script ends. -/
def AskPost (w0 w : World) (sb : Nat) (hs : List Int) (n : Nat) (X0 : Nat → Prop) (Ak0 Av0 : Option Addr) (ss0 : List Sl) (e : Ending) (w' : World) : Prop :=
  ∃ Ak n' ck Av cv ss V X base, e = .returned (.tuple #[.agg #[.slice Ak n' ck, .slice Av n' cv], .bool true]) ∧ n' ≤ n + 1 ∧ AS w0 w' sb hs Ak n' Av ss V X base ∧ w.heap.size ≤ w'.heap.size ∧
    ∀ q, q < w.heap.size → Fre X0 Ak0 Av0 ss0 q → Fre X Ak Av ss q ∧ w'.heap[q]? = w.heap[q]?

theorem Rd.fr0 {P : Nat → Prop} {k : IntKind} {w w' : World} {A : Option Addr} {n : Nat} {xs : List Nat} (h : Rd k w A n xs) (f : FrX P w w') (hP : 0 < n → ∀ a, A = some a → ¬ P a.block) : Rd k w' A n xs := by
  by_cases h0 : 0 < n
  · exact h.fr f (hP h0)
  · exact ⟨h.1, fun q => absurd q h0⟩

theorem asks_end {w W : World} {B6 B7 : Nat} {tmps : Array Value} {ds : List Nat} {c1 c2 : Value} {R : Ending → World → Prop} (h6 : tmps[6]? = some (.pointer (some ⟨B6, 0, none⟩))) (h7 : tmps[7]? = some (.pointer (some ⟨B7, 0, none⟩))) (hc6 : W.heap[B6]? = some (.cells #[c1, c2] 51 (0, 0))) (hc7 : W.cell? ⟨B7, 0, none⟩ = some (.bool true))
    (hE : Ext w W) (hnd : ds.Nodup) (hm : ∀ D ∈ ds, w.heap.size ≤ D ∧ W.heap[D]? = some (.deferred (some []))) (hR : ∀ W', (ds = [] → W' = W) → Ext w W' → R (.returned (.tuple #[.agg #[c1, c2], .bool true])) W') :
    bodyPostM Fence.wide 6 Try.prog Try.f33 R .ret { tmps := tmps, defers := ds.map mkD } W := by
  refine leaves_mk (fun W' => (W'.heap[B6]? = some (.cells #[c1, c2] 51 (0, 0)) ∧ W'.cell? ⟨B7, 0, none⟩ = some (.bool true)) ∧ Ext w W' ∧ (ds = [] → W' = W)) ds hnd (fun W' D hZ hD hW => ?_) (fun W' hZ => ?_) W ⟨⟨hc6, hc7⟩, hE, fun _ => rfl⟩ (fun D hD => (hm D hD).2)
  · have hne : ∀ q o, W'.heap[q]? = some o → o.isCells = true → q ≠ D := fun q o h1 h2 e => by
      subst e
      rw [hW] at h1
      injection h1 with h1
      subst h1
      cases h2
    refine ⟨⟨(World.putObj_heap_other (hne B6 _ hZ.1.1 rfl)).trans hZ.1.1, cell_kept hZ.1.2 (grownBy_putObj' W' D _) (fun r e => by cases e; exact ⟨_, hW, rfl⟩)⟩, grownBy_ext hZ.2.1 (grownBy_putObj' W' D _) (fun g e => by cases e; exact (hm D hD).1), fun e => by subst e; cases hD⟩
  · refine ⟨.tuple #[.agg #[c1, c2], .bool true], ?_, hR W' hZ.2.2 hZ.2.1⟩
    have h := hZ.1.2
    have h6' : tmps[6]?.getD undef = .pointer (some ⟨B6, 0, none⟩) := by rw [h6]; rfl
    have h9 : tmps.getD 7 undef = .pointer (some ⟨B7, 0, none⟩) := by simp [Array.getD_eq_getD_getElem?, h7]
    have e0 : W'.cell? ⟨B6, 0, none⟩ = some c1 := cell_of_row W' B6 0 _ _ (0, 0) hZ.1.1
    have e1 : W'.cell? ⟨B6, 1, none⟩ = some c2 := cell_of_row W' B6 1 _ _ (0, 0) hZ.1.1
    simp [results, Try.results33, go_sem, h, h6', h7, asAddr, e0, e1]

theorem Own.blk8 {k : IntKind} {e : TypeId} {w w' : World} {base c : Nat} {A : Option Addr} {xs : List Nat} (h : Own k e w base A c xs) (hb : ∀ a, A = some a → w'.heap[a.block]? = w.heap[a.block]?) : Own k e w' base A c xs := by
  refine ⟨h.1, ?_⟩
  rcases h.2 with hn | ⟨g, cap, cur, hv, hg, hh, r⟩
  · exact Or.inl hn
  · refine Or.inr ⟨g, cap, cur, hv, hg, ?_, r⟩
    injection hv with hA
    exact (hb _ hA).trans hh

/-- The document's list behind its Put beside the program's. -/
theorem as_put {w0 w W1 w2 w3 w5 w6 W : World} {sb : Nat} {hs : List Int} {Ak : Option Addr} {n : Nat} {Av : Option Addr} {ss ts : List Sl} {V : List Int} {X : Nat → Prop} {base : Nat} {key : List Nat} {v : Int} {Ao Aw : Option Addr} {co cw : Nat}
    (h : AS w0 w sb hs Ak n Av ss V X base) (hE1 : Ext w W1) (he2 : Ext W1 w2) (ls3 : LS w3 (XN X w2 w3) base sb hs (insL (bodies ss) key) (putV (bodies ss) V key v)) (f5 : FrX X W1 w5) (hz5 : w3.heap.size ≤ w5.heap.size)
    (h35 : ∀ q, XN X w2 w3 q → w5.heap[q]? = w3.heap[q]?) (hb : bodies ts = insL (bodies ss) key) (ho : OwnT w6 w5.heap.size Ao co ts) (hv : OwnG shZ 3 w6 w5.heap.size Aw cw (putV (bodies ss) V key v)) (h23 : w2.heap.size ≤ w3.heap.size)
    (hts : ∀ s ∈ ts, s ∈ ss ∨ (Own .u8 5 w6 w5.heap.size s.A s.c s.body ∧ s.body = key)) (uk : U8 key) (lk : key.length ≤ 1048576) (he6 : Ext w5 w6) {P : Nat → Prop} (heW : FrX P w6 W) (hP : ∀ q, P q → w.heap.size ≤ q ∧ q < w2.heap.size) :
    AS w0 W sb hs Ao ts.length Aw ts (putV (bodies ss) V key v) (XN X w2 w3) base ∧ ts.length ≤ n + 1 ∧ w.heap.size ≤ W.heap.size ∧ ∀ q, q < w.heap.size → Fre X Ak Av ss q → Fre (XN X w2 w3) Ao Aw ts q ∧ W.heap[q]? = w.heap[q]? := by
  have hXb : ∀ q, X q → w0.heap.size ≤ q ∧ q < w.heap.size := fun q hq => by
    have h1 := h.ls.bd' q hq
    have := h.low
    omega
  have hz2 := he2.size
  have hz1 := hE1.size
  have hnX : ∀ q, w5.heap.size ≤ q → ¬ XN X w2 w3 q := fun q h1 h2 => by
    rcases h2 with h2 | h2
    · have := (hXb q h2).2; omega
    · omega
  have hold : ∀ q, q < w.heap.size → ¬ X q → ¬ XN X w2 w3 q := fun q h1 h2 h3 => by
    rcases h3 with h3 | h3
    · exact h2 h3
    · omega
  have hl := (h.ls.vlen).1
  have htl : ts.length = (insL (bodies ss) key).length := by rw [← hb, bodies_len]
  have hpl := putV_len hl key v
  have hw6 : w5.heap.size ≤ W.heap.size := Nat.le_trans he6.size heW.size
  have hz6 := he6.size
  have hz3 := h23
  have hnP : ∀ q, w5.heap.size ≤ q → ¬ P q := fun q h1 h2 => by have := (hP q h2).2; omega
  have hoP : ∀ q, q < w.heap.size → ¬ P q := fun q h1 h2 => by have := (hP q h2).1; omega
  have hw0 := h.ext.size
  have ls6 := (ls3.kept h35 hz5).ext he6
  have hxP : ∀ q, XN X w2 w3 q → ¬ P q := fun q h1 h2 => by
    have h3 := hP q h2
    rcases h1 with h1 | h1
    · have := (hXb q h1).2; omega
    · omega
  refine ⟨⟨by rw [hb]; exact ls6.kept (fun q hq => heW.block q (ls6.bd' q hq).2 (hxP q hq)) heW.size, h.low, heW.toExt ((f5.toExt (h.ext.trans hE1) (fun q hq => (hXb q hq).1)).trans he6) (fun q hq => by have := (hP q hq).1; omega), (OwnG.rdL ho).fr heW (fun a ha => hnP _ (ho.block a ha).1), (hv.rd' (by rw [hpl, ← htl])).fr heW (fun a ha => hnP _ (hv.block a ha).1), fun s hs => ?_, fun a ha => ?_, fun a ha => ?_, fun s hs a ha => ?_⟩, ?_⟩
  · rcases hts s hs with q | ⟨q, e⟩
    · exact ⟨(((((h.tx s q).1).ext hE1).fr f5 (fun a ha => (h.ft s q a ha).1)).ext he6).fr heW (fun a ha => hoP _ (h.ft s q a ha).2), (h.tx s q).2⟩
    · refine ⟨q.rd.fr heW (fun a ha => hnP _ (q.block a ha).1), ?_, ?_⟩
      · rw [e]; exact uk
      · rw [e]; exact lk
  · exact ⟨hnX _ (ho.block a ha).1, Nat.lt_of_lt_of_le (ho.block a ha).2 heW.size⟩
  · exact ⟨hnX _ (hv.block a ha).1, Nat.lt_of_lt_of_le (hv.block a ha).2 heW.size⟩
  · rcases hts s hs with q | ⟨q, e⟩
    · have h1 := h.ft s q a ha
      have := f5.size
      have := heW.size
      exact ⟨hold _ h1.2 h1.1, by omega⟩
    · exact ⟨hnX _ (q.block a ha).1, Nat.lt_of_lt_of_le (q.block a ha).2 heW.size⟩
  · rw [htl]
    have := insL_len (bodies ss) key
    rw [h.len] at this
    refine ⟨this, by have := f5.size; omega, fun q hq hf => ⟨⟨hold q hq hf.1, fun a ha e => by have := (ho.block a ha).1; omega, fun a ha e => by have := (hv.block a ha).1; omega, fun s hs a ha e => ?_⟩, ?_⟩⟩
    · rcases hts s hs with g | ⟨g, _⟩
      · exact hf.2.2.2 s g a ha e
      · have := (g.block a ha).1; omega
    · have s5 := f5.size
      exact (heW.block q (by omega) (hoP q hq)).trans ((he6.block q (by omega)).trans ((f5.block q (by omega) hf.1).trans (hE1.block q hq)))

/-- A call's end without marks. -/
theorem asks_ret0 {W : World} {B6 B7 : Nat} {tmps : Array Value} {old : Array Value} {c1 c2 : Value} {R : Ending → World → Prop} (h6 : tmps[6]? = some (.pointer (some ⟨B6, 0, none⟩))) (h7 : tmps[7]? = some (.pointer (some ⟨B7, 0, none⟩))) (k6 : W.heap[B6]? = some (.cells old 51 (0, 0))) (k7 : W.heap[B7]? = some (.cells #[.bool false] 4 (0, 0)))
    (hne : B6 ≠ B7) (hR : R (.returned (.tuple #[.agg #[c1, c2], .bool true])) ((W.setRow B6 #[c1, c2]).setCell ⟨B7, 0, none⟩ (.bool true))) :
    bodyPostM Fence.wide 6 Try.prog Try.f33 R .ret { tmps := tmps, defers := [] } ((W.setRow B6 #[c1, c2]).setCell ⟨B7, 0, none⟩ (.bool true)) := by
  have g1 := grown_setRow W B6 #[c1, c2]
  have g2 := grown_setCellS (W.setRow B6 #[c1, c2]) B7 0 (.bool true)
  have a6 := setRow_heap W B6 old #[c1, c2] 51 (0, 0) k6
  have a7 := (g1.block B7 (Array.getElem?_eq_some_iff.1 k7).1 (fun e => hne (Option.some.inj e).symm)).trans k7
  exact asks_end (ds := []) (w := (W.setRow B6 #[c1, c2]).setCell ⟨B7, 0, none⟩ (.bool true)) h6 h7 ((g2.block B6 (Array.getElem?_eq_some_iff.1 a6).1 (fun e => hne (Option.some.inj e))).trans a6) (cell_of_row _ B7 0 _ _ (0, 0) (heap_setCell_same _ B7 0 _ _ _ a7)) (Ext.refl _) List.nodup_nil (fun D hD => by cases hD) (fun W' e _ => by rw [e rfl]; exact hR)

/-- One cell that a round writes. -/
structure PO (w1 W : World) (Bn : Nat) (n : Nat) : Prop where
  fr : FrX (fun q => q = Bn) w1 W
  lt : Bn < w1.heap.size
  hn : W.heap[Bn]? = some (.cells #[.int .i64 (n : Int)] 3 (0, 0))
section
variable {w1 W W' : World} {Bn n : Nat}
theorem PO.turn (h : PO w1 W Bn n) {row : Option Nat} (hg : W.grownBy W' row) (hr : ∀ r, row = some r → w1.heap.size ≤ r ∧ ∃ o : Obj, W.heap[r]? = some o ∧ o.isCells = false) : PO w1 W' Bn n := by
  have hc : ∀ r, row = some r → ∃ o : Obj, W.heap[r]? = some o ∧ o.isCells = false := fun r e => (hr r e).2
  refine ⟨⟨hg.os.trans h.fr.os, hg.tape.trans h.fr.tape, hg.output.trans h.fr.output, Nat.le_trans h.fr.size hg.size, fun q hq hx => ?_⟩, h.lt, kc_grown hg hc h.hn⟩
  exact (hg.block q (Nat.lt_of_lt_of_le hq h.fr.size) (fun e => by have := (hr q e.symm).1; omega)).trans (h.fr.block q hq hx)
theorem PO.cn (h : PO w1 W Bn n) : W.cell? ⟨Bn, 0, none⟩ = some (.int .i64 (n : Int)) := cell_of_row W Bn 0 _ _ (0, 0) h.hn
theorem PO.fz (h : PO w1 W Bn n) : W.frozen? ⟨Bn, 0, none⟩ = false := by simp [World.frozen?, h.hn]
theorem PO.ext (h : PO w1 W Bn n) (he : Ext W W') : PO w1 W' Bn n := h.turn (row := none) ⟨he.os, he.tape, he.output, he.size, fun i hi _ => he.block i hi⟩ (fun r e => by cases e)
theorem PO.one (h : PO w1 W Bn n) (v : Nat) : PO w1 (W.setCell ⟨Bn, 0, none⟩ (.int .i64 (v : Int))) Bn v :=
  ⟨h.fr.trans (grownBy_frX (grown_setCellS W Bn 0 (.int .i64 (v : Int))) (.inl rfl)), h.lt, heap_setCell_same W Bn 0 _ _ _ h.hn⟩
end

theorem two_cells {W : World} {B6 B7 : Nat} {a b : Value} (k6 : W.heap[B6]? = some (.cells #[a, b] 51 (0, 0))) (k7 : W.heap[B7]? = some (.cells #[.bool false] 4 (0, 0))) (hne : B6 ≠ B7) :
    (W.cell? ⟨B6, 0, none⟩ = some a ∧ W.frozen? ⟨B6, 0, none⟩ = false) ∧ (∀ v, (W.setCell ⟨B6, 0, none⟩ v).cell? ⟨B6, 1, none⟩ = some b ∧ (W.setCell ⟨B6, 0, none⟩ v).frozen? ⟨B6, 1, none⟩ = false) ∧
    (∀ v u, ((W.setCell ⟨B6, 0, none⟩ v).setCell ⟨B6, 1, none⟩ u).cell? ⟨B7, 0, none⟩ = some (.bool false) ∧ ((W.setCell ⟨B6, 0, none⟩ v).setCell ⟨B6, 1, none⟩ u).frozen? ⟨B7, 0, none⟩ = false) := by
  refine ⟨⟨cell_of_row W B6 0 _ _ (0, 0) k6, by simp [World.frozen?, k6]⟩, fun v => ?_, fun v u => ?_⟩
  · have h := heap_setCell_same W B6 0 _ _ v k6
    exact ⟨cell_of_row _ B6 1 _ _ (0, 0) h, by simp [World.frozen?, h]⟩
  · have h := (Below.heap_setCell (W.setCell ⟨B6, 0, none⟩ v) ⟨B6, 1, none⟩ u B7 (fun e => hne e.symm)).trans ((Below.heap_setCell W ⟨B6, 0, none⟩ v B7 (fun e => hne e.symm)).trans k7)
    exact ⟨cell_of_row _ B7 0 _ _ (0, 0) h, by simp [World.frozen?, h]⟩

theorem row_far {W : World} {g q : Nat} {C : Array Value} {T : TypeId} (h : q ≠ g) (hq : W.heap[q]? = some (.cells C T (0, 0))) (cs : Array Value) : (W.setRow g cs).cell? ⟨q, 0, none⟩ = C[0]? ∧ (W.setRow g cs).frozen? ⟨q, 0, none⟩ = false := by
  have h1 := ((grown_setRow W g cs).block q (Array.getElem?_eq_some_iff.1 hq).1 (fun e => h (Option.some.inj e))).trans hq
  exact ⟨cell_of_row _ q 0 _ _ (0, 0) h1, by simp [World.frozen?, h1]⟩

theorem asks_ret {w W : World} {B6 B7 : Nat} {tmps : Array Value} {ds : List Nat} {old : Array Value} {c1 c2 : Value} {R : Ending → World → Prop} (h6 : tmps[6]? = some (.pointer (some ⟨B6, 0, none⟩))) (h7 : tmps[7]? = some (.pointer (some ⟨B7, 0, none⟩))) (k6 : W.heap[B6]? = some (.cells old 51 (0, 0))) (k7 : W.heap[B7]? = some (.cells #[.bool false] 4 (0, 0)))
    (hne : B6 ≠ B7) (hE : Ext w W) (l6 : w.heap.size ≤ B6) (l7 : w.heap.size ≤ B7) (hnd : ds.Nodup) (hm : ∀ D ∈ ds, w.heap.size ≤ D ∧ W.heap[D]? = some (.deferred (some [])))
    (hR : ∀ W', (ds = [] → W' = (W.setRow B6 #[c1, c2]).setCell ⟨B7, 0, none⟩ (.bool true)) → Ext w W' → R (.returned (.tuple #[.agg #[c1, c2], .bool true])) W') :
    bodyPostM Fence.wide 6 Try.prog Try.f33 R .ret { tmps := tmps, defers := ds.map mkD } ((W.setRow B6 #[c1, c2]).setCell ⟨B7, 0, none⟩ (.bool true)) := by
  have g1 := grown_setRow W B6 #[c1, c2]
  have g2 := grown_setCellS (W.setRow B6 #[c1, c2]) B7 0 (.bool true)
  have a6 := setRow_heap W B6 old #[c1, c2] 51 (0, 0) k6
  have a7 := (g1.block B7 (Array.getElem?_eq_some_iff.1 k7).1 (fun e => hne (Option.some.inj e).symm)).trans k7
  refine asks_end h6 h7 ((g2.block B6 (Array.getElem?_eq_some_iff.1 a6).1 (fun e => hne (Option.some.inj e))).trans a6) (cell_of_row _ B7 0 _ _ (0, 0) (heap_setCell_same _ B7 0 _ _ _ a7)) ((hE.setRow l6 _).setCell l7 _) hnd (fun D hD => ?_) hR
  have hD2 := (hm D hD).2
  refine ⟨(hm D hD).1, ?_⟩
  have e1 := (g1.block D (Array.getElem?_eq_some_iff.1 hD2).1 (fun e => by
    have e : D = B6 := Option.some.inj e
    rw [e, k6] at hD2
    cases hD2)).trans hD2
  exact (g2.block D (Array.getElem?_eq_some_iff.1 e1).1 (fun e => by
    have e : D = B7 := Option.some.inj e
    rw [e, k7] at hD2
    cases hD2)).trans e1

theorem asks_ret1 {w W : World} {B6 B7 D : Nat} {tmps : Array Value} {old : Array Value} {c1 c2 : Value} {R : Ending → World → Prop} (h6 : tmps[6]? = some (.pointer (some ⟨B6, 0, none⟩))) (h7 : tmps[7]? = some (.pointer (some ⟨B7, 0, none⟩))) (k6 : W.heap[B6]? = some (.cells old 51 (0, 0))) (k7 : W.heap[B7]? = some (.cells #[.bool false] 4 (0, 0)))
    (hne : B6 ≠ B7) (hE : Ext w W) (l6 : w.heap.size ≤ B6) (l7 : w.heap.size ≤ B7) (hm : w.heap.size ≤ D ∧ W.heap[D]? = some (.deferred (some [])))
    (hR : ∀ W', Ext w W' → R (.returned (.tuple #[.agg #[c1, c2], .bool true])) W') :
    bodyPostM Fence.wide 6 Try.prog Try.f33 R .ret { tmps := tmps, defers := [{ target := .collected D, args := #[] }] } ((W.setRow B6 #[c1, c2]).setCell ⟨B7, 0, none⟩ (.bool true)) :=
  asks_ret (ds := [D]) h6 h7 k6 k7 hne hE l6 l7 (by simp) (fun D' h => by rw [List.mem_singleton.1 h]; exact hm) (fun W' _ e => hR W' e)

end Go.Proofs.Ytkmnhapeohlooaa

/-
  Layer 18: a call of the script: none of the five.
-/
namespace Go.Proofs.Ytkmnhapeohlooaa
open Go.RowKit
set_option maxRecDepth 100000

set_option maxHeartbeats 8000000 in
theorem asks_none {w0 w : World} {sb : Nat} {hs : List Int} {Ak : Option Addr} {n : Nat} {Av : Option Addr} {ss : List Sl} {V : List Int} {X : Nat → Prop} {base : Nat} (h : AS w0 w sb hs Ak n Av ss V X base) (hn : n ≤ 1048576) (ck cv : Nat) (kA : Option Addr) (kn kc : Nat) (key : List Nat) (tk : Rd .u8 w kA kn key) (k : Int) (uk : U8 key) (lk : kn ≤ 1048576) (hA : Option Addr) (hn2 hc : Nat) (hi : List Nat) (th : Rd .u8 w hA hn2 hi) (uh : U8 hi) (_lh : hn2 ≤ 1048576) (v : Int) (hk : k ≠ 1 ∧ k ≠ 2 ∧ k ≠ 3 ∧ k ≠ 4 ∧ k ≠ 5) :
    Calls Try.prog 33 #[.pointer (some ⟨sb, 0, none⟩), .agg #[.slice Ak n ck, .slice Av n cv], .agg #[.int .i64 k, .slice kA kn kc, .slice hA hn2 hc, .int .i64 v]] w (AskPost w0 w sb hs n X Ak Av ss) := by
  have hEa : Ext w ((((w.alloc (.cells #[.slice Ak n ck, .slice Av n cv] 51)).alloc (.cells #[.int .i64 k, .slice kA kn kc, .slice hA hn2 hc, .int .i64 v] 54)).alloc (.cells #[.slice none 0 0, .slice none 0 0] 51)).alloc (.cells #[.bool false] 4)) := ((((Ext.refl w).alloc _).alloc _).alloc _).alloc _
  have CP := Lib.hid (rplace_any Ak n ck Av n cv ss kA kn kc key _ (h.rk.ext hEa) (fun s hs => ⟨((h.tx s hs).1).ext hEa, by have := (h.tx s hs).2.2; omega⟩) (by omega) (tk.ext hEa) (by omega))
  have HH := Lib.hid h
  have HEa := Lib.hid hEa
  have Tk := Lib.hid tk
  have Uk := Lib.hid uk
  have Th := Lib.hid th
  have Uh := Lib.hid uh
  have HnL := Lib.hid h.len
  have HLb : Hid ((bodies ss).length < 1099511627776) := Lib.hid (by rw [h.len]; omega)
  obtain ⟨s, hs0⟩ : ∃ s, s = skN key (bodies ss) := ⟨_, rfl⟩
  obtain ⟨D, hD⟩ : ∃ D, D = decide ((bodies ss)[skN key (bodies ss)]? = some key) := ⟨_, rfl⟩
  have hsn : s ≤ n := by have := skN_le key (bodies ss); rw [h.len] at this; omega
  rw [← hD, ← hs0] at CP
  have Hs0 := Lib.hid hs0
  have HD := Lib.hid hD
  clear h hEa tk uk th uh hs0 hD
  refine (callsIn_wide (n := 6)).1 ?_
  refine callsIn_of_wp_marks Try.func33 rfl trivial ?_ rfl
  simp only [Try.ntmps33, List.size_toArray, List.length_cons, List.length_nil, Nat.reduceAdd, Nat.reduceSub, Array.replicate_succ, Array.replicate_zero, List.push_toArray, List.append_toArray, List.nil_append, List.cons_append]
  refine wpIn_wide.2 ?_
  go_wp2_with fail
  refine CP.out.mono ?_
  rintro e w1 ⟨rfl, he1⟩
  have HQ0 : Hid (((((w.alloc (.cells #[.slice Ak n ck, .slice Av n cv] 51)).alloc (.cells #[.int .i64 k, .slice kA kn kc, .slice hA hn2 hc, .int .i64 v] 54)).alloc (.cells #[.slice none 0 0, .slice none 0 0] 51)).alloc (.cells #[.bool false] 4)).heap.size = w.heap.size + 4) := Lib.hid (by simp [World.size_alloc])
  obtain ⟨W1, hW1⟩ : ∃ W1, W1 = w1.alloc (.cells #[.int .i64 (s : Int)] 3) := ⟨_, rfl⟩
  have hq4 := (he1.block w.heap.size (by rw [HQ0.out]; omega)).trans ((Below.heap_alloc _ _ _ (by simp <;> omega)).trans ((Below.heap_alloc _ _ _ (by simp <;> omega)).trans ((Below.heap_alloc _ _ _ (by simp)).trans (heap_alloc_new w (.cells #[.slice Ak n ck, .slice Av n cv] 51)))))
  have hq5 := (he1.block (w.heap.size + 1) (by rw [HQ0.out]; omega)).trans ((Below.heap_alloc _ _ _ (by simp <;> omega)).trans ((Below.heap_alloc _ _ _ (by simp <;> omega)).trans (show _ = some (Obj.cells #[.int .i64 k, .slice kA kn kc, .slice hA hn2 hc, .int .i64 v] 54 (0, 0)) from by
    have := heap_alloc_new (w.alloc (.cells #[.slice Ak n ck, .slice Av n cv] 51)) (.cells #[.int .i64 k, .slice kA kn kc, .slice hA hn2 hc, .int .i64 v] 54)
    rwa [World.size_alloc] at this)))
  have hq6 := (he1.block (w.heap.size + 1 + 1) (by rw [HQ0.out]; omega)).trans ((Below.heap_alloc _ _ _ (by simp <;> omega)).trans (show _ = some (Obj.cells #[.slice none 0 0, .slice none 0 0] 51 (0, 0)) from by
    have := heap_alloc_new ((w.alloc (.cells #[.slice Ak n ck, .slice Av n cv] 51)).alloc (.cells #[.int .i64 k, .slice kA kn kc, .slice hA hn2 hc, .int .i64 v] 54)) (.cells #[.slice none 0 0, .slice none 0 0] 51)
    rwa [World.size_alloc, World.size_alloc] at this))
  have hq7 := (he1.block (w.heap.size + 1 + 1 + 1) (by rw [HQ0.out]; omega)).trans (show _ = some (Obj.cells #[.bool false] 4 (0, 0)) from by
    have := heap_alloc_new (((w.alloc (.cells #[.slice Ak n ck, .slice Av n cv] 51)).alloc (.cells #[.int .i64 k, .slice kA kn kc, .slice hA hn2 hc, .int .i64 v] 54)).alloc (.cells #[.slice none 0 0, .slice none 0 0] 51)) (.cells #[.bool false] 4)
    rwa [World.size_alloc, World.size_alloc, World.size_alloc] at this)
  have hz1 := he1.size
  rw [HQ0.out] at hz1
  obtain ⟨B4, hB4⟩ : ∃ B4, B4 = w.heap.size := ⟨_, rfl⟩
  obtain ⟨B8, hB8⟩ : ∃ B8, B8 = w1.heap.size := ⟨_, rfl⟩
  have he8 : Ext w1 W1 := by rw [hW1]; exact (Ext.refl w1).alloc _
  have hq8 : W1.heap[B8]? = some (.cells #[.int .i64 (s : Int)] 3 (0, 0)) := by rw [hW1, hB8]; exact heap_alloc_new w1 _
  rw [← hB4] at hq4 hq5 hq6 hq7
  have HB4 := Lib.hid hB4
  have HB8 := Lib.hid hB8
  have HE1 := Lib.hid ((HEa.out.trans he1).trans he8)
  have HQ : Hid (∀ W, Ext W1 W → W.heap[B4]? = some (.cells #[.slice Ak n ck, .slice Av n cv] 51 (0, 0)) ∧ W.heap[B4 + 1]? = some (.cells #[.int .i64 k, .slice kA kn kc, .slice hA hn2 hc, .int .i64 v] 54 (0, 0)) ∧ W.heap[B4 + 1 + 1]? = some (.cells #[.slice none 0 0, .slice none 0 0] 51 (0, 0)) ∧ W.heap[B4 + 1 + 1 + 1]? = some (.cells #[.bool false] 4 (0, 0)) ∧ W.heap[B8]? = some (.cells #[.int .i64 (s : Int)] 3 (0, 0))) := Lib.hid fun W hW => by
    have hx := he8.trans hW
    exact ⟨(hx.block _ (by rw [hB4]; omega)).trans hq4, (hx.block _ (by rw [hB4]; omega)).trans hq5, (hx.block _ (by rw [hB4]; omega)).trans hq6, (hx.block _ (by rw [hB4]; omega)).trans hq7, (hW.block _ (Array.getElem?_eq_some_iff.1 hq8).1).trans hq8⟩
  have HZ := Lib.hid (show w.heap.size + 4 ≤ B8 ∧ B8 < W1.heap.size from ⟨by rw [hB8]; exact hz1, (Array.getElem?_eq_some_iff.1 hq8).1⟩)
  have HL1 := Lib.hid (HH.out.to HE1.out)
  have Q4 := Lib.hid (HQ.out W1 (Ext.refl _)).1
  have Q6 := Lib.hid (HQ.out W1 (Ext.refl _)).2.2.1
  obtain ⟨q4, q5, q6, q7, q8⟩ := HQ.out W1 (Ext.refl _)
  have c40 := cell_of_row W1 B4 0 _ _ (0, 0) q4
  have c41 : W1.cell? ⟨B4, 1, none⟩ = some (.slice Av n cv) := cell_of_row W1 B4 1 _ _ (0, 0) q4
  have c50 : W1.cell? ⟨B4 + 1, 0, none⟩ = some (.int .i64 k) := cell_of_row W1 (B4 + 1) 0 _ _ (0, 0) q5
  have c51 : W1.cell? ⟨B4 + 1, 1, none⟩ = some (.slice kA kn kc) := cell_of_row W1 (B4 + 1) 1 _ _ (0, 0) q5
  have c52 : W1.cell? ⟨B4 + 1, 2, none⟩ = some (.slice hA hn2 hc) := cell_of_row W1 (B4 + 1) 2 _ _ (0, 0) q5
  have c53 : W1.cell? ⟨B4 + 1, 3, none⟩ = some (.int .i64 v) := cell_of_row W1 (B4 + 1) 3 _ _ (0, 0) q5
  have c7 : W1.cell? ⟨B4 + 1 + 1 + 1, 0, none⟩ = some (.bool false) := cell_of_row W1 (B4 + 1 + 1 + 1) 0 _ _ (0, 0) q7
  have f7 : W1.frozen? ⟨B4 + 1 + 1 + 1, 0, none⟩ = false := by simp [World.frozen?, q7]
  have c80 : W1.cell? ⟨B8, 0, none⟩ = some (.int .i64 (s : Int)) := cell_of_row W1 B8 0 _ _ (0, 0) q8
  have c7r : ∀ cs, (W1.setRow (B4 + 1 + 1) cs).cell? ⟨B4 + 1 + 1 + 1, 0, none⟩ = some (.bool false) := fun cs => (row_far (by omega) q7 cs).1
  have f7r : ∀ cs, (W1.setRow (B4 + 1 + 1) cs).frozen? ⟨B4 + 1 + 1 + 1, 0, none⟩ = false := fun cs => (row_far (by omega) q7 cs).2
  clear he8 hq4 hq5 hq6 hq7 hq8 hz1 CP HQ0 HEa q4 q5 q6 q7 q8
  have k1 : (k == 1) = false := by simp [hk.1]
  have k2 : (k == 2) = false := by simp [hk.2.1]
  have k3 : (k == 3) = false := by simp [hk.2.2.1]
  have k4 : (k == 4) = false := by simp [hk.2.2.2.1]
  have k5 : (k == 5) = false := by simp [hk.2.2.2.2]
  clear hk
  simp only [hB8, hB4, hW1] at c40 c41 c50 c51 c52 c53 c7 f7 c80 c7r f7r

  simp only [hB4, hW1] at Q4 Q6
  go_wp2_with (first
      | (refine wpList_load_row rfl 51 _ rfl w.heap.size rfl 51 #[.slice Ak n ck, .slice Av n cv] (0, 0) _ Q4.out Try.underlying51 rfl (by kernel_rfl) ?_)
      | (refine wpList_store_row rfl 51 _ _ rfl (w.heap.size + 1 + 1) #[.slice Ak n ck, .slice Av n cv] rfl rfl 51 #[.slice none 0 0, .slice none 0 0] Q6.out (by kernel_rfl) rfl (by simp [Value.oneCell']) ?_)
      | fail)
  rw [← hW1, ← hB8, ← hB4]
  clear he1 hW1 hB8 hB4
  exact asks_ret (W := W1) (ds := []) rfl rfl (HQ.out W1 (Ext.refl _)).2.2.1 (HQ.out W1 (Ext.refl _)).2.2.2.1 (by omega) HE1.out (by have := HB4.out; omega) (by have := HB4.out; omega) List.nodup_nil (fun D hD => by cases hD) (fun W' _ e2 => ⟨Ak, n, ck, Av, cv, ss, V, X, base, rfl, by omega, HH.out.to e2, e2.size, fun q hq hf => ⟨hf, e2.block q hq⟩⟩)

end Go.Proofs.Ytkmnhapeohlooaa
