/-
  Layer 18: pages: the key behind a key; two cells that are written in a round.
-/
import Derived.Test.YtkmnhapeohlooaaSK16
namespace Go.Proofs.Ytkmnhapeohlooaa
open Go.RowKit
set_option maxRecDepth 100000

/-- A key and a byte 0 stands just behind the key. -/
theorem ord_snoc0 : ∀ (k y : List Nat), ordT y (k ++ [0]) < 0 ↔ ¬ ordT k y < 0
  | [], [] => by decide
  | [], a :: r => by
    rw [ordT_nil_cons, List.nil_append]
    by_cases h : a = 0
    · subst h
      rw [ordT_eq rfl]
      cases r with
      | nil => decide
      | cons b r => rw [ordT_cons_nil]; decide
    · rw [ordT_gt (by omega)]; decide
  | b :: s, [] => by
    rw [List.cons_append, ordT_nil_cons, ordT_cons_nil]; decide
  | b :: s, a :: r => by
    rw [List.cons_append]
    rcases Nat.lt_trichotomy a b with h | h | h
    · rw [ordT_lt h, ordT_gt h]; decide
    · rw [ordT_eq h, ordT_eq h.symm]; exact ord_snoc0 s r
    · rw [ordT_gt h, ordT_lt h]; decide

theorem skN_next {L : List (List Nat)} (ha : Asc L) {p : Nat} {k : List Nat} (hp : L[p]? = some k) : skN (k ++ [0]) L = p + 1 := by
  have hpl := (List.getElem?_eq_some_iff.1 hp).1
  have hle := skN_le (k ++ [0]) L
  rcases Nat.lt_trichotomy (skN (k ++ [0]) L) (p + 1) with h | h | h
  · have h1 := skN_ge ha (show skN (k ++ [0]) L ≤ p by omega) hp
    have h2 := (ord_snoc0 k k).2 (by rw [ordT_self]; decide)
    omega
  · exact h
  · obtain ⟨y, hy⟩ : ∃ y, L[p + 1]? = some y := ⟨L[p + 1], List.getElem?_eq_getElem (by omega)⟩
    have h1 := skN_lt h hy
    have h2 := (ord_snoc0 k y).1 h1
    exact absurd (asc_lt ha hp hy (by omega)) h2

theorem rng_from (L : List (List Nat)) (V : List Int) (hV : V.length = L.length) (lo : List Nat) : rngK L lo [] = L.drop (skN lo L) ∧ rngV L V lo [] = V.drop (skN lo L) := by
  have hk : rngK L lo [] = L.drop (skN lo L) := by
    unfold rngK
    exact tw_all (fun x _ => rfl)
  refine ⟨hk, ?_⟩
  unfold rngV
  rw [hk, List.take_of_length_le (by simp; omega)]

/-- Two cells that a round writes. -/
structure PG (w1 W : World) (Bn Bt : Nat) (n t : Nat) : Prop where
  fr : FrX (fun q => q = Bn ∨ q = Bt) w1 W
  lt : Bn < w1.heap.size ∧ Bt < w1.heap.size ∧ Bn ≠ Bt
  hn : W.heap[Bn]? = some (.cells #[.int .i64 (n : Int)] 3 (0, 0))
  ht : W.heap[Bt]? = some (.cells #[.int .i64 (t : Int)] 3 (0, 0))
section
variable {w1 W W' : World} {Bn Bt n t : Nat}
theorem PG.turn (h : PG w1 W Bn Bt n t) {row : Option Nat} (hg : W.grownBy W' row) (hr : ∀ r, row = some r → w1.heap.size ≤ r ∧ ∃ o : Obj, W.heap[r]? = some o ∧ o.isCells = false) : PG w1 W' Bn Bt n t := by
  have hc : ∀ r, row = some r → ∃ o : Obj, W.heap[r]? = some o ∧ o.isCells = false := fun r e => (hr r e).2
  refine ⟨⟨hg.os.trans h.fr.os, hg.tape.trans h.fr.tape, hg.output.trans h.fr.output, Nat.le_trans h.fr.size hg.size, fun q hq hx => ?_⟩, h.lt, kc_grown hg hc h.hn, kc_grown hg hc h.ht⟩
  exact (hg.block q (Nat.lt_of_lt_of_le hq h.fr.size) (fun e => by have := (hr q e.symm).1; omega)).trans (h.fr.block q hq hx)
theorem PG.cn (h : PG w1 W Bn Bt n t) : W.cell? ⟨Bn, 0, none⟩ = some (.int .i64 (n : Int)) := cell_of_row W Bn 0 _ _ (0, 0) h.hn
theorem PG.ct (h : PG w1 W Bn Bt n t) : W.cell? ⟨Bt, 0, none⟩ = some (.int .i64 (t : Int)) := cell_of_row W Bt 0 _ _ (0, 0) h.ht
theorem PG.fz (h : PG w1 W Bn Bt n t) : W.frozen? ⟨Bn, 0, none⟩ = false ∧ W.frozen? ⟨Bt, 0, none⟩ = false := ⟨by simp [World.frozen?, h.hn], by simp [World.frozen?, h.ht]⟩
theorem PG.ext (h : PG w1 W Bn Bt n t) (he : Ext W W') : PG w1 W' Bn Bt n t := h.turn (row := none) ⟨he.os, he.tape, he.output, he.size, fun i hi _ => he.block i hi⟩ (fun r e => by cases e)
theorem PG.two (h : PG w1 W Bn Bt n t) (he : Ext W W') (v u : Nat) : PG w1 ((W'.setCell ⟨Bn, 0, none⟩ (.int .i64 (v : Int))).setCell ⟨Bt, 0, none⟩ (.int .i64 (u : Int))) Bn Bt v u := by
  have h0 := h.ext he
  have g1 := grown_setCellS W' Bn 0 (.int .i64 (v : Int))
  have g2 := grown_setCellS (W'.setCell ⟨Bn, 0, none⟩ (.int .i64 (v : Int))) Bt 0 (.int .i64 (u : Int))
  have s1 := heap_setCell_same W' Bn 0 _ _ (.int .i64 (v : Int)) h0.hn
  have t1 := (Below.heap_setCell W' ⟨Bn, 0, none⟩ (.int .i64 (v : Int)) Bt (by have := h.lt.2.2; simp; omega)).trans h0.ht
  refine ⟨(h0.fr.trans (grownBy_frX g1 (.inl (.inl rfl)))).trans (grownBy_frX g2 (.inl (.inr rfl))), h.lt, ?_, heap_setCell_same _ Bt 0 _ _ _ t1⟩
  exact (Below.heap_setCell _ ⟨Bt, 0, none⟩ (.int .i64 (u : Int)) Bn (by have := h.lt.2.2; simp; omega)).trans s1
end

theorem RdG.fr {T : Type} {s : Shape T} {P : Nat → Prop} {w w' : World} {A : Option Addr} {n : Nat} {xs : List T} (h : RdG s w A n xs) (f : FrX P w w') (hP : ∀ a, A = some a → ¬ P a.block) : RdG s w' A n xs :=
  ⟨h.1, fun hn => by
    obtain ⟨b, o, e, hlt, hc⟩ := h.2 hn
    exact ⟨b, o, e, Nat.lt_of_lt_of_le hlt f.size, fun j x hj i u hu => (World.cell?_of_block (w := w) (a := ⟨b, o + j * s.sz + i, none⟩) (show w'.heap[b]? = w.heap[b]? from f.block b hlt (hP _ e))).trans (hc j x hj i u hu)⟩⟩

def mkD (D : Nat) : Deferred := { target := .collected D, args := #[] }
/-- A function's end where only marks are left. -/
theorem leaves_mk {F : Fence} {n : Nat} {P : Program} {fn : Func} {tmps : Array Value} {R : Ending → World → Prop} (Z : World → Prop) : ∀ (ds : List Nat), ds.Nodup →
    (∀ w D, Z w → D ∈ ds → w.heap[D]? = some (.deferred (some [])) → Z (w.putObj D (.deferred none))) → (∀ w, Z w → LeavesIn F n P fn tmps R [] .returning w) →
    ∀ w, Z w → (∀ D ∈ ds, w.heap[D]? = some (.deferred (some []))) → LeavesInM F n P fn tmps R (ds.map mkD) .returning w := by
  intro ds
  induction ds with
  | nil => intro _ _ hend w hz _; exact hend w hz
  | cons D ds ih =>
    intro hnd hZ hend w hz hm
    have hD := hm D List.mem_cons_self
    refine ⟨by simp, .inl ⟨_, _, rfl, run_takeDeferred hD, ?_⟩⟩
    refine ih (List.nodup_cons.1 hnd).2 (fun w' D' h1 h2 h3 => hZ w' D' h1 (List.mem_cons_of_mem _ h2) h3) hend _ (hZ w D hz List.mem_cons_self hD) (fun D' hD' => ?_)
    rw [World.putObj_heap_other (fun e => (List.nodup_cons.1 hnd).1 (by rw [← e]; exact hD'))]
    exact hm D' (List.mem_cons_of_mem _ hD')

theorem pages_end {w W : World} {B8 : Nat} {tmps : Array Value} {ds : List Nat} (h8 : tmps[8]? = some (.pointer (some ⟨B8, 0, none⟩))) (hc : W.cell? ⟨B8, 0, none⟩ = some (.bool true)) (hE : Ext w W) (hnd : ds.Nodup) (hm : ∀ D ∈ ds, w.heap.size ≤ D ∧ W.heap[D]? = some (.deferred (some []))) :
    bodyPostM Fence.wide 6 Try.prog Try.f10 (fun e w' => e = .returned (.bool true) ∧ Ext w w') .ret { tmps := tmps, defers := ds.map mkD } W := by
  refine leaves_mk (fun W => W.cell? ⟨B8, 0, none⟩ = some (.bool true) ∧ Ext w W) ds hnd (fun W D hZ hD hW => ?_) (fun W hZ => ?_) W ⟨hc, hE⟩ (fun D hD => (hm D hD).2)
  · refine ⟨cell_kept hZ.1 (grownBy_putObj' W D _) (fun r e => by cases e; exact ⟨_, hW, rfl⟩), grownBy_ext hZ.2 (grownBy_putObj' W D _) (fun g e => by cases e; exact (hm D hD).1)⟩
  · refine ⟨.bool true, ?_, rfl, hZ.2⟩
    have h := hZ.1
    have h9 : tmps.getD 8 undef = .pointer (some ⟨B8, 0, none⟩) := by simp [Array.getD_eq_getD_getElem?, h8]
    simp [results, Try.results10, go_sem, h, h8]

end Go.Proofs.Ytkmnhapeohlooaa
