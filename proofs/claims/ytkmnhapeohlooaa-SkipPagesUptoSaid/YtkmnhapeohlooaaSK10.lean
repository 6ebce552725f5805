/-
  Layer 18: Each; what Range has read so far.
-/
import Derived.Test.YtkmnhapeohlooaaSK9
import Derived.Test.YtkmnhapeohlooaaRE
import Derived.Test.YtkmnhapeohlooaaRCk
import Derived.Test.YtkmnhapeohlooaaTX
namespace Go.Proofs.Ytkmnhapeohlooaa
open Go.RowKit
set_option maxRecDepth 100000

/-- An operation in a round, by its walk outside. -/
theorem wpIn_of_wp {l n : Nat} {P : Program} {o : Oper} {a : Act} {w : World} {K : Act → World → Prop} {Q : Exit → Act → World → Prop} (hnd : ∀ c, o.op ≠ .defer c) (h : Oper.wp P o a w K (tight Q)) : Oper.wpIn (Fence.wide.inRound l) n P o a w K Q :=
  ⟨fun _ _ => trivial, by rw [Oper.semAt_eq _ _ _ hnd]; exact upon_round (fun _ _ h => h) h⟩

theorem keeps_ext {W W' : World} (h : Ext W W') : KeepsOthers W W' :=
  KeepsOthers.of_grownBy (row := none) ⟨h.os, h.tape, h.output, h.size, fun i hi _ => h.block i hi⟩ (fun j o e _ => by cases e)

theorem kc_grown {W W' : World} {row : Option Nat} (hg : W.grownBy W' row) (hr : ∀ r, row = some r → ∃ o : Obj, W.heap[r]? = some o ∧ o.isCells = false) {q : Nat} {cur : Array Value} {T : TypeId} {fr : Nat × Nat} (h : W.heap[q]? = some (.cells cur T fr)) : W'.heap[q]? = some (.cells cur T fr) :=
  (hg.block q (Array.getElem?_eq_some_iff.1 h).1 (fun e => by
    obtain ⟨o, ho, hc⟩ := hr q e.symm
    rw [h] at ho
    injection ho with ho
    subst ho
    exact absurd hc (by simp [Obj.isCells]))).trans h
theorem OwnG.cellsAt {T : Type} {s : Shape T} {e : TypeId} {w : World} {base c : Nat} {A : Option Addr} {xs : List T} (h : OwnG s e w base A c xs) : ∀ a, A = some a → ∃ cur, w.heap[a.block]? = some (.cells cur e (0, 0)) := by
  rintro a rfl
  rcases h.2 with ⟨hv, _⟩ | ⟨g, cap, cur, hv, _, hh, _⟩
  · cases hv
  · injection hv with hA
    injection hA with hA
    subst hA
    exact ⟨cur, hh⟩
theorem OwnG.owned {T : Type} {s : Shape T} {e : TypeId} {w w' : World} {base c : Nat} {A : Option Addr} {xs : List T} {row : Option Nat} (h : OwnG s e w base A c xs) (hg : w.grownBy w' row) (hr : ∀ r, row = some r → ∃ o : Obj, w.heap[r]? = some o ∧ o.isCells = false) : OwnG s e w' base A c xs :=
  h.blk (fun a ha => by obtain ⟨cur, hc⟩ := h.cellsAt a ha; exact (kc_grown hg hr hc).trans hc.symm)
theorem OwnG.keeps {T : Type} {s : Shape T} {e : TypeId} {W W' : World} {base c : Nat} {A : Option Addr} {xs : List T} (h : OwnG s e W base A c xs) (hg : W.grownBy W' (A.map (·.block))) : KeepsOthers W W' := by
  refine KeepsOthers.of_grownBy hg (fun j o ej ho => ?_)
  obtain ⟨a, ha, rfl⟩ := Option.map_eq_some_iff.1 ej
  obtain ⟨cur, hc⟩ := h.cellsAt a ha
  rw [hc] at ho
  injection ho with ho
  subst ho
  rfl
theorem Own8.block {w : World} {base c : Nat} {A : Option Addr} {xs : List Nat} (h : Own .u8 5 w base A c xs) : ∀ a, A = some a → ∃ cur, w.heap[a.block]? = some (.cells cur 5 (0, 0)) := by
  rintro a rfl
  rcases h.2 with ⟨hv, _⟩ | ⟨g, cap, cur, hv, _, hh, _⟩
  · cases hv
  · injection hv with hA
    injection hA with hA
    subst hA
    exact ⟨cur, hh⟩
theorem Own8.grown {w w' : World} {base c : Nat} {A : Option Addr} {xs : List Nat} {row : Option Nat} (h : Own .u8 5 w base A c xs) (hg : w.grownBy w' row) (hne : ∀ r, row = some r → ∀ cur fr, w.heap[r]? ≠ some (.cells cur 5 fr)) : Own .u8 5 w' base A c xs :=
  World.ownsRow.kept h hg (by
    cases A with
    | none => exact .inl rfl
    | some a =>
      obtain ⟨cur, hc⟩ := Own8.block h a rfl
      exact .inr (fun e => hne _ e.symm cur _ hc))
theorem Txts.grownN {w w' : World} {base : Nat} {ts : List Sl} {row : Option Nat} (h : Txts w base ts) (hg : w.grownBy w' row) (hne : ∀ r, row = some r → ∀ cur fr, w.heap[r]? ≠ some (.cells cur 5 fr)) : Txts w' base ts :=
  ⟨fun s hs => Own8.grown (h.own s hs) hg hne, h.apart⟩
theorem Txts.mono' {w : World} {base base' : Nat} {ts : List Sl} (h : Txts w base ts) (hb : base' ≤ base) : Txts w base' ts := ⟨fun s hs => (h.own s hs).mono hb, h.apart⟩

/-- What Range has read so far. -/
structure RS (w1 W : World) (B : Nat) (ts : List Sl) (vs : List Int) : Prop where
  lt : B + 3 ≤ w1.heap.size
  size : w1.heap.size ≤ W.heap.size
  sys : W.os = w1.os ∧ W.tape = w1.tape ∧ W.output = w1.output
  kb : ∀ q, q < w1.heap.size → q ≠ B + 1 → q ≠ B + 2 → W.heap[q]? = w1.heap[q]?
  ks : ∃ A c, W.heap[B + 1]? = some (.cells #[.slice A ts.length c] 49 (0, 0)) ∧ OwnT W w1.heap.size A c ts
  tx : Txts W w1.heap.size ts
  vs : ∃ A c, W.heap[B + 2]? = some (.cells #[.slice A vs.length c] 45 (0, 0)) ∧ OwnG shZ 3 W w1.heap.size A c vs

section
variable {w1 W W' : World} {B : Nat} {ts : List Sl} {vs : List Int}
theorem RS.turn (h : RS w1 W B ts vs) {row : Option Nat} (hg : W.grownBy W' row) (hr : ∀ r, row = some r → w1.heap.size ≤ r ∧ ∃ o : Obj, W.heap[r]? = some o ∧ o.isCells = false) : RS w1 W' B ts vs := by
  obtain ⟨Ak, ck, k1, k2⟩ := h.ks
  obtain ⟨Av, cv, v1, v2⟩ := h.vs
  have hc : ∀ r, row = some r → ∃ o : Obj, W.heap[r]? = some o ∧ o.isCells = false := fun r e => (hr r e).2
  refine ⟨h.lt, Nat.le_trans h.size hg.size, ⟨hg.os.trans h.sys.1, hg.tape.trans h.sys.2.1, hg.output.trans h.sys.2.2⟩, fun q q1 q2 q3 => ?_, ⟨Ak, ck, kc_grown hg hc k1, k2.owned hg hc⟩, h.tx.grownN hg (fun r e cur fr q => ?_), ⟨Av, cv, kc_grown hg hc v1, v2.owned hg hc⟩⟩
  · exact (hg.block q (Nat.lt_of_lt_of_le q1 h.size) (fun e => by have := (hr q e.symm).1; omega)).trans (h.kb q q1 q2 q3)
  · obtain ⟨o, ho, hoc⟩ := hc r e
    rw [q] at ho
    injection ho with ho
    subst ho
    exact absurd hoc (by simp [Obj.isCells])
theorem RS.ext (h : RS w1 W B ts vs) (he : Ext W W') : RS w1 W' B ts vs := h.turn (row := none) ⟨he.os, he.tape, he.output, he.size, fun i hi _ => he.block i hi⟩ (fun r e => by cases e)

theorem RS.pushK (h : RS w1 W B ts vs) {Ak : Option Addr} {ck : Nat} (hk : OwnT W w1.heap.size Ak ck ts) (hb : W.heap[B + 1]? = some (.cells #[.slice Ak ts.length ck] 49 (0, 0))) {s : Sl} {b2 : Nat} (hs : Own .u8 5 W b2 s.A s.c s.body) (hb2 : w1.heap.size ≤ b2) (hlt : ∀ t ∈ ts, ∀ p, t.A = some p → p.block < b2)
    {A' : Option Addr} {c' : Nat} (ho : OwnT W' w1.heap.size A' c' (ts ++ [s])) (hg : W.grownBy W' (Ak.map (·.block))) :
    RS w1 (W'.setCell ⟨B + 1, 0, none⟩ (.slice A' (ts.length + 1) c')) B (ts ++ [s]) vs ∧ KeepsOthers W (W'.setCell ⟨B + 1, 0, none⟩ (.slice A' (ts.length + 1) c')) ∧ W'.heap[B + 1]? = some (.cells #[.slice Ak ts.length ck] 49 (0, 0)) := by
  have hlt0 := h.lt
  have hsz := h.size
  have hA : ∀ r, (Ak.map (·.block)) = some r → w1.heap.size ≤ r ∧ ∃ cur, W.heap[r]? = some (.cells cur 52 (0, 0)) := fun r e => by
    obtain ⟨a, ha, rfl⟩ := Option.map_eq_some_iff.1 e
    exact ⟨(hk.block a ha).1, hk.cellsAt a ha⟩
  have hA2 : ∀ a, A' = some a → w1.heap.size ≤ a.block := fun a ha => (ho.block a ha).1
  have hq : ∀ q, q < w1.heap.size → W'.heap[q]? = W.heap[q]? := fun q q1 => hg.block q (by omega) (fun e => by have := (hA q e.symm).1; omega)
  have hb' := (hq (B + 1) (by omega)).trans hb
  have hset : ∀ q, q ≠ B + 1 → q < W'.heap.size → (W'.setCell ⟨B + 1, 0, none⟩ (.slice A' (ts.length + 1) c')).heap[q]? = W'.heap[q]? := fun q q1 q2 => Below.heap_setCell W' _ _ q (by simpa using q1)
  have hgs := grown_setCellS W' (B + 1) 0 (.slice A' (ts.length + 1) c')
  obtain ⟨Av, cv, v1, v2⟩ := h.vs
  have hne8 : ∀ r, (Ak.map (·.block)) = some r → ∀ cur fr, W.heap[r]? ≠ some (.cells cur 5 fr) := fun r e cur fr q => by
    obtain ⟨cur2, hc⟩ := (hA r e).2
    rw [hc] at q
    injection q with q
    injection q with _ q
    exact absurd q (by decide)
  have hne82 : ∀ r, some (B + 1) = some r → ∀ cur fr, W'.heap[r]? ≠ some (.cells cur 5 fr) := fun r e cur fr q => by
    injection e with e
    subst e
    rw [hb'] at q
    injection q with q
    injection q with _ q
    exact absurd q (by decide)
  refine ⟨⟨h.lt, ?_, ⟨(hgs.os.trans hg.os).trans h.sys.1, (hgs.tape.trans hg.tape).trans h.sys.2.1, (hgs.output.trans hg.output).trans h.sys.2.2⟩, fun q q1 q2 q3 => ?_, ⟨A', c', ?_, ho.grown hgs (fun a ha e => by have := hA2 a ha; injection e with e; omega)⟩, ?_, ⟨Av, cv, ?_, (v2.blk (fun a ha => ?_))⟩⟩, (hk.keeps hg).trans (KeepsOthers.setCell _ _ _), hb'⟩
  · exact Nat.le_trans hsz (Nat.le_trans hg.size hgs.size)
  · exact (hset q q2 (by have := hg.size; omega)).trans ((hq q q1).trans (h.kb q q1 q2 q3))
  · rw [List.length_append, List.length_singleton]
    exact heap_setCell_same W' (B + 1) 0 _ _ _ hb'
  · exact ((h.tx.snoc (hs.mono (Nat.le_refl _)) hb2 hlt).grownN hg hne8).grownN hgs hne82
  · exact (hset (B + 2) (by omega) (by have := hg.size; omega)).trans ((hq (B + 2) (by omega)).trans v1)
  · have h1 := (v2.block a ha)
    obtain ⟨cur, hcv⟩ := v2.cellsAt a ha
    refine (hset a.block (by omega) (by have := hg.size; omega)).trans (hg.block _ h1.2 (fun e => ?_))
    obtain ⟨cur2, hc⟩ := (hA _ e.symm).2
    rw [hcv] at hc
    injection hc with hc
    injection hc with _ hc
    exact absurd hc (by decide)

theorem RS.pushV (h : RS w1 W B ts vs) {Av : Option Addr} {cv : Nat} (hv : OwnG shZ 3 W w1.heap.size Av cv vs) (hb : W.heap[B + 2]? = some (.cells #[.slice Av vs.length cv] 45 (0, 0))) {x : Int}
    {A' : Option Addr} {c' : Nat} (ho : OwnG shZ 3 W' w1.heap.size A' c' (vs ++ [x])) (hg : W.grownBy W' (Av.map (·.block))) :
    RS w1 (W'.setCell ⟨B + 2, 0, none⟩ (.slice A' (vs.length + 1) c')) B ts (vs ++ [x]) ∧ KeepsOthers W (W'.setCell ⟨B + 2, 0, none⟩ (.slice A' (vs.length + 1) c')) ∧ W'.heap[B + 2]? = some (.cells #[.slice Av vs.length cv] 45 (0, 0)) := by
  have hlt0 := h.lt
  have hsz := h.size
  have hA : ∀ r, (Av.map (·.block)) = some r → w1.heap.size ≤ r ∧ ∃ cur, W.heap[r]? = some (.cells cur 3 (0, 0)) := fun r e => by
    obtain ⟨a, ha, rfl⟩ := Option.map_eq_some_iff.1 e
    exact ⟨(hv.block a ha).1, hv.cellsAt a ha⟩
  have hA2 : ∀ a, A' = some a → w1.heap.size ≤ a.block := fun a ha => (ho.block a ha).1
  have hq : ∀ q, q < w1.heap.size → W'.heap[q]? = W.heap[q]? := fun q q1 => hg.block q (by omega) (fun e => by have := (hA q e.symm).1; omega)
  have hb' := (hq (B + 2) (by omega)).trans hb
  have hset : ∀ q, q ≠ B + 2 → q < W'.heap.size → (W'.setCell ⟨B + 2, 0, none⟩ (.slice A' (vs.length + 1) c')).heap[q]? = W'.heap[q]? := fun q q1 q2 => Below.heap_setCell W' _ _ q (by simpa using q1)
  have hgs := grown_setCellS W' (B + 2) 0 (.slice A' (vs.length + 1) c')
  obtain ⟨Ak, ck, k1, k2⟩ := h.ks
  have hne8 : ∀ r, (Av.map (·.block)) = some r → ∀ cur fr, W.heap[r]? ≠ some (.cells cur 5 fr) := fun r e cur fr q => by
    obtain ⟨cur2, hc⟩ := (hA r e).2
    rw [hc] at q
    injection q with q
    injection q with _ q
    exact absurd q (by decide)
  have hne82 : ∀ r, some (B + 2) = some r → ∀ cur fr, W'.heap[r]? ≠ some (.cells cur 5 fr) := fun r e cur fr q => by
    injection e with e
    subst e
    rw [hb'] at q
    injection q with q
    injection q with _ q
    exact absurd q (by decide)
  refine ⟨⟨h.lt, ?_, ⟨(hgs.os.trans hg.os).trans h.sys.1, (hgs.tape.trans hg.tape).trans h.sys.2.1, (hgs.output.trans hg.output).trans h.sys.2.2⟩, fun q q1 q2 q3 => ?_, ⟨Ak, ck, ?_, (k2.blk (fun a ha => ?_))⟩, ?_, ⟨A', c', ?_, ho.grown hgs (fun a ha e => by have := hA2 a ha; injection e with e; omega)⟩⟩, (hv.keeps hg).trans (KeepsOthers.setCell _ _ _), hb'⟩
  · exact Nat.le_trans hsz (Nat.le_trans hg.size hgs.size)
  · exact (hset q q3 (by have := hg.size; omega)).trans ((hq q q1).trans (h.kb q q1 q2 q3))
  · exact (hset (B + 1) (by omega) (by have := hg.size; omega)).trans ((hq (B + 1) (by omega)).trans k1)
  · have h1 := (k2.block a ha)
    obtain ⟨cur, hcv⟩ := k2.cellsAt a ha
    refine (hset a.block (by omega) (by have := hg.size; omega)).trans (hg.block _ h1.2 (fun e => ?_))
    obtain ⟨cur2, hc⟩ := (hA _ e.symm).2
    rw [hcv] at hc
    injection hc with hc
    injection hc with _ hc
    exact absurd hc (by decide)
  · exact (h.tx.grownN hg hne8).grownN hgs hne82
  · rw [List.length_append, List.length_singleton]
    exact heap_setCell_same W' (B + 2) 0 _ _ _ hb'
end

def EachPost (sb m : Nat) (t : List Nat) (w : World) (e : Ending) (w' : World) : Prop :=
  ∃ Bl Bw A' c', e = .returned (.func (.func 83) #[] #[.pointer (some ⟨Bl, 0, none⟩), .pointer (some ⟨Bw, 0, none⟩)]) ∧ Ext w w' ∧ w.heap.size ≤ Bl ∧ w.heap.size ≤ Bw ∧ Bl < w'.heap.size ∧ Bw < w'.heap.size ∧
    w'.cell? ⟨Bl, 0, none⟩ = some (.pointer (some ⟨sb, 0, none⟩)) ∧ w'.cell? ⟨Bw, 0, none⟩ = some (.slice A' m c') ∧ Rd .u8 w' A' m t

theorem seach_any (sb : Nat) (A : Option Addr) (m c : Nat) (t : List Nat) (w : World) (ht : Rd .u8 w A m t) (hm : m ≤ 180000000000000) :
    Calls Try.prog 46 #[.pointer (some ⟨sb, 0, none⟩), .slice A m c] w (EachPost sb m t w) := by
  have CC := Lib.hid (fun W (hW : Ext w W) => clone_any A m c t W (ht.ext hW) hm)
  have hmf : ∀ (fn : Fn) (first cap : Array Value) (w : World), (Instr.makeFunc fn first cap).run Try.prog w = .ok (.func fn first cap) w := fun _ _ _ _ => rfl
  have hE : Ext w ((w.alloc (.cells #[.pointer (some ⟨sb, 0, none⟩)] 47)).alloc (.cells #[.slice A m c] 52)) := ((Ext.refl w).alloc _).alloc _
  have hb0 : ((w.alloc (.cells #[.pointer (some ⟨sb, 0, none⟩)] 47)).alloc (.cells #[.slice A m c] 52)).heap[w.heap.size]? = some (.cells #[.pointer (some ⟨sb, 0, none⟩)] 47 (0, 0)) := (Below.heap_alloc _ _ _ (by simp)).trans (heap_alloc_new w _)
  have hb1 := heap_alloc_new (w.alloc (.cells #[.pointer (some ⟨sb, 0, none⟩)] 47)) (.cells #[.slice A m c] 52)
  rw [World.size_alloc] at hb1
  have C1 := Lib.hid (CC.out _ hE)
  have Hml := Lib.hid ht.len
  have HB0 := Lib.hid hb0
  have HB1 := Lib.hid hb1
  have HE := Lib.hid hE
  clear ht hE hb0 hb1
  go_enter Try.func46, Try.ntmps46
  go_wp2_with fail
  refine C1.out.mono ?_
  rintro e w2 ⟨A2, c2, rfl, ho, he⟩
  have hq0 := (he.block w.heap.size (by simp <;> omega)).trans HB0.out
  have hq1 := (he.block (w.heap.size + 1) (by simp)).trans HB1.out
  have c1 := cell_of_row w2 (w.heap.size + 1) 0 _ _ (0, 0) hq1
  have f1 : w2.frozen? ⟨w.heap.size + 1, 0, none⟩ = false := by simp [World.frozen?, hq1]
  have s1 := heap_setCell_same w2 (w.heap.size + 1) 0 _ _ (.slice A2 m c2) hq1
  have s0 := (Below.heap_setCell w2 ⟨w.heap.size + 1, 0, none⟩ (.slice A2 m c2) w.heap.size (by simp)).trans hq0
  have r0 := cell_of_row _ w.heap.size 0 _ _ (0, 0) s0
  have r1 := cell_of_row _ (w.heap.size + 1) 0 _ _ (0, 0) s1
  have hE8 : Ext w (w2.setCell ⟨w.heap.size + 1, 0, none⟩ (.slice A2 m c2)) := Ext.setCell (HE.out.trans he) (by simp) _
  have hrd : Rd .u8 (w2.setCell ⟨w.heap.size + 1, 0, none⟩ (.slice A2 m c2)) A2 m t := by
    have := (Own8.grown ho (grown_setCellS w2 (w.heap.size + 1) 0 (.slice A2 m c2)) (fun r e cur fr q => by
    injection e with e
    subst e
    rw [hq1] at q
    injection q with q
    injection q with _ q
    exact absurd q (by decide))).rd
    rwa [Hml.out] at this
  have hl0 := (Array.getElem?_eq_some_iff.1 s0).1
  have hl1 := (Array.getElem?_eq_some_iff.1 s1).1
  have HZ : Hid (EachPost sb m t w (.returned (.func (.func 83) #[] #[.pointer (some ⟨w.heap.size, 0, none⟩), .pointer (some ⟨w.heap.size + 1, 0, none⟩)])) (w2.setCell ⟨w.heap.size + 1, 0, none⟩ (.slice A2 m c2))) :=
    Lib.hid ⟨_, _, A2, c2, rfl, hE8, Nat.le_refl _, Nat.le_succ _, hl0, hl1, by rw [r0]; rfl, by rw [r1]; rfl, hrd⟩
  clear hq0 hq1 s1 s0 r0 r1 hE8 hrd hl0 hl1 ho he
  go_wp2_with fail
  go_ret
  exact HZ.out

end Go.Proofs.Ytkmnhapeohlooaa
