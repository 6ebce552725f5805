import Derived.Test.YtkmnhapeohlooaaG6
import Derived.OrdersIn
import Derived.RangeFuncCalls
import Derived.Test.YtkmnhapeohlooaaG5
import Derived.Test.YtkmnhapeohlooaaG2

/-
  A region that draws its order, in a round of a range over a function.
-/
namespace Go.Proofs.Ytkmnhapeohlooaa
open Go Go.RowKit

/-- The same exits, but none by having run out. -/
def tight (Q : Exit → Act → World → Prop) : Exit → Act → World → Prop
  | .outgrown, _, _ => False
  | .normal, a, w => Q .normal a w
  | .exit i, a, w => Q (.exit i) a w
  | .goto l, a, w => Q (.goto l) a w
  | .ret, a, w => Q .ret a w
  | .panic c, a, w => Q (.panic c) a w

theorem letsOut_tight {Q : Exit → Act → World → Prop} (h : LetsOut (tight Q)) : False := by
  obtain ⟨_, _, q⟩ := h
  exact q

theorem rowsIn_round {l n : Nat} {P : Program} {row : String} {args : Array Value} {w : World} {R : Value → World → Prop} (h : Rows P row args w R) : RowsIn (Fence.wide.inRound l) n P row args w R :=
  fun c cs _ => let ⟨v, w', r, s⟩ := h c cs; ⟨v, w', r, stepsIn_wide.2 s⟩

theorem upon_round {l n : Nat} {P : Program} {o : Oper} {a : Act} {K K' : Act → World → Prop} {Q : Exit → Act → World → Prop} (hK : ∀ a w, K a w → K' a w) :
    ∀ {r : Result Next}, o.upon P a K (tight Q) r → o.uponIn (Fence.wide.inRound l) n P a K' Q r
  | .ok (.value v) w', h => hK _ _ h
  | .ok .skip w', h => hK _ _ h
  | .ok (.defer d) w', h => hK _ _ h
  | .ok (.enter f args) w', h => ⟨fun q => by simp [Fence.wide] at q, CallsIn.inRound l (callsIn_wide.2 (Calls.mono h (fun e w'' he => by
      cases e with
      | returned v => exact hK _ _ he
      | panicked c => exact he
      | outgrown => exact (letsOut_tight he).elim)))⟩
  | .ok (.row row args) w', h => ⟨fun q => by simp [Fence.wide] at q, rowsIn_round (Rows.mono h (fun _ _ he => hK _ _ he))⟩
  | .ok (.round ..) w', h => h.elim
  | .halt (.panic v) w', h => h
  | .halt (.stuck _) w', h => h.elim

def noDefer (ops : Array Oper) : Bool := ops.all fun o => match o.op with
  | .defer _ => false
  | _ => true
theorem noDefer_at {ops : Array Oper} (h : noDefer ops = true) {i : Nat} {o : Oper} (ho : ops[i]? = some o) : ∀ c, o.op ≠ .defer c := by
  intro c hc
  obtain ⟨hi, he⟩ := Array.getElem?_eq_some_iff.1 ho
  have := Array.all_eq_true.1 h i hi
  rw [he, hc] at this
  cases this

theorem wpOp_round {l n : Nat} {P : Program} {ops : Array Oper} {Q : Exit → Act → World → Prop} {i : Nat} {K K' : Act → World → Prop} {a : Act} {w : World} (hnd : noDefer ops = true) (hK : ∀ a w, K a w → K' a w)
    (h : wpOp P ops (tight Q) i K a w) : wpOpIn (Fence.wide.inRound l) n P ops Q i K' a w := by
  unfold wpOp at h
  unfold wpOpIn
  cases ho : ops[i]? with
  | none => rw [ho] at h; exact hK _ _ h
  | some o =>
    rw [ho] at h
    simp only at h ⊢
    split at h
    · rename_i hw
      rw [if_pos hw]
      rcases h with h | h
      · refine ⟨fun _ _ => trivial, ?_⟩
        rw [Oper.semAt_eq _ _ _ (noDefer_at hnd ho)]
        exact upon_round hK h
      · exact (letsOut_tight h.2).elim
    · rename_i hw
      rw [if_neg hw]
      exact ⟨fun _ _ => trivial, hK _ _ h⟩

theorem wpAny_round {l n : Nat} {P : Program} {md : Region.Mode} {ops : Array Oper} {Q : Exit → Act → World → Prop} (hnd : noDefer ops = true) :
    ∀ (fuel : Nat) (listed : Array Bool) (a : Act) (w : World), wpAny P md ops (tight Q) fuel listed a w → wpAnyIn (Fence.wide.inRound l) n P md ops Q fuel listed a w
  | 0, _, _, _, h => h
  | fuel + 1, _, _, _, h => ⟨h.1, fun i hi => wpOp_round hnd (fun a' w' h' => wpAny_round hnd fuel _ a' w' h') (h.2 i hi)⟩

theorem wpIn_region_round {l n id : Nat} {P : Program} {ops : Array Oper} {Q : Exit → Act → World → Prop} {a : Act} {w : World} (hm : P.follows .mixedOrders = true) (hnd : noDefer ops = true)
    (h : wpAny P .any ops (tight Q) ops.size (Array.replicate ops.size false) a w.drew) : (Code.region id ops true).wpIn (Fence.wide.inRound l) n P Q a w :=
  wpIn_region_any hm (wpAny_round hnd _ _ _ _ h)

end Go.Proofs.Ytkmnhapeohlooaa

/-
  Layer 18: Each; what Range has read so far.
-/
namespace Go.Proofs.Ytkmnhapeohlooaa
open Go.RowKit
set_option maxRecDepth 100000

/-- An operation in a round, by its walk outside. -/
theorem wpIn_of_wp {l n : Nat} {P : Program} {o : Oper} {a : Act} {w : World} {K : Act → World → Prop} {Q : Exit → Act → World → Prop} (hnd : ∀ c, o.op ≠ .defer c) (h : Oper.wp P o a w K (tight Q)) : Oper.wpIn (Fence.wide.inRound l) n P o a w K Q :=
  ⟨fun _ _ => trivial, by rw [Oper.semAt_eq _ _ _ hnd]; exact upon_round (fun _ _ h => h) h⟩

theorem keeps_ext {W W' : World} (h : Ext W W') : KeepsOthers W W' :=
  KeepsOthers.of_grownBy (row := none) ⟨h.os, h.tape, h.output, h.size, fun i hi _ => h.block i hi⟩ (fun j o e _ => by cases e)

theorem kc_grown {W W' : World} {row : Option Nat} (hg : W.grownBy W' row) (hr : ∀ r, row = some r → ∃ o : Obj, W.heap[r]? = some o ∧ o.isCells = false) {q : Nat} {cur : Array Value} {T : TypeId} {fr : Nat × Nat} (h : W.heap[q]? = some (.cells cur T fr)) : W'.heap[q]? = some (.cells cur T fr) :=
  (hg.block q (Array.getElem?_eq_some_iff.1 h).1 (fun e => by
    obtain ⟨o, ho, hc⟩ := hr q e.symm
    rw [h] at ho
    injection ho with ho
    subst ho
    exact absurd hc (by simp [Obj.isCells]))).trans h
theorem OwnG.cellsAt {T : Type} {s : Shape T} {e : TypeId} {w : World} {base c : Nat} {A : Option Addr} {xs : List T} (h : OwnG s e w base A c xs) : ∀ a, A = some a → ∃ cur, w.heap[a.block]? = some (.cells cur e (0, 0)) := by
  rintro a rfl
  rcases h.2 with ⟨hv, _⟩ | ⟨g, cap, cur, hv, _, hh, _⟩
  · cases hv
  · injection hv with hA
    injection hA with hA
    subst hA
    exact ⟨cur, hh⟩
theorem OwnG.owned {T : Type} {s : Shape T} {e : TypeId} {w w' : World} {base c : Nat} {A : Option Addr} {xs : List T} {row : Option Nat} (h : OwnG s e w base A c xs) (hg : w.grownBy w' row) (hr : ∀ r, row = some r → ∃ o : Obj, w.heap[r]? = some o ∧ o.isCells = false) : OwnG s e w' base A c xs :=
  h.blk (fun a ha => by obtain ⟨cur, hc⟩ := h.cellsAt a ha; exact (kc_grown hg hr hc).trans hc.symm)
theorem OwnG.keeps {T : Type} {s : Shape T} {e : TypeId} {W W' : World} {base c : Nat} {A : Option Addr} {xs : List T} (h : OwnG s e W base A c xs) (hg : W.grownBy W' (A.map (·.block))) : KeepsOthers W W' := by
  refine KeepsOthers.of_grownBy hg (fun j o ej ho => ?_)
  obtain ⟨a, ha, rfl⟩ := Option.map_eq_some_iff.1 ej
  obtain ⟨cur, hc⟩ := h.cellsAt a ha
  rw [hc] at ho
  injection ho with ho
  subst ho
  rfl
theorem Own8.block {w : World} {base c : Nat} {A : Option Addr} {xs : List Nat} (h : Own .u8 5 w base A c xs) : ∀ a, A = some a → ∃ cur, w.heap[a.block]? = some (.cells cur 5 (0, 0)) := by
  rintro a rfl
  rcases h.2 with ⟨hv, _⟩ | ⟨g, cap, cur, hv, _, hh, _⟩
  · cases hv
  · injection hv with hA
    injection hA with hA
    subst hA
    exact ⟨cur, hh⟩
theorem Own8.grown {w w' : World} {base c : Nat} {A : Option Addr} {xs : List Nat} {row : Option Nat} (h : Own .u8 5 w base A c xs) (hg : w.grownBy w' row) (hne : ∀ r, row = some r → ∀ cur fr, w.heap[r]? ≠ some (.cells cur 5 fr)) : Own .u8 5 w' base A c xs :=
  World.ownsRow.kept h hg (by
    cases A with
    | none => exact .inl rfl
    | some a =>
      obtain ⟨cur, hc⟩ := Own8.block h a rfl
      exact .inr (fun e => hne _ e.symm cur _ hc))
theorem Txts.grownN {w w' : World} {base : Nat} {ts : List Sl} {row : Option Nat} (h : Txts w base ts) (hg : w.grownBy w' row) (hne : ∀ r, row = some r → ∀ cur fr, w.heap[r]? ≠ some (.cells cur 5 fr)) : Txts w' base ts :=
  ⟨fun s hs => Own8.grown (h.own s hs) hg hne, h.apart⟩
theorem Txts.mono' {w : World} {base base' : Nat} {ts : List Sl} (h : Txts w base ts) (hb : base' ≤ base) : Txts w base' ts := ⟨fun s hs => (h.own s hs).mono hb, h.apart⟩

/-- What Range has read so far. -/
structure RS (w1 W : World) (B : Nat) (ts : List Sl) (vs : List Int) : Prop where
  lt : B + 3 ≤ w1.heap.size
  size : w1.heap.size ≤ W.heap.size
  sys : W.os = w1.os ∧ W.tape = w1.tape ∧ W.output = w1.output
  kb : ∀ q, q < w1.heap.size → q ≠ B + 1 → q ≠ B + 2 → W.heap[q]? = w1.heap[q]?
  ks : ∃ A c, W.heap[B + 1]? = some (.cells #[.slice A ts.length c] 49 (0, 0)) ∧ OwnT W w1.heap.size A c ts
  tx : Txts W w1.heap.size ts
  vs : ∃ A c, W.heap[B + 2]? = some (.cells #[.slice A vs.length c] 45 (0, 0)) ∧ OwnG shZ 3 W w1.heap.size A c vs

section
variable {w1 W W' : World} {B : Nat} {ts : List Sl} {vs : List Int}
theorem RS.turn (h : RS w1 W B ts vs) {row : Option Nat} (hg : W.grownBy W' row) (hr : ∀ r, row = some r → w1.heap.size ≤ r ∧ ∃ o : Obj, W.heap[r]? = some o ∧ o.isCells = false) : RS w1 W' B ts vs := by
  obtain ⟨Ak, ck, k1, k2⟩ := h.ks
  obtain ⟨Av, cv, v1, v2⟩ := h.vs
  have hc : ∀ r, row = some r → ∃ o : Obj, W.heap[r]? = some o ∧ o.isCells = false := fun r e => (hr r e).2
  refine ⟨h.lt, Nat.le_trans h.size hg.size, ⟨hg.os.trans h.sys.1, hg.tape.trans h.sys.2.1, hg.output.trans h.sys.2.2⟩, fun q q1 q2 q3 => ?_, ⟨Ak, ck, kc_grown hg hc k1, k2.owned hg hc⟩, h.tx.grownN hg (fun r e cur fr q => ?_), ⟨Av, cv, kc_grown hg hc v1, v2.owned hg hc⟩⟩
  · exact (hg.block q (Nat.lt_of_lt_of_le q1 h.size) (fun e => by have := (hr q e.symm).1; omega)).trans (h.kb q q1 q2 q3)
  · obtain ⟨o, ho, hoc⟩ := hc r e
    rw [q] at ho
    injection ho with ho
    subst ho
    exact absurd hoc (by simp [Obj.isCells])
theorem RS.ext (h : RS w1 W B ts vs) (he : Ext W W') : RS w1 W' B ts vs := h.turn (row := none) ⟨he.os, he.tape, he.output, he.size, fun i hi _ => he.block i hi⟩ (fun r e => by cases e)

theorem RS.pushK (h : RS w1 W B ts vs) {Ak : Option Addr} {ck : Nat} (hk : OwnT W w1.heap.size Ak ck ts) (hb : W.heap[B + 1]? = some (.cells #[.slice Ak ts.length ck] 49 (0, 0))) {s : Sl} {b2 : Nat} (hs : Own .u8 5 W b2 s.A s.c s.body) (hb2 : w1.heap.size ≤ b2) (hlt : ∀ t ∈ ts, ∀ p, t.A = some p → p.block < b2)
    {A' : Option Addr} {c' : Nat} (ho : OwnT W' w1.heap.size A' c' (ts ++ [s])) (hg : W.grownBy W' (Ak.map (·.block))) :
    RS w1 (W'.setCell ⟨B + 1, 0, none⟩ (.slice A' (ts.length + 1) c')) B (ts ++ [s]) vs ∧ KeepsOthers W (W'.setCell ⟨B + 1, 0, none⟩ (.slice A' (ts.length + 1) c')) ∧ W'.heap[B + 1]? = some (.cells #[.slice Ak ts.length ck] 49 (0, 0)) := by
  have hlt0 := h.lt
  have hsz := h.size
  have hA : ∀ r, (Ak.map (·.block)) = some r → w1.heap.size ≤ r ∧ ∃ cur, W.heap[r]? = some (.cells cur 52 (0, 0)) := fun r e => by
    obtain ⟨a, ha, rfl⟩ := Option.map_eq_some_iff.1 e
    exact ⟨(hk.block a ha).1, hk.cellsAt a ha⟩
  have hA2 : ∀ a, A' = some a → w1.heap.size ≤ a.block := fun a ha => (ho.block a ha).1
  have hq : ∀ q, q < w1.heap.size → W'.heap[q]? = W.heap[q]? := fun q q1 => hg.block q (by omega) (fun e => by have := (hA q e.symm).1; omega)
  have hb' := (hq (B + 1) (by omega)).trans hb
  have hset : ∀ q, q ≠ B + 1 → q < W'.heap.size → (W'.setCell ⟨B + 1, 0, none⟩ (.slice A' (ts.length + 1) c')).heap[q]? = W'.heap[q]? := fun q q1 q2 => Below.heap_setCell W' _ _ q (by simpa using q1)
  have hgs := grown_setCellS W' (B + 1) 0 (.slice A' (ts.length + 1) c')
  obtain ⟨Av, cv, v1, v2⟩ := h.vs
  have hne8 : ∀ r, (Ak.map (·.block)) = some r → ∀ cur fr, W.heap[r]? ≠ some (.cells cur 5 fr) := fun r e cur fr q => by
    obtain ⟨cur2, hc⟩ := (hA r e).2
    rw [hc] at q
    injection q with q
    injection q with _ q
    exact absurd q (by decide)
  have hne82 : ∀ r, some (B + 1) = some r → ∀ cur fr, W'.heap[r]? ≠ some (.cells cur 5 fr) := fun r e cur fr q => by
    injection e with e
    subst e
    rw [hb'] at q
    injection q with q
    injection q with _ q
    exact absurd q (by decide)
  refine ⟨⟨h.lt, ?_, ⟨(hgs.os.trans hg.os).trans h.sys.1, (hgs.tape.trans hg.tape).trans h.sys.2.1, (hgs.output.trans hg.output).trans h.sys.2.2⟩, fun q q1 q2 q3 => ?_, ⟨A', c', ?_, ho.grown hgs (fun a ha e => by have := hA2 a ha; injection e with e; omega)⟩, ?_, ⟨Av, cv, ?_, (v2.blk (fun a ha => ?_))⟩⟩, (hk.keeps hg).trans (KeepsOthers.setCell _ _ _), hb'⟩
  · exact Nat.le_trans hsz (Nat.le_trans hg.size hgs.size)
  · exact (hset q q2 (by have := hg.size; omega)).trans ((hq q q1).trans (h.kb q q1 q2 q3))
  · rw [List.length_append, List.length_singleton]
    exact heap_setCell_same W' (B + 1) 0 _ _ _ hb'
  · exact ((h.tx.snoc (hs.mono (Nat.le_refl _)) hb2 hlt).grownN hg hne8).grownN hgs hne82
  · exact (hset (B + 2) (by omega) (by have := hg.size; omega)).trans ((hq (B + 2) (by omega)).trans v1)
  · have h1 := (v2.block a ha)
    obtain ⟨cur, hcv⟩ := v2.cellsAt a ha
    refine (hset a.block (by omega) (by have := hg.size; omega)).trans (hg.block _ h1.2 (fun e => ?_))
    obtain ⟨cur2, hc⟩ := (hA _ e.symm).2
    rw [hcv] at hc
    injection hc with hc
    injection hc with _ hc
    exact absurd hc (by decide)

theorem RS.pushV (h : RS w1 W B ts vs) {Av : Option Addr} {cv : Nat} (hv : OwnG shZ 3 W w1.heap.size Av cv vs) (hb : W.heap[B + 2]? = some (.cells #[.slice Av vs.length cv] 45 (0, 0))) {x : Int}
    {A' : Option Addr} {c' : Nat} (ho : OwnG shZ 3 W' w1.heap.size A' c' (vs ++ [x])) (hg : W.grownBy W' (Av.map (·.block))) :
    RS w1 (W'.setCell ⟨B + 2, 0, none⟩ (.slice A' (vs.length + 1) c')) B ts (vs ++ [x]) ∧ KeepsOthers W (W'.setCell ⟨B + 2, 0, none⟩ (.slice A' (vs.length + 1) c')) ∧ W'.heap[B + 2]? = some (.cells #[.slice Av vs.length cv] 45 (0, 0)) := by
  have hlt0 := h.lt
  have hsz := h.size
  have hA : ∀ r, (Av.map (·.block)) = some r → w1.heap.size ≤ r ∧ ∃ cur, W.heap[r]? = some (.cells cur 3 (0, 0)) := fun r e => by
    obtain ⟨a, ha, rfl⟩ := Option.map_eq_some_iff.1 e
    exact ⟨(hv.block a ha).1, hv.cellsAt a ha⟩
  have hA2 : ∀ a, A' = some a → w1.heap.size ≤ a.block := fun a ha => (ho.block a ha).1
  have hq : ∀ q, q < w1.heap.size → W'.heap[q]? = W.heap[q]? := fun q q1 => hg.block q (by omega) (fun e => by have := (hA q e.symm).1; omega)
  have hb' := (hq (B + 2) (by omega)).trans hb
  have hset : ∀ q, q ≠ B + 2 → q < W'.heap.size → (W'.setCell ⟨B + 2, 0, none⟩ (.slice A' (vs.length + 1) c')).heap[q]? = W'.heap[q]? := fun q q1 q2 => Below.heap_setCell W' _ _ q (by simpa using q1)
  have hgs := grown_setCellS W' (B + 2) 0 (.slice A' (vs.length + 1) c')
  obtain ⟨Ak, ck, k1, k2⟩ := h.ks
  have hne8 : ∀ r, (Av.map (·.block)) = some r → ∀ cur fr, W.heap[r]? ≠ some (.cells cur 5 fr) := fun r e cur fr q => by
    obtain ⟨cur2, hc⟩ := (hA r e).2
    rw [hc] at q
    injection q with q
    injection q with _ q
    exact absurd q (by decide)
  have hne82 : ∀ r, some (B + 2) = some r → ∀ cur fr, W'.heap[r]? ≠ some (.cells cur 5 fr) := fun r e cur fr q => by
    injection e with e
    subst e
    rw [hb'] at q
    injection q with q
    injection q with _ q
    exact absurd q (by decide)
  refine ⟨⟨h.lt, ?_, ⟨(hgs.os.trans hg.os).trans h.sys.1, (hgs.tape.trans hg.tape).trans h.sys.2.1, (hgs.output.trans hg.output).trans h.sys.2.2⟩, fun q q1 q2 q3 => ?_, ⟨Ak, ck, ?_, (k2.blk (fun a ha => ?_))⟩, ?_, ⟨A', c', ?_, ho.grown hgs (fun a ha e => by have := hA2 a ha; injection e with e; omega)⟩⟩, (hv.keeps hg).trans (KeepsOthers.setCell _ _ _), hb'⟩
  · exact Nat.le_trans hsz (Nat.le_trans hg.size hgs.size)
  · exact (hset q q3 (by have := hg.size; omega)).trans ((hq q q1).trans (h.kb q q1 q2 q3))
  · exact (hset (B + 1) (by omega) (by have := hg.size; omega)).trans ((hq (B + 1) (by omega)).trans k1)
  · have h1 := (k2.block a ha)
    obtain ⟨cur, hcv⟩ := k2.cellsAt a ha
    refine (hset a.block (by omega) (by have := hg.size; omega)).trans (hg.block _ h1.2 (fun e => ?_))
    obtain ⟨cur2, hc⟩ := (hA _ e.symm).2
    rw [hcv] at hc
    injection hc with hc
    injection hc with _ hc
    exact absurd hc (by decide)
  · exact (h.tx.grownN hg hne8).grownN hgs hne82
  · rw [List.length_append, List.length_singleton]
    exact heap_setCell_same W' (B + 2) 0 _ _ _ hb'
end

def EachPost (sb m : Nat) (t : List Nat) (w : World) (e : Ending) (w' : World) : Prop :=
  ∃ Bl Bw A' c', e = .returned (.func (.func 83) #[] #[.pointer (some ⟨Bl, 0, none⟩), .pointer (some ⟨Bw, 0, none⟩)]) ∧ Ext w w' ∧ w.heap.size ≤ Bl ∧ w.heap.size ≤ Bw ∧ Bl < w'.heap.size ∧ Bw < w'.heap.size ∧
    w'.cell? ⟨Bl, 0, none⟩ = some (.pointer (some ⟨sb, 0, none⟩)) ∧ w'.cell? ⟨Bw, 0, none⟩ = some (.slice A' m c') ∧ Rd .u8 w' A' m t

theorem seach_any (sb : Nat) (A : Option Addr) (m c : Nat) (t : List Nat) (w : World) (ht : Rd .u8 w A m t) (hm : m ≤ 180000000000000) :
    Calls Try.prog 46 #[.pointer (some ⟨sb, 0, none⟩), .slice A m c] w (EachPost sb m t w) := by
  have CC := Lib.hid (fun W (hW : Ext w W) => clone_any A m c t W (ht.ext hW) hm)
  have hmf : ∀ (fn : Fn) (first cap : Array Value) (w : World), (Instr.makeFunc fn first cap).run Try.prog w = .ok (.func fn first cap) w := fun _ _ _ _ => rfl
  have hE : Ext w ((w.alloc (.cells #[.pointer (some ⟨sb, 0, none⟩)] 47)).alloc (.cells #[.slice A m c] 52)) := ((Ext.refl w).alloc _).alloc _
  have hb0 : ((w.alloc (.cells #[.pointer (some ⟨sb, 0, none⟩)] 47)).alloc (.cells #[.slice A m c] 52)).heap[w.heap.size]? = some (.cells #[.pointer (some ⟨sb, 0, none⟩)] 47 (0, 0)) := (Below.heap_alloc _ _ _ (by simp)).trans (heap_alloc_new w _)
  have hb1 := heap_alloc_new (w.alloc (.cells #[.pointer (some ⟨sb, 0, none⟩)] 47)) (.cells #[.slice A m c] 52)
  rw [World.size_alloc] at hb1
  have C1 := Lib.hid (CC.out _ hE)
  have Hml := Lib.hid ht.len
  have HB0 := Lib.hid hb0
  have HB1 := Lib.hid hb1
  have HE := Lib.hid hE
  clear ht hE hb0 hb1
  go_enter Try.func46, Try.ntmps46
  go_wp2_with fail
  refine C1.out.mono ?_
  rintro e w2 ⟨A2, c2, rfl, ho, he⟩
  have hq0 := (he.block w.heap.size (by simp <;> omega)).trans HB0.out
  have hq1 := (he.block (w.heap.size + 1) (by simp)).trans HB1.out
  have c1 := cell_of_row w2 (w.heap.size + 1) 0 _ _ (0, 0) hq1
  have f1 : w2.frozen? ⟨w.heap.size + 1, 0, none⟩ = false := by simp [World.frozen?, hq1]
  have s1 := heap_setCell_same w2 (w.heap.size + 1) 0 _ _ (.slice A2 m c2) hq1
  have s0 := (Below.heap_setCell w2 ⟨w.heap.size + 1, 0, none⟩ (.slice A2 m c2) w.heap.size (by simp)).trans hq0
  have r0 := cell_of_row _ w.heap.size 0 _ _ (0, 0) s0
  have r1 := cell_of_row _ (w.heap.size + 1) 0 _ _ (0, 0) s1
  have hE8 : Ext w (w2.setCell ⟨w.heap.size + 1, 0, none⟩ (.slice A2 m c2)) := Ext.setCell (HE.out.trans he) (by simp) _
  have hrd : Rd .u8 (w2.setCell ⟨w.heap.size + 1, 0, none⟩ (.slice A2 m c2)) A2 m t := by
    have := (Own8.grown ho (grown_setCellS w2 (w.heap.size + 1) 0 (.slice A2 m c2)) (fun r e cur fr q => by
    injection e with e
    subst e
    rw [hq1] at q
    injection q with q
    injection q with _ q
    exact absurd q (by decide))).rd
    rwa [Hml.out] at this
  have hl0 := (Array.getElem?_eq_some_iff.1 s0).1
  have hl1 := (Array.getElem?_eq_some_iff.1 s1).1
  have HZ : Hid (EachPost sb m t w (.returned (.func (.func 83) #[] #[.pointer (some ⟨w.heap.size, 0, none⟩), .pointer (some ⟨w.heap.size + 1, 0, none⟩)])) (w2.setCell ⟨w.heap.size + 1, 0, none⟩ (.slice A2 m c2))) :=
    Lib.hid ⟨_, _, A2, c2, rfl, hE8, Nat.le_refl _, Nat.le_succ _, hl0, hl1, by rw [r0]; rfl, by rw [r1]; rfl, hrd⟩
  clear hq0 hq1 s1 s0 r0 r1 hE8 hrd hl0 hl1 ho he
  go_wp2_with fail
  go_ret
  exact HZ.out

end Go.Proofs.Ytkmnhapeohlooaa

/-
  Layer 18: Range.
-/
namespace Go.Proofs.Ytkmnhapeohlooaa
open Go.RowKit
set_option maxRecDepth 100000

def stopB (hi k : List Nat) : Bool := decide (0 < hi.length) && decide (0 ≤ ordT k hi)
def rngK (L : List (List Nat)) (lo hi : List Nat) : List (List Nat) := (L.drop (skN lo L)).takeWhile fun k => !stopB hi k
def rngV (L : List (List Nat)) (V : List Int) (lo hi : List Nat) : List Int := (V.drop (skN lo L)).take (rngK L lo hi).length

section
variable {ns : List Nd} {L : List (List Nat)} {V : List Int}
theorem fromC_at {s : Nat} {ys : List (It ns L V)} (h : FromC s ys) {k : Nat} {x : It ns L V} (hx : ys[k]? = some x) : x.p = s + k := by
  have h1 : (ys.map It.p)[k]? = some x.p := by rw [List.getElem?_map, hx]; rfl
  have hk := (List.getElem?_eq_some_iff.1 hx).1
  rw [h, List.getElem?_range' hk] at h1
  injection h1 with h1
  omega
theorem fromC_keys {s : Nat} {ys : List (It ns L V)} (h : FromC s ys) : ys.map (fun x => kb ns x.i) = (L.drop s).take ys.length ∧ ys.map (fun x => vl ns x.i) = (V.drop s).take ys.length := by
  constructor
  · apply List.ext_getElem?
    intro k
    rw [List.getElem?_map, List.getElem?_take, List.getElem?_drop]
    cases hx : ys[k]? with
    | none => rw [if_neg (by have := List.getElem?_eq_none_iff.1 hx; omega)]; rfl
    | some x => rw [if_pos (List.getElem?_eq_some_iff.1 hx).1, ← fromC_at h hx, x.hL]; rfl
  · apply List.ext_getElem?
    intro k
    rw [List.getElem?_map, List.getElem?_take, List.getElem?_drop]
    cases hx : ys[k]? with
    | none => rw [if_neg (by have := List.getElem?_eq_none_iff.1 hx; omega)]; rfl
    | some x => rw [if_pos (List.getElem?_eq_some_iff.1 hx).1, ← fromC_at h hx, x.hV]; rfl
theorem tw_all {α : Type} {p : α → Bool} {l : List α} (h : ∀ x ∈ l, p x = true) : l.takeWhile p = l := by
  have := List.takeWhile_append_of_pos (l₂ := []) h
  simpa using this
theorem tw_stop {α : Type} {p : α → Bool} {a r : List α} {x : α} (h : ∀ y ∈ a, p y = true) (hx : p x = false) : (a ++ x :: r).takeWhile p = a := by
  rw [List.takeWhile_append_of_pos h, List.takeWhile_cons, if_neg (by rw [hx]; decide), List.append_nil]
theorem rng_done {lo hi : List Nat} {ys : List (It ns L V)} (h : FromC (skN lo L) ys) (he : skN lo L + ys.length = L.length) (hn : ∀ x ∈ ys, stopB hi (kb ns x.i) = false) : rngK L lo hi = ys.map (fun x => kb ns x.i) ∧ rngV L V lo hi = ys.map (fun x => vl ns x.i) := by
  obtain ⟨h1, h2⟩ := fromC_keys h
  have hd : (L.drop (skN lo L)).take ys.length = L.drop (skN lo L) := List.take_of_length_le (by rw [List.length_drop]; omega)
  have hk : rngK L lo hi = ys.map (fun x => kb ns x.i) := by
    unfold rngK
    rw [h1, hd]
    refine tw_all (fun k hk => ?_)
    rw [← hd, ← h1] at hk
    obtain ⟨x, hx, rfl⟩ := List.mem_map.1 hk
    rw [hn x hx]; rfl
  refine ⟨hk, ?_⟩
  unfold rngV
  rw [hk, List.length_map, h2]
theorem rng_stop {lo hi : List Nat} {q : List (It ns L V)} {x : It ns L V} (h : FromC (skN lo L) (q ++ [x])) (hn : ∀ y ∈ q, stopB hi (kb ns y.i) = false) (hx : stopB hi (kb ns x.i) = true) : rngK L lo hi = q.map (fun x => kb ns x.i) ∧ rngV L V lo hi = q.map (fun x => vl ns x.i) := by
  obtain ⟨h1, h2⟩ := fromC_keys h
  rw [List.length_append, List.length_singleton] at h1 h2
  have hk : rngK L lo hi = q.map (fun x => kb ns x.i) := by
    unfold rngK
    rw [← List.take_append_drop (q.length + 1) (L.drop (skN lo L)), ← h1, List.map_append, List.map_singleton, List.append_assoc]
    refine tw_stop (fun k hk => ?_) (by rw [hx]; rfl)
    obtain ⟨y, hy, rfl⟩ := List.mem_map.1 hk
    rw [hn y hy]; rfl
  refine ⟨hk, ?_⟩
  unfold rngV
  rw [hk, List.length_map]
  have h3 := congrArg (List.take q.length) h2
  rw [List.take_take, Nat.min_eq_left (Nat.le_succ _), List.map_append, List.take_append_of_le_length (by rw [List.length_map]; exact Nat.le_refl _), List.take_of_length_le (by rw [List.length_map]; exact Nat.le_refl _)] at h3
  exact h3.symm
end

def RngPost (L : List (List Nat)) (V : List Int) (lo hi : List Nat) (w : World) (e : Ending) (w' : World) : Prop :=
  ∃ A' c' ts Av cv, e = .returned (.tuple #[.slice A' ts.length c', .slice Av (rngV L V lo hi).length cv]) ∧ bodies ts = rngK L lo hi ∧ OwnT w' w.heap.size A' c' ts ∧ Txts w' w.heap.size ts ∧ OwnG shZ 3 w' w.heap.size Av cv (rngV L V lo hi) ∧ Ext w w'

def RI (w1 : World) (B : Nat) (hi : List Nat) {ns : List Nd} {L : List (List Nat)} {V : List Int} (pre : List (It ns L V)) (W : World) : Prop :=
  ∃ ts, RS w1 W B ts (pre.map fun x => vl ns x.i) ∧ bodies ts = (pre.map fun x => kb ns x.i) ∧ ∀ x ∈ pre, stopB hi (kb ns x.i) = false
def RX (w1 : World) (B : Nat) (hi : List Nat) {ns : List Nd} {L : List (List Nat)} {V : List Int} (c : Code) (pre : List (It ns L V)) (W : World) : Prop :=
  c = .exit 0 ∧ ∃ q x, pre = q ++ [x] ∧ stopB hi (kb ns x.i) = true ∧ RI w1 B hi q W

theorem gk {w w' : World} {A A' : Option Addr} (h : A' = A ∧ w.grownBy w' (A.map (·.block)) ∨ Ext w w' ∧ ∀ q, A' = some q → w.heap.size ≤ q.block) : w.grownBy w' (A.map (·.block)) := by
  rcases h with ⟨_, h⟩ | ⟨h, _⟩
  · exact h
  · exact ⟨h.os, h.tape, h.output, h.size, fun i hi _ => h.block i hi⟩
theorem run_mark {W : World} {q : Nat} : (W.drewN q).heap = W.heap := rfl

/-- How Range ends. -/
theorem rng_end {L : List (List Nat)} {V : List Int} {lo hi : List Nat} {w w1 W : World} {ts : List Sl} {Ak : Option Addr} {ck : Nat} {Av : Option Addr} {cv : Nat} {vs : List Int} (hE : Ext w w1) (h : RS w1 W w.heap.size ts vs) (hb : bodies ts = rngK L lo hi) (hv : vs = rngV L V lo hi) (hk : OwnT W w1.heap.size Ak ck ts) (hvo : OwnG shZ 3 W w1.heap.size Av cv vs) :
    RngPost L V lo hi w (.returned (.tuple #[.slice Ak ts.length ck, .slice Av vs.length cv])) W := by
  subst hv
  have hl := h.lt
  exact ⟨Ak, ck, ts, Av, cv, rfl, hb, hk.mono (by omega), h.tx.mono' (by omega), hvo.mono (by omega), ⟨h.sys.1.trans hE.os, h.sys.2.1.trans hE.tape, h.sys.2.2.trans hE.output, Nat.le_trans hE.size h.size, fun q hq => (h.kb q (by omega) (by omega) (by omega)).trans (hE.block q hq)⟩⟩

set_option maxHeartbeats 6400000 in
theorem srange_in {w : World} {X : Nat → Prop} {base sb H : Nat} {ns : List Nd} {hs : List Int} {L : List (List Nat)} {V : List Int} (hS : SL w X base sb ns hs H) (hR : Rep ns.length (kb ns) (vl ns) L V) (hb : L.length < 1099511627776) (A : Option Addr) (m c : Nat) (lo : List Nat) (ht : Rd .u8 w A m lo) (hu : U8 lo) (hm : m ≤ 140737488355328)
    (Ah : Option Addr) (mh ch : Nat) (hi : List Nat) (hth : Rd .u8 w Ah mh hi) (huh : U8 hi) :
    CallsIn Fence.wide 5 Try.prog 37 #[.pointer (some ⟨sb, 0, none⟩), .slice A m c, .slice Ah mh ch] w (RngPost L V lo hi w) := by
  have hnl := hR.len
  have hbl := hS.base_le
  have hmh := hth.len
  have hEa : Ext w (((w.alloc (.cells #[.slice Ah mh ch] 52)).alloc (.cells #[.slice none 0 0] 49)).alloc (.cells #[.slice none 0 0] 45)) := (((Ext.refl w).alloc _).alloc _).alloc _
  have CE := Lib.hid (seach_any sb A m c lo _ (ht.ext hEa) (by omega))
  have hx0 : (((w.alloc (.cells #[.slice Ah mh ch] 52)).alloc (.cells #[.slice none 0 0] 49)).alloc (.cells #[.slice none 0 0] 45)).heap[w.heap.size]? = some (.cells #[.slice Ah mh ch] 52 (0, 0)) :=
    (Below.heap_alloc _ _ _ (by simp <;> omega)).trans ((Below.heap_alloc _ _ _ (by simp)).trans (heap_alloc_new w _))
  have hx1 : (((w.alloc (.cells #[.slice Ah mh ch] 52)).alloc (.cells #[.slice none 0 0] 49)).alloc (.cells #[.slice none 0 0] 45)).heap[w.heap.size + 1]? = some (.cells #[.slice none 0 0] 49 (0, 0)) := by
    have := heap_alloc_new (w.alloc (.cells #[.slice Ah mh ch] 52)) (.cells #[.slice none 0 0] 49)
    rw [World.size_alloc] at this
    exact (Below.heap_alloc _ _ _ (by simp)).trans this
  have hx2 : (((w.alloc (.cells #[.slice Ah mh ch] 52)).alloc (.cells #[.slice none 0 0] 49)).alloc (.cells #[.slice none 0 0] 45)).heap[w.heap.size + 2]? = some (.cells #[.slice none 0 0] 45 (0, 0)) := by
    have := heap_alloc_new ((w.alloc (.cells #[.slice Ah mh ch] 52)).alloc (.cells #[.slice none 0 0] 49)) (.cells #[.slice none 0 0] 45)
    rw [World.size_alloc, World.size_alloc] at this
    exact this
  have HX0 := Lib.hid hx0
  have HX1 := Lib.hid hx1
  have HX2 := Lib.hid hx2
  have HEa := Lib.hid hEa
  have HS := Lib.hid hS
  have HR := Lib.hid hR
  have Hth := Lib.hid hth
  obtain ⟨B, hB⟩ : ∃ B, B = w.heap.size := ⟨_, rfl⟩
  have HB := Lib.hid hB
  have hza : (((w.alloc (.cells #[.slice Ah mh ch] 52)).alloc (.cells #[.slice none 0 0] 49)).alloc (.cells #[.slice none 0 0] 45)).heap.size = w.heap.size + 3 := by simp
  have Hza := Lib.hid hza
  clear ht hS hR hth hEa hx0 hx1 hx2 hza hB
  refine callsIn_of_wp_marks Try.func37 rfl trivial ?_ rfl
  simp only [Try.ntmps37, List.size_toArray, List.length_cons, List.length_nil, Nat.reduceAdd, Nat.reduceSub, Array.replicate_succ, Array.replicate_zero, List.push_toArray, List.append_toArray, List.nil_append, List.cons_append]
  gi_wp2_with (refine ⟨trivial, ?_⟩; gi_at_call 46; refine (callsIn_wide.2 CE.out).mono ?_; rintro e w1 ⟨Bl, Bw, Ac, cc, rfl, he1, l1, l2, m1, m2, b1, b2, hrd1⟩)
  have hz1 : w.heap.size + 3 ≤ w1.heap.size := by rw [← Hza.out]; exact he1.size
  have hl1 : w.heap.size + 3 ≤ Bl := by rw [← Hza.out]; exact l1
  have hE1 : Ext w w1 := HEa.out.trans he1
  have q0 := (he1.block w.heap.size (by rw [Hza.out]; omega)).trans HX0.out
  have q1 := (he1.block (w.heap.size + 1) (by rw [Hza.out]; omega)).trans HX1.out
  have q2 := (he1.block (w.heap.size + 2) (by rw [Hza.out]; omega)).trans HX2.out
  rw [← HB.out] at hz1 hl1 q0 q1 q2
  have hS1 := HS.out.ext hE1
  have HYb : Hid (∀ q, (X q ∨ q = Bl) → q < w1.heap.size ∧ q ≠ B + 1 ∧ q ≠ B + 2) := Lib.hid fun q hq => by
    rcases hq with hq | rfl
    · have := (HS.out.bd q hq).2
      have hB := HB.out
      omega
    · omega
  have hrs0 : RS w1 w1 B [] [] := ⟨hz1, Nat.le_refl _, ⟨rfl, rfl, rfl⟩, fun _ _ _ _ => rfl, ⟨none, 0, q1, OwnG.nil _ _ _ _⟩, Txts.nil _ _, ⟨none, 0, q2, OwnG.nil _ _ _ _⟩⟩
  have Hq0 := Lib.hid q0
  have HE1 := Lib.hid hE1
  have HS1 := Lib.hid hS1
  rw [show w.heap.size = B from HB.out.symm]
  refine wpIn_rangeFunc_ownG rfl (by decide) (gf := 83) (lb := #[.pointer (some ⟨Bl, 0, none⟩), .pointer (some ⟨Bw, 0, none⟩)]) rfl trivial (enters_of Try.func83 (by kernel_rfl) rfl)
    (seqK_any Bl Bw X base sb H ns hs L V HR.out (by omega) Ac m cc lo hu w1 hS1 m1 m2 b1 b2 hrd1) keepY_t (keepY_b (fun q hq => (HYb.out q hq).1)) (Below.refl _ _) (fun _ => rfl)
    (RI w1 B hi) (RX w1 B hi)
    (fun s A B row hs hg hr => by
      obtain ⟨ts, h1, h2, h3⟩ := hs
      exact ⟨ts, h1.turn hg hr, h2, h3⟩)
    (fun c s A B row hs hg hr => by
      obtain ⟨h0, q, x, h1, h2, ts, h3, h4, h5⟩ := hs
      exact ⟨h0, q, x, h1, h2, ts, h3.turn hg hr, h4, h5⟩)
    ⟨[], hrs0, rfl, fun x hx => (by cases hx)⟩
    (fun x => { tmps := #[.pointer (some ⟨sb, 0, none⟩), .slice A m c, .slice Ah mh ch, undef, undef, .pointer (some ⟨B, 0, none⟩), .slice none 0 0, .slice none 0 0, .pointer (some ⟨B + 1, 0, none⟩), .pointer (some ⟨B + 1 + 1, 0, none⟩), (nat_ ns x.i).key.v, .int .i64 (vl ns x.i), .pointer (some ⟨sb, 0, none⟩), .slice A m c, .func (.func 83) #[] #[.pointer (some ⟨Bl, 0, none⟩), .pointer (some ⟨Bw, 0, none⟩)], (nat_ ns x.i).key.v, .int .i64 (vl ns x.i), undef, undef, undef, undef, undef, undef, undef, undef, undef, undef, undef, undef, undef, undef, undef, undef, undef, undef, undef, undef], defers := [] }) ?assign ?body ?done ?stop
  case assign =>
    intro l x W K hK
    gi_wp2_with (rw [Oper.semAt_eq _ _ _ (fun c h => by cases h)]; go_simp; try go_bits)
    exact hK
  case body =>
    rintro l pre x W ⟨ts, hRS, hbd, hns⟩ hpl
    have hSW := HS1.out.kept (fun q hq => by have h1 := HYb.out q (.inl hq); exact hRS.kb q h1.1 h1.2.1 h1.2.2) hRS.size
    have hka := hSW.keys x.i (by have := x.i0; omega) x.lt
    have hBw := HB.out
    have hEW : Ext w W := ⟨hRS.sys.1.trans HE1.out.os, hRS.sys.2.1.trans HE1.out.tape, hRS.sys.2.2.trans HE1.out.output, Nat.le_trans HE1.out.size hRS.size, fun q hq => (hRS.kb q (by omega) (by have := HB.out; omega) (by have := HB.out; omega)).trans (HE1.out.block q hq)⟩
    have qW := (hRS.kb B (by omega) (by omega) (by omega)).trans Hq0.out
    have b5 := cell_of_row W B 0 _ _ (0, 0) qW
    have Hrk := Lib.hid hka.rd
    have CCmp := Lib.hid (compareT_any (nat_ ns x.i).key.A Ah (nat_ ns x.i).key.body.length (nat_ ns x.i).key.c mh ch (nat_ ns x.i).key.body hi W hka.rd (Hth.out.ext hEW) hka.u8 huh)
    have hkl := hka.len
    have Hkb : Hid ((nat_ ns x.i).key.body = kb ns x.i) := Lib.hid rfl
    have hlen : ts.length = pre.length := by have := congrArg List.length hbd; simpa [bodies] using this
    have Htl := Lib.hid hlen
    obtain ⟨key, hkey⟩ : ∃ key, key = (nat_ ns x.i).key.body := ⟨_, rfl⟩
    obtain ⟨xv, hxv⟩ : ∃ xv, xv = vl ns x.i := ⟨_, rfl⟩
    unfold Sl.v
    rw [← hkey] at Hrk CCmp hkl Hkb ⊢
    rw [← hxv]
    obtain ⟨kA, hkA⟩ : ∃ kA, kA = (nat_ ns x.i).key.A := ⟨_, rfl⟩
    obtain ⟨kn, hkn⟩ : ∃ kn, kn = key.length := ⟨_, rfl⟩
    obtain ⟨kc, hkc⟩ : ∃ kc, kc = (nat_ ns x.i).key.c := ⟨_, rfl⟩
    rw [← hkA, ← hkn, ← hkc] at CCmp ⊢
    rw [← hkA, ← hkn] at Hrk
    rw [← hkn] at hkl
    have Hrl := Lib.hid hkn.symm
    obtain ⟨O, hOO⟩ : ∃ O, O = ordT key hi := ⟨_, rfl⟩
    rw [← hOO] at CCmp
    have HOO := Lib.hid hOO
    have Hhl := Lib.hid hmh
    have HRS := Lib.hid hRS
    have Hbd := Lib.hid hbd
    have Hns := Lib.hid hns
    have Hxv := Lib.hid hxv
    clear hBw hRS hbd hns hSW hka hEW qW hkey hxv hkA hkn hkc hOO hlen hS1 q0 q1 q2 b1 b2 hrd1 hrs0 he1 l1 l2 hE1
    by_cases h0 : mh = 0
    · have Hst : Hid (stopB hi key = false) := Lib.hid (by unfold stopB; rw [Hhl.out, h0]; rfl)
      have hmI : ¬ (0 : Int) < (mh : Int) := by omega
      gi_wp2_with (first | (rw [Oper.semAt_eq _ _ _ (fun c h => by cases h)]; go_simp; try go_bits) | (refine ⟨trivial, ?_⟩))
      obtain ⟨Ak, ck, hkb, hko⟩ := HRS.out.ks
      have k1 := cell_of_row W (B + 1) 0 _ _ (0, 0) hkb
      obtain ⟨n, hn⟩ : ∃ n, n = ts.length := ⟨_, rfl⟩
      rw [← hn] at hkb k1
      have hn2 : n ≤ 1099511627776 := by rw [hn, Htl.out]; exact Nat.le_of_lt (Nat.lt_trans hpl hb)
      have Hn := Lib.hid hn
      clear hn
      have k1d : W.drew.cell? ⟨B + 1, 0, none⟩ = some (.slice Ak n ck) := k1
      have CC := Lib.hid (clone_any kA kn kc key W.drew (Hrk.out.ext (Ext.refl W).drew) (by omega))
      refine wpIn_region_round (by kernel_rfl) (by kernel_rfl) (wpAny_of_T (S := fun W9 => W9.cell? ⟨B + 1, 0, none⟩ = some (.slice Ak n ck)) (late := fun j => j == 5) _ _ _ _ ?_)
      refine wpAnyT_take (i := 0) (v := ?_) rfl (by kernel_rfl) (by kernel_rfl) (by kernel_rfl) (by kernel_rfl) (fun _ _ _ h => h) (Or.inl ⟨by rfl, ?_⟩) (by exact k1d) ?_
      rotate_left
      · (intro w hSw; (try dsimp only at hSw); go_simp; (try with_reducible rfl))
      (try (simp only [Act.put, List.getElem_toArray, List.getElem_cons_zero, List.setIfInBounds_toArray, List.set_cons_zero, List.set_cons_succ]))
      refine wpAnyT_take (i := 1) (v := ?_) rfl (by kernel_rfl) (by kernel_rfl) (by kernel_rfl) (by kernel_rfl) (fun _ _ _ h => h) (Or.inl ⟨by rfl, ?_⟩) (by exact k1d) ?_
      rotate_left
      · (intro w hSw; (try dsimp only at hSw); go_simp; (try with_reducible rfl))
      (try (simp only [Act.put, List.getElem_toArray, List.getElem_cons_zero, List.getElem_cons_succ, List.setIfInBounds_toArray, List.set_cons_zero, List.set_cons_succ]))
      refine wpAnyT_step (i := 2) (by kernel_rfl) rfl rfl ?_
      go_simp
      refine CC.out.mono ?_
      rintro e W2 ⟨A2, c2, rfl, ho2, he2⟩
      have hE2 : Ext W W2 := (Ext.refl W).drew.trans he2
      have k12 : W2.heap[B + 1]? = some (.cells #[.slice Ak n ck] 49 (0, 0)) := (hE2.block _ (Array.getElem?_eq_some_iff.1 hkb).1).trans hkb
      (try dsimp only)
      refine ⟨by first | exact fun _ => (cell_of_row W2 (B + 1) 0 _ _ (0, 0) k12).trans rfl | exact (cell_of_row W2 (B + 1) 0 _ _ (0, 0) k12).trans rfl, ?_⟩
      (try (simp only [Act.put, List.getElem_toArray, List.getElem_cons_zero, List.getElem_cons_succ, List.setIfInBounds_toArray, List.set_cons_zero, List.set_cons_succ]))
      refine wpAnyT_step (i := 3) (by kernel_rfl) rfl rfl ?_
      go_simp
      have hE3 : Ext W (W2.alloc (.cells #[.slice A2 kn c2] 52)) := hE2.alloc _
      have k13 := (Below.heap_alloc W2 (.cells #[.slice A2 kn c2] 52) (B + 1) (Array.getElem?_eq_some_iff.1 k12).1).trans k12
      have hRS3 := HRS.out.ext hE3
      have hko3 := hko.ext hE3
      refine ⟨by first | exact fun _ => (cell_of_row _ (B + 1) 0 _ _ (0, 0) k13).trans rfl | exact (cell_of_row _ (B + 1) 0 _ _ (0, 0) k13).trans rfl, ?_⟩
      (try (simp only [Act.put, List.getElem_toArray, List.getElem_cons_zero, List.getElem_cons_succ, List.setIfInBounds_toArray, List.set_cons_zero, List.set_cons_succ]))
      refine wpAnyT_step (i := 4) (by kernel_rfl) rfl rfl ?_
      refine wp_pushK shS ⟨A2, c2, key⟩ 52 _ _ 49 rfl _ 24 Try.underlying49 Try.infoS rfl hko3 n Hn.out.symm rfl rfl (by rw [← Hrl.out]; exact heap_alloc_new _ _) (by omega) (by decide) hRS3.size ?_
      intro A5 c5 W5 ho5 hg5 _
      have hg5 := gk hg5
      have hts : ∀ s ∈ ts, ∀ p, s.A = some p → p.block < W.heap.size := HRS.out.tx.lt
      obtain ⟨hRS6, hKO, hk6⟩ := hRS3.pushK hko3 (by rw [← Hn.out]; exact k13) (s := ⟨A2, c2, key⟩) (ho2.ext ((Ext.refl W2).alloc _)) HRS.out.size hts ho5 hg5
      rw [← Hn.out] at hRS6 hKO hk6
      have k16 := cell_of_row W5 (B + 1) 0 _ _ (0, 0) hk6
      have f16 : W5.frozen? ⟨B + 1, 0, none⟩ = false := by simp [World.frozen?, hk6]
      refine ⟨by first | exact fun _ => k16.trans rfl | exact k16.trans rfl, ?_⟩
      (try (simp only [Act.put, List.getElem_toArray, List.getElem_cons_zero, List.getElem_cons_succ, List.setIfInBounds_toArray, List.set_cons_zero, List.set_cons_succ]))
      refine wpAnyT_step (i := 5) (by kernel_rfl) rfl rfl ?_
      go_simp
      refine wpAnyT_done (by kernel_rfl) ?_ _
      simp only [tight]
      obtain ⟨W6, hW6⟩ : ∃ W6, W6 = W5.setCell ⟨B + 1, 0, none⟩ (.slice A5 (n + 1) c5) := ⟨_, rfl⟩
      rw [← hW6] at hRS6 hKO ⊢
      have HK6 := Lib.hid ((keeps_ext hE3).trans hKO)
      have HRS6 := Lib.hid hRS6
      obtain ⟨Av, cv, hvb, hvo⟩ := hRS6.vs
      have hvl : (pre.map fun x => vl ns x.i).length = pre.length := List.length_map ..
      rw [hvl] at hvb
      have v1 := cell_of_row W6 (B + 2) 0 _ _ (0, 0) hvb
      have hRS7 := HRS6.out.ext ((Ext.refl W6).alloc (.cells #[.int .i64 xv] 3))
      have hvo7 := hvo.ext ((Ext.refl W6).alloc (.cells #[.int .i64 xv] 3))
      have v17 := (Below.heap_alloc W6 (.cells #[.int .i64 xv] 3) (B + 2) (Array.getElem?_eq_some_iff.1 hvb).1).trans hvb
      have hpn : pre.length ≤ 1099511627776 := by omega
      obtain ⟨pn, hpn2⟩ : ∃ pn, pn = pre.length := ⟨_, rfl⟩
      have Hpn := Lib.hid hpn2
      rw [← hpn2] at hvb v1 v17 hpn hvl
      clear hg5 ho5 hko3 hRS3 k13 hE3 ho2 he2 hE2 k12 hk6 k16 f16 hKO hRS6 hW6 k1 k1d hkb hko hn2 hpn2 hts hvb
      gi_wp2_with (first
        | (rw [Oper.semAt_eq _ _ _ (fun c h => by cases h)]; refine upon_round (fun _ _ h => h) ?_; refine wp_pushK shZ xv 3 _ _ 45 rfl _ 8 Try.underlying45 Try.infoInt18 rfl hvo7 pn hvl rfl rfl (heap_alloc_new _ _) (by omega) (by decide) hRS7.size ?_; intro A8 c8 W8 ho8 hg8 _; have hg8 := gk hg8; obtain ⟨hRS9, hKO9, hk9⟩ := hRS7.pushV hvo7 (by rw [hvl]; exact v17) ho8 hg8; rw [hvl] at hRS9 hKO9 hk9; have v18 := cell_of_row W8 (B + 2) 0 _ _ (0, 0) hk9; have f18 : W8.frozen? ⟨B + 2, 0, none⟩ = false := (by simp [World.frozen?, hk9]))
        | (rw [Oper.semAt_eq _ _ _ (fun c h => by cases h)]; go_simp; try go_bits))
      refine ⟨(HK6.out.trans ((keeps_ext ((Ext.refl W6).alloc _)).trans hKO9)).from _, ⟨fun q hq => ?_, ?_⟩, ts ++ [⟨A2, c2, key⟩], ?_, ?_, ?_⟩
      · have h1 := HYb.out q hq
        exact (hRS9.kb q h1.1 h1.2.1 h1.2.2).trans (HRS.out.kb q h1.1 h1.2.1 h1.2.2).symm
      · exact Nat.le_trans HK6.out.size (Nat.le_trans (keeps_ext ((Ext.refl W6).alloc _)).size hKO9.size)
      · rw [List.map_append, List.map_singleton, ← Hxv.out]; exact hRS9
      · unfold bodies at Hbd ⊢
        rw [List.map_append, List.map_append, Hbd.out, List.map_singleton, List.map_singleton, ← Hkb.out]
      · intro y hy
        rcases List.mem_append.1 hy with hy | hy
        · exact Hns.out y hy
        · rw [List.mem_singleton.1 hy, ← Hkb.out]; exact Hst.out
    · have hmI : (0 : Int) < (mh : Int) := by omega
      by_cases hO : 0 ≤ O
      · have Hst : Hid (stopB hi key = true) := Lib.hid (by unfold stopB; rw [Hhl.out, ← HOO.out, decide_eq_true (by omega), decide_eq_true hO]; rfl)
        gi_wp2_with (first | (refine ⟨trivial, ?_⟩; gi_at_call 74; refine (CallsIn.inRound l (callsIn_wide.2 CCmp.out)).mono ?_; rintro e W1 ⟨rfl, rfl⟩) | (rw [Oper.semAt_eq _ _ _ (fun c h => by cases h)]; go_simp; try go_bits))
        exact ⟨(KeepsOthers.refl _).from _, rfl, pre, x, rfl, by rw [← Hkb.out]; exact Hst.out, ts, HRS.out, Hbd.out, Hns.out⟩
      · have Hst : Hid (stopB hi key = false) := Lib.hid (by unfold stopB; rw [← HOO.out, decide_eq_false hO, Bool.and_false])
        have hOI : ¬ (0 : Int) ≤ O := hO
        gi_wp2_with (first | (refine ⟨trivial, ?_⟩; gi_at_call 74; refine (CallsIn.inRound l (callsIn_wide.2 CCmp.out)).mono ?_; rintro e W1 ⟨rfl, rfl⟩) | (rw [Oper.semAt_eq _ _ _ (fun c h => by cases h)]; go_simp; try go_bits))
        obtain ⟨Ak, ck, hkb, hko⟩ := HRS.out.ks
        have k1 := cell_of_row W (B + 1) 0 _ _ (0, 0) hkb
        obtain ⟨n, hn⟩ : ∃ n, n = ts.length := ⟨_, rfl⟩
        rw [← hn] at hkb k1
        have hn2 : n ≤ 1099511627776 := by rw [hn, Htl.out]; exact Nat.le_of_lt (Nat.lt_trans hpl hb)
        have Hn := Lib.hid hn
        clear hn
        have k1d : W.drew.cell? ⟨B + 1, 0, none⟩ = some (.slice Ak n ck) := k1
        have CC := Lib.hid (clone_any kA kn kc key W.drew (Hrk.out.ext (Ext.refl W).drew) (by omega))
        refine wpIn_region_round (by kernel_rfl) (by kernel_rfl) (wpAny_of_T (S := fun W9 => W9.cell? ⟨B + 1, 0, none⟩ = some (.slice Ak n ck)) (late := fun j => j == 5) _ _ _ _ ?_)
        refine wpAnyT_take (i := 0) (v := ?_) rfl (by kernel_rfl) (by kernel_rfl) (by kernel_rfl) (by kernel_rfl) (fun _ _ _ h => h) (Or.inl ⟨by rfl, ?_⟩) (by exact k1d) ?_
        rotate_left
        · (intro w hSw; (try dsimp only at hSw); go_simp; (try with_reducible rfl))
        (try (simp only [Act.put, List.getElem_toArray, List.getElem_cons_zero, List.setIfInBounds_toArray, List.set_cons_zero, List.set_cons_succ]))
        refine wpAnyT_take (i := 1) (v := ?_) rfl (by kernel_rfl) (by kernel_rfl) (by kernel_rfl) (by kernel_rfl) (fun _ _ _ h => h) (Or.inl ⟨by rfl, ?_⟩) (by exact k1d) ?_
        rotate_left
        · (intro w hSw; (try dsimp only at hSw); go_simp; (try with_reducible rfl))
        (try (simp only [Act.put, List.getElem_toArray, List.getElem_cons_zero, List.getElem_cons_succ, List.setIfInBounds_toArray, List.set_cons_zero, List.set_cons_succ]))
        refine wpAnyT_step (i := 2) (by kernel_rfl) rfl rfl ?_
        go_simp
        refine CC.out.mono ?_
        rintro e W2 ⟨A2, c2, rfl, ho2, he2⟩
        have hE2 : Ext W W2 := (Ext.refl W).drew.trans he2
        have k12 : W2.heap[B + 1]? = some (.cells #[.slice Ak n ck] 49 (0, 0)) := (hE2.block _ (Array.getElem?_eq_some_iff.1 hkb).1).trans hkb
        (try dsimp only)
        refine ⟨by first | exact fun _ => (cell_of_row W2 (B + 1) 0 _ _ (0, 0) k12).trans rfl | exact (cell_of_row W2 (B + 1) 0 _ _ (0, 0) k12).trans rfl, ?_⟩
        (try (simp only [Act.put, List.getElem_toArray, List.getElem_cons_zero, List.getElem_cons_succ, List.setIfInBounds_toArray, List.set_cons_zero, List.set_cons_succ]))
        refine wpAnyT_step (i := 3) (by kernel_rfl) rfl rfl ?_
        go_simp
        have hE3 : Ext W (W2.alloc (.cells #[.slice A2 kn c2] 52)) := hE2.alloc _
        have k13 := (Below.heap_alloc W2 (.cells #[.slice A2 kn c2] 52) (B + 1) (Array.getElem?_eq_some_iff.1 k12).1).trans k12
        have hRS3 := HRS.out.ext hE3
        have hko3 := hko.ext hE3
        refine ⟨by first | exact fun _ => (cell_of_row _ (B + 1) 0 _ _ (0, 0) k13).trans rfl | exact (cell_of_row _ (B + 1) 0 _ _ (0, 0) k13).trans rfl, ?_⟩
        (try (simp only [Act.put, List.getElem_toArray, List.getElem_cons_zero, List.getElem_cons_succ, List.setIfInBounds_toArray, List.set_cons_zero, List.set_cons_succ]))
        refine wpAnyT_step (i := 4) (by kernel_rfl) rfl rfl ?_
        refine wp_pushK shS ⟨A2, c2, key⟩ 52 _ _ 49 rfl _ 24 Try.underlying49 Try.infoS rfl hko3 n Hn.out.symm rfl rfl (by rw [← Hrl.out]; exact heap_alloc_new _ _) (by omega) (by decide) hRS3.size ?_
        intro A5 c5 W5 ho5 hg5 _
        have hg5 := gk hg5
        have hts : ∀ s ∈ ts, ∀ p, s.A = some p → p.block < W.heap.size := HRS.out.tx.lt
        obtain ⟨hRS6, hKO, hk6⟩ := hRS3.pushK hko3 (by rw [← Hn.out]; exact k13) (s := ⟨A2, c2, key⟩) (ho2.ext ((Ext.refl W2).alloc _)) HRS.out.size hts ho5 hg5
        rw [← Hn.out] at hRS6 hKO hk6
        have k16 := cell_of_row W5 (B + 1) 0 _ _ (0, 0) hk6
        have f16 : W5.frozen? ⟨B + 1, 0, none⟩ = false := by simp [World.frozen?, hk6]
        refine ⟨by first | exact fun _ => k16.trans rfl | exact k16.trans rfl, ?_⟩
        (try (simp only [Act.put, List.getElem_toArray, List.getElem_cons_zero, List.getElem_cons_succ, List.setIfInBounds_toArray, List.set_cons_zero, List.set_cons_succ]))
        refine wpAnyT_step (i := 5) (by kernel_rfl) rfl rfl ?_
        go_simp
        refine wpAnyT_done (by kernel_rfl) ?_ _
        simp only [tight]
        obtain ⟨W6, hW6⟩ : ∃ W6, W6 = W5.setCell ⟨B + 1, 0, none⟩ (.slice A5 (n + 1) c5) := ⟨_, rfl⟩
        rw [← hW6] at hRS6 hKO ⊢
        have HK6 := Lib.hid ((keeps_ext hE3).trans hKO)
        have HRS6 := Lib.hid hRS6
        obtain ⟨Av, cv, hvb, hvo⟩ := hRS6.vs
        have hvl : (pre.map fun x => vl ns x.i).length = pre.length := List.length_map ..
        rw [hvl] at hvb
        have v1 := cell_of_row W6 (B + 2) 0 _ _ (0, 0) hvb
        have hRS7 := HRS6.out.ext ((Ext.refl W6).alloc (.cells #[.int .i64 xv] 3))
        have hvo7 := hvo.ext ((Ext.refl W6).alloc (.cells #[.int .i64 xv] 3))
        have v17 := (Below.heap_alloc W6 (.cells #[.int .i64 xv] 3) (B + 2) (Array.getElem?_eq_some_iff.1 hvb).1).trans hvb
        have hpn : pre.length ≤ 1099511627776 := by omega
        obtain ⟨pn, hpn2⟩ : ∃ pn, pn = pre.length := ⟨_, rfl⟩
        have Hpn := Lib.hid hpn2
        rw [← hpn2] at hvb v1 v17 hpn hvl
        clear hg5 ho5 hko3 hRS3 k13 hE3 ho2 he2 hE2 k12 hk6 k16 f16 hKO hRS6 hW6 k1 k1d hkb hko hn2 hpn2 hts hvb
        gi_wp2_with (first
          | (rw [Oper.semAt_eq _ _ _ (fun c h => by cases h)]; refine upon_round (fun _ _ h => h) ?_; refine wp_pushK shZ xv 3 _ _ 45 rfl _ 8 Try.underlying45 Try.infoInt18 rfl hvo7 pn hvl rfl rfl (heap_alloc_new _ _) (by omega) (by decide) hRS7.size ?_; intro A8 c8 W8 ho8 hg8 _; have hg8 := gk hg8; obtain ⟨hRS9, hKO9, hk9⟩ := hRS7.pushV hvo7 (by rw [hvl]; exact v17) ho8 hg8; rw [hvl] at hRS9 hKO9 hk9; have v18 := cell_of_row W8 (B + 2) 0 _ _ (0, 0) hk9; have f18 : W8.frozen? ⟨B + 2, 0, none⟩ = false := (by simp [World.frozen?, hk9]))
          | (rw [Oper.semAt_eq _ _ _ (fun c h => by cases h)]; go_simp; try go_bits))
        refine ⟨(HK6.out.trans ((keeps_ext ((Ext.refl W6).alloc _)).trans hKO9)).from _, ⟨fun q hq => ?_, ?_⟩, ts ++ [⟨A2, c2, key⟩], ?_, ?_, ?_⟩
        · have h1 := HYb.out q hq
          exact (hRS9.kb q h1.1 h1.2.1 h1.2.2).trans (HRS.out.kb q h1.1 h1.2.1 h1.2.2).symm
        · exact Nat.le_trans HK6.out.size (Nat.le_trans (keeps_ext ((Ext.refl W6).alloc _)).size hKO9.size)
        · rw [List.map_append, List.map_singleton, ← Hxv.out]; exact hRS9
        · unfold bodies at Hbd ⊢
          rw [List.map_append, List.map_append, Hbd.out, List.map_singleton, List.map_singleton, ← Hkb.out]
        · intro y hy
          rcases List.mem_append.1 hy with hy | hy
          · exact Hns.out y hy
          · rw [List.mem_singleton.1 hy, ← Hkb.out]; exact Hst.out
  case done =>
    rintro D ys W hD ⟨hF, hle⟩ ⟨ts, hRS, hbd, hns⟩ hKd
    obtain ⟨r1, r2⟩ := rng_done hF hle hns
    obtain ⟨Ak, ck, hkb, hko⟩ := hRS.ks
    obtain ⟨Av, cv, hvb, hvo⟩ := hRS.vs
    have k1 := cell_of_row W (B + 1) 0 _ _ (0, 0) hkb
    have v1 := cell_of_row W (B + 2) 0 _ _ (0, 0) hvb
    have Hbd := Lib.hid (hbd.trans r1.symm)
    have Hr2 := Lib.hid r2.symm
    have HRS := Lib.hid hRS
    have Hko := Lib.hid hko
    have Hvo := Lib.hid hvo
    clear hRS hbd hns r1 r2 hko hvo hkb hvb
    gi_wp2
    refine wpIn_wide.2 ?_
    go_quiet (fail)
    gi_wp2
    have hKq : (W.drewN nq).heap[D]? = some (.deferred (some [])) := hKd
    refine ⟨by simp, .inl ⟨_, _, rfl, run_takeDeferred hKq, ?_⟩⟩
    have hg := grownBy_putObj' (W.drewN nq) D (.deferred none)
    have hr : ∀ r, some D = some r → w1.heap.size ≤ r ∧ ∃ o : Obj, (W.drewN nq).heap[r]? = some o ∧ o.isCells = false := fun r e => by injection e with e; subst e; exact ⟨hD, _, hKq, rfl⟩
    have hr2 := fun r e => (hr r e).2
    have hRSd := (HRS.out.ext ((Ext.refl W).drewN nq)).turn hg hr
    have hkd := (Hko.out.ext ((Ext.refl W).drewN nq)).owned hg hr2
    have hvd := (Hvo.out.ext ((Ext.refl W).drewN nq)).owned hg hr2
    rw [HB.out] at hRSd
    have hfin := rng_end HE1.out hRSd Hbd.out Hr2.out hkd hvd
    rw [List.length_map] at hfin
    refine ⟨_, ?_, hfin⟩
    simp [results, Try.results37, go_sem]
  case stop =>
    rintro D cx pre W hD hF ⟨rfl, q, x, rfl, hst, ts, hRS, hbd, hns⟩ hKd
    obtain ⟨r1, r2⟩ := rng_stop hF hns hst
    obtain ⟨Ak, ck, hkb, hko⟩ := hRS.ks
    obtain ⟨Av, cv, hvb, hvo⟩ := hRS.vs
    have k1 := cell_of_row W (B + 1) 0 _ _ (0, 0) hkb
    have v1 := cell_of_row W (B + 2) 0 _ _ (0, 0) hvb
    have Hbd := Lib.hid (hbd.trans r1.symm)
    have Hr2 := Lib.hid r2.symm
    have HRS := Lib.hid hRS
    have Hko := Lib.hid hko
    have Hvo := Lib.hid hvo
    clear hRS hbd hns r1 r2 hko hvo hkb hvb
    gi_wp2
    refine wpIn_wide.2 ?_
    go_quiet (fail)
    gi_wp2
    have hKq : (W.drewN nq).heap[D]? = some (.deferred (some [])) := hKd
    refine ⟨by simp, .inl ⟨_, _, rfl, run_takeDeferred hKq, ?_⟩⟩
    have hg := grownBy_putObj' (W.drewN nq) D (.deferred none)
    have hr : ∀ r, some D = some r → w1.heap.size ≤ r ∧ ∃ o : Obj, (W.drewN nq).heap[r]? = some o ∧ o.isCells = false := fun r e => by injection e with e; subst e; exact ⟨hD, _, hKq, rfl⟩
    have hr2 := fun r e => (hr r e).2
    have hRSd := (HRS.out.ext ((Ext.refl W).drewN nq)).turn hg hr
    have hkd := (Hko.out.ext ((Ext.refl W).drewN nq)).owned hg hr2
    have hvd := (Hvo.out.ext ((Ext.refl W).drewN nq)).owned hg hr2
    rw [HB.out] at hRSd
    have hfin := rng_end HE1.out hRSd Hbd.out Hr2.out hkd hvd
    rw [List.length_map] at hfin
    refine ⟨_, ?_, hfin⟩
    simp [results, Try.results37, go_sem]

theorem srange_any {w : World} {X : Nat → Prop} {base sb : Nat} {hs : List Int} {L : List (List Nat)} {V : List Int} (h : LS w X base sb hs L V) (hb : L.length < 1099511627776) (A : Option Addr) (m c : Nat) (lo : List Nat) (ht : Rd .u8 w A m lo) (hu : U8 lo) (hm : m ≤ 140737488355328) (Ah : Option Addr) (mh ch : Nat) (hi : List Nat) (hth : Rd .u8 w Ah mh hi) (huh : U8 hi) :
    Calls Try.prog 37 #[.pointer (some ⟨sb, 0, none⟩), .slice A m c, .slice Ah mh ch] w (RngPost L V lo hi w) := by
  obtain ⟨ns, hS, hR⟩ := h
  exact callsIn_wide.1 (srange_in hS hR hb A m c lo ht hu hm Ah mh ch hi hth huh)

end Go.Proofs.Ytkmnhapeohlooaa

/-
  Layer 18: the document's example holds of the program.
-/
namespace Go.Proofs.Ytkmnhapeohlooaa
open Go.RowKit
set_option maxRecDepth 100000

/-- A list of the call's own. -/
def LA (w0 W : World) (sb : Nat) (hs : List Int) (L : List (List Nat)) (V : List Int) : Prop := ∃ X base, LS W X base sb hs L V ∧ w0.heap.size ≤ base ∧ Ext w0 W
section
variable {w0 w w' : World} {sb : Nat} {hs : List Int} {L : List (List Nat)} {V : List Int}
theorem LS.bd' {X : Nat → Prop} {base : Nat} (h : LS w X base sb hs L V) : ∀ q, X q → base ≤ q ∧ q < w.heap.size := by
  obtain ⟨ns, h1, _⟩ := h
  exact h1.bd
theorem LA.ext (h : LA w0 w sb hs L V) (he : Ext w w') : LA w0 w' sb hs L V := by
  obtain ⟨X, base, h1, h2, h3⟩ := h
  exact ⟨X, base, h1.ext he, h2, h3.trans he⟩
theorem LA.toExt (h : LA w0 w sb hs L V) : Ext w0 w := by
  obtain ⟨X, base, h1, h2, h3⟩ := h
  exact h3
theorem LA.calls {f : FuncId} {args : Array Value} {e0 e1 : Ending} {L' : List (List Nat)} {V' : List Int} (h : Calls Try.prog f args w fun e w' => e = e0 ∧ LA w0 w' sb hs L V) (he : e0 = e1) (hL : L = L') (hV : V = V') : Calls Try.prog f args w fun e w' => e = e1 ∧ LA w0 w' sb hs L' V' := by
  subst he; subst hL; subst hV; exact h
theorem laput_any (h : LA w0 w sb hs L V) (hb : L.length < 1099511627776) (A : Option Addr) (m c : Nat) (t : List Nat) (v : Int) (ht : Rd .u8 w A m t) (hu : U8 t) (hm : m ≤ 140737488355328) :
    Calls Try.prog 41 #[.pointer (some ⟨sb, 0, none⟩), .slice A m c, .int .i64 v] w fun e w' => e = .returned (.bool (decide (¬ L[skN t L]? = some t))) ∧ LA w0 w' sb hs (insL L t) (putV L V t v) := by
  obtain ⟨X, base, h1, h2, h3⟩ := h
  refine (sput_any h1 hb A m c t v ht hu hm).mono ?_
  rintro e w' ⟨he, h4, h5⟩
  refine ⟨he, XN X w w', base, h4, h2, h5.os.trans h3.os, h5.tape.trans h3.tape, h5.output.trans h3.output, Nat.le_trans h3.size h5.size, fun q hq => ?_⟩
  have hq2 : q < w.heap.size := Nat.lt_of_lt_of_le hq h3.size
  refine (h5.block q hq2 (fun hx => ?_)).trans (h3.block q hq)
  have := (h1.bd' q hx).1
  omega
end

/-- '[]byte("..")' of a constant: the row gets its mark. -/
theorem conv_const (W : World) (g : Nat) (C : Array Value) (n c : Nat) (hg : W.heap.size = g) :
    (convert 52 52 (.slice (some ⟨g, 0, none⟩) n c)).run Try.prog (W.alloc (.cells C 5)) = .ok (.slice (some ⟨g, 0, none⟩) n c) (W.alloc (.cells C 5 (C.size, C.size + 1))) := by
  subst hg
  exact Lib.run_convert_bytes_const W 52 5 C n c Try.underlying52 Try.underlying5
theorem mark_at (fr : Nat × Nat) (w : World) (xs : List Nat) {b n : Nat} (hb : w.heap.size = b) (hn : xs.length = n) : Rd .u8 (w.alloc (.cells (xs.map fun x : Nat => Value.int .u8 (x : Int)).toArray 5 fr)) (some ⟨b, 0, none⟩) n xs := by
  subst hb
  subst hn
  refine ⟨rfl, fun hn => ⟨w.heap.size, 0, rfl, by simp, fun j hj => ?_⟩⟩
  rw [cell_of_row _ w.heap.size (0 + j) _ 5 fr (heap_alloc_new w _)]
  simp [hj]

theorem sstr98 : sstr [98] = { data := #[98] } := rfl

set_option maxHeartbeats 6400000 in
theorem alive18_any (w : World) : Calls Try.prog 32 #[] w fun e w' => e = .returned (.bool true) ∧ Ext w w' := by
  have CN := Lib.hid (snew_any (some ⟨w.heap.size, 0, none⟩) 2 2 [1, 3] _ (RdG.lit shZ 3 w [1, 3] rfl rfl) (by decide))
  have kc := conv_const
  go_enter Try.func32, Try.ntmps32
  go_wp2_with fail
  refine CN.out.mono ?_
  rintro e w1 ⟨sb, rfl, k, he⟩
  have k0 : LA w w1 sb [1, 3] [] [] := ⟨_, _, k, by simp, ((Ext.refl w).alloc _).trans he⟩
  have k0 := k0.ext ((Ext.refl w1).alloc (.cells #[.int .u8 98] 5 (1, 2)))
  have C1 := Lib.hid (LA.calls (e1 := .returned (.bool true)) (L' := [[98]]) (V' := [1]) (laput_any k0 (by decide) (some ⟨w1.heap.size, 0, none⟩) 1 1 [98] 1 (mark_at (1, 2) w1 [98] rfl rfl) (by decide) (by decide)) rfl rfl rfl)
  clear k k0 he CN
  go_wp2_with fail
  refine C1.out.mono ?_
  rintro e w2 ⟨rfl, k1⟩
  have k1 := k1.ext ((Ext.refl w2).alloc (.cells #[.int .u8 97] 5 (1, 2)))
  have C2 := Lib.hid (LA.calls (e1 := .returned (.bool true)) (L' := [[97], [98]]) (V' := [2, 1]) (laput_any k1 (by decide) (some ⟨w2.heap.size, 0, none⟩) 1 1 [97] 2 (mark_at (1, 2) w2 [97] rfl rfl) (by decide) (by decide)) rfl rfl rfl)
  clear k1 C1
  go_wp2_with fail
  refine C2.out.mono ?_
  rintro e w3 ⟨rfl, k2⟩
  have k2 := k2.ext ((Ext.refl w3).alloc (.cells #[.int .u8 98] 5 (1, 2)))
  have C3 := Lib.hid (LA.calls (e1 := .returned (.bool false)) (L' := [[97], [98]]) (V' := [2, 5]) (laput_any k2 (by decide) (some ⟨w3.heap.size, 0, none⟩) 1 1 [98] 5 (mark_at (1, 2) w3 [98] rfl rfl) (by decide) (by decide)) rfl rfl rfl)
  clear k2 C2
  go_wp2_with fail
  refine C3.out.mono ?_
  rintro e w4 ⟨rfl, k3⟩
  have k4 := k3.ext ((Ext.refl w4).alloc (.cells #[.int .u8 98] 5 (1, 2)))
  have K4 := Lib.hid k4
  obtain ⟨X4, b4, l4, _, _⟩ := k4
  have C4 := Lib.hid (lsget_any l4 (by decide) (some ⟨w4.heap.size, 0, none⟩) 1 1 [98] (mark_at (1, 2) w4 [98] rfl rfl) (by decide))
  rw [show (if ([[97], [98]] : List (List Nat))[skN [98] [[97], [98]]]? = some [98] then ([2, 5] : List Int).getD (skN [98] [[97], [98]]) 0 else 0) = 5 from rfl, show decide (([[97], [98]] : List (List Nat))[skN [98] [[97], [98]]]? = some [98]) = true from rfl] at C4
  clear k3 C3 l4
  go_wp2_with fail
  refine C4.out.mono ?_
  rintro e w5 ⟨rfl, he5⟩
  have k5 := (K4.out.ext he5).ext ((Ext.refl w5).alloc (.cells #[.int .u8 97, .int .u8 97] 5 (2, 3)))
  have K5 := Lib.hid k5
  obtain ⟨X5, b5, l5, _, _⟩ := k5
  have C5 := Lib.hid (lsseek_any l5 (by decide) (some ⟨w5.heap.size, 0, none⟩) 2 2 [97, 97] (mark_at (2, 3) w5 [97, 97] rfl rfl) (by decide))
  clear C4 K4 he5 l5
  go_wp2_with fail
  refine C5.out.mono ?_
  rintro e w6 ⟨hs6, he6⟩
  obtain ⟨A6, c6, rfl, ho6⟩ : ∃ A' c', e = .returned (.tuple #[.slice A' 1 c', .int .i64 5, .bool true]) ∧ Own .u8 5 w6 (w5.alloc (.cells #[.int .u8 97, .int .u8 97] 5 (2, 3))).heap.size A' c' [98] := by
    rcases hs6 with ⟨h1, _⟩ | ⟨x, A', c', h1, h2, h3⟩
    · exact absurd h1 (by decide)
    · have hx : x = [98] := by
        have : ([[97], [98]] : List (List Nat))[skN [97, 97] [[97], [98]]]? = some [98] := rfl
        rw [this] at h1
        injection h1 with h1
        exact h1.symm
      subst hx
      exact ⟨A', c', h2, h3⟩
  have k6 := (K5.out.ext he6).ext ((Ext.refl w6).alloc (.cells #[.int .u8 98] 5 (1, 2)))
  have K6 := Lib.hid k6
  have H6 := Lib.hid (ho6.ext ((Ext.refl w6).alloc (.cells #[.int .u8 98] 5 (1, 2))))
  obtain ⟨X6, b6, l6, _, _⟩ := k6
  have C6 := Lib.hid (srange_any l6 (by decide) none 0 0 [] ⟨rfl, fun h => absurd h (by decide)⟩ (by decide) (by decide) (some ⟨w6.heap.size, 0, none⟩) 1 1 [98] (mark_at (1, 2) w6 [98] rfl rfl) (by decide))
  clear hs6 C5 K5 l6 ho6 he6
  go_wp2_with fail
  refine C6.out.mono ?_
  rintro e w7 ⟨A7, c7, ts, Av, cv, rfl, hbd, hk7, _, hv7, he7⟩
  have hrk : rngK [[97], [98]] [] [98] = [[97]] := rfl
  have hrv : rngV [[97], [98]] [2, 5] [] [98] = [2] := rfl
  rw [hrk] at hbd
  rw [hrv] at hv7 ⊢
  have htl : ts.length = 1 := by have := congrArg List.length hbd; simpa [bodies] using this
  rw [htl]
  have k7 := K6.out.ext he7
  have K7 := Lib.hid k7
  obtain ⟨X7, b7, l7, _, _⟩ := k7
  have cs := conv_str (c := c6) (show Rd .u8 w7 A6 1 [98] from (H6.out.ext he7).rd)
  rw [sstr98] at cs
  have CH := Lib.hid (lsheight_any l7)
  have CL := Lib.hid (lslen_any l7 (by decide))
  rw [show Hm [1, 3] ([[97], [98]] : List (List Nat)).length = 3 from rfl] at CH
  rw [show ([[97], [98]] : List (List Nat)).length = 2 from rfl] at CL
  obtain ⟨b8, o8, rfl, hb8, hc8⟩ := hv7.rd.atZ (j := 0) (by decide)
  clear l7 C6 K6 H6 hbd hk7 he7 hrk hrv htl hv7
  have hc8' : w7.cell? ⟨b8, o8, none⟩ = some (.int .i64 2) := hc8
  clear hc8
  go_wp2_with fail
  refine CH.out.mono ?_
  rintro e w8 ⟨rfl, rfl⟩
  go_wp2_with fail
  refine CL.out.mono ?_
  rintro e w8 ⟨rfl, rfl⟩
  go_wp2_with fail
  go_ret
  exact ⟨rfl, K7.out.toExt⟩

end Go.Proofs.Ytkmnhapeohlooaa
