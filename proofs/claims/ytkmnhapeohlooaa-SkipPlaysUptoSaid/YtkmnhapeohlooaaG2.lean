import Derived.Test.YtkmnhapeohlooaaG1
import Derived.Laws.OwnMore
import Derived.Laws.AppendOwnNone
import Derived.Deep.DeepAppendWide
import Derived.Lib.AppendZeros
import Derived.Test.YtkmnhapeohlooaaRows
import Derived.JoinedCond
import Derived.Deep.CondSized

/-
  Words for memory: a slice of slices of bytes that reads as a list of lists; a whole slice appended to a row of the call's own; a block stored whole.
-/
namespace Go.Proofs.Ytkmnhapeohlooaa
open Go.RowKit

/-- The slice of slices (A, n) reads, in w, as the lists xss. -/
def RdSS (w : World) (A : Option Addr) (n : Nat) (xss : List (List Nat)) : Prop :=
  xss.length = n ∧ (0 < n → ∃ b o, A = some ⟨b, o, none⟩ ∧ b < w.heap.size ∧ ∀ j, j < n → ∃ a m c, w.cell? ⟨b, o + j, none⟩ = some (.slice a m c) ∧ Rd .u8 w a m (xss.getD j []))

theorem RdSS.len {w : World} {A : Option Addr} {n : Nat} {xss : List (List Nat)} (h : RdSS w A n xss) : xss.length = n := h.1

theorem RdSS.at_ {w : World} {A : Option Addr} {n : Nat} {xss : List (List Nat)} (h : RdSS w A n xss) {j : Nat} (hj : j < n) :
    ∃ b o a m c, A = some ⟨b, o, none⟩ ∧ b < w.heap.size ∧ w.cell? ⟨b, o + j, none⟩ = some (.slice a m c) ∧ Rd .u8 w a m (xss.getD j []) := by
  obtain ⟨b, o, e, hb, hc⟩ := h.2 (by omega)
  obtain ⟨a, m, c, h1, h2⟩ := hc j hj
  exact ⟨b, o, a, m, c, e, hb, h1, h2⟩

theorem RdSS.ext {w w' : World} {A : Option Addr} {n : Nat} {xss : List (List Nat)} (h : RdSS w A n xss) (hb : Ext w w') : RdSS w' A n xss :=
  ⟨h.1, fun hn => by
    obtain ⟨b, o, e, hlt, hc⟩ := h.2 hn
    refine ⟨b, o, e, Nat.lt_of_lt_of_le hlt hb.size, fun j hj => ?_⟩
    obtain ⟨a, m, c, h1, h2⟩ := hc j hj
    exact ⟨a, m, c, (Below.cell hb (p := ⟨b, o + j, none⟩) hlt).trans h1, h2.ext hb⟩⟩

/-- Slices that the call has just written out one behind the other in a block of its own. -/
theorem RdSS.lit (e : TypeId) (w : World) (ss : List (Option Addr × Nat × Nat)) (xss : List (List Nat)) (hl : xss.length = ss.length)
    (h : ∀ j, j < ss.length → Rd .u8 w (ss.getD j (none, 0, 0)).1 (ss.getD j (none, 0, 0)).2.1 (xss.getD j [])) :
    RdSS (w.alloc (.cells (ss.map fun s => Value.slice s.1 s.2.1 s.2.2).toArray e)) (some ⟨w.heap.size, 0, none⟩) ss.length xss := by
  refine ⟨hl, fun hn => ⟨w.heap.size, 0, rfl, by simp, fun j hj => ⟨(ss.getD j (none, 0, 0)).1, (ss.getD j (none, 0, 0)).2.1, (ss.getD j (none, 0, 0)).2.2, ?_, (h j hj).ext ((Ext.refl w).alloc _)⟩⟩⟩
  rw [cell_of_row _ w.heap.size (0 + j) _ e (0, 0) (heap_alloc_new w _)]
  simp [hj]

theorem RdSS.one (e : TypeId) (w : World) {b n c : Nat} {A : Option Addr} {xs : List Nat} (hb : w.heap.size = b) (h : Rd .u8 w A n xs) :
    RdSS (w.alloc (.cells #[.slice A n c] e)) (some ⟨b, 0, none⟩) 1 [xs] := by
  subst hb
  exact RdSS.lit e w [(A, n, c)] [xs] rfl (fun j hj => by
    obtain rfl : j = 0 := by simp at hj; omega
    exact h)

theorem RdSS.two (e : TypeId) (w : World) {b n c n2 c2 : Nat} {A A2 : Option Addr} {xs ys : List Nat} (hb : w.heap.size = b) (h : Rd .u8 w A n xs) (h2 : Rd .u8 w A2 n2 ys) :
    RdSS (w.alloc (.cells #[.slice A n c, .slice A2 n2 c2] e)) (some ⟨b, 0, none⟩) 2 [xs, ys] := by
  subst hb
  exact RdSS.lit e w [(A, n, c), (A2, n2, c2)] [xs, ys] rfl (fun j hj => by
    have hj2 : j < 2 := hj
    rcases (show j = 0 ∨ j = 1 by omega) with rfl | rfl
    · exact h
    · exact h2)

theorem RdSS.three (e : TypeId) (w : World) {b n c n2 c2 n3 c3 : Nat} {A A2 A3 : Option Addr} {xs ys zs : List Nat} (hb : w.heap.size = b) (h : Rd .u8 w A n xs) (h2 : Rd .u8 w A2 n2 ys) (h3 : Rd .u8 w A3 n3 zs) :
    RdSS (w.alloc (.cells #[.slice A n c, .slice A2 n2 c2, .slice A3 n3 c3] e)) (some ⟨b, 0, none⟩) 3 [xs, ys, zs] := by
  subst hb
  exact RdSS.lit e w [(A, n, c), (A2, n2, c2), (A3, n3, c3)] [xs, ys, zs] rfl (fun j hj => by
    have hj2 : j < 3 := hj
    rcases (show j = 0 ∨ j = 1 ∨ j = 2 by omega) with rfl | rfl | rfl
    · exact h
    · exact h2
    · exact h3)

theorem take_nextL (xss : List (List Nat)) (j : Nat) (h : j < xss.length) : xss.take (j + 1) = xss.take j ++ [xss.getD j []] := by
  rw [List.take_succ_eq_append_getElem h]; simp [List.getD, h]

/-- The first j lists, one behind the other. -/
def cat (xss : List (List Nat)) (j : Nat) : List Nat := (xss.take j).flatten
theorem cat_zero (xss : List (List Nat)) : cat xss 0 = [] := rfl
theorem cat_succ {xss : List (List Nat)} {j : Nat} (h : j < xss.length) : cat xss (j + 1) = cat xss j ++ xss.getD j [] := by rw [cat, take_nextL _ _ h]; simp [cat]
theorem cat_all (xss : List (List Nat)) : cat xss xss.length = xss.flatten := by simp [cat]
def U8s (xss : List (List Nat)) : Prop := ∀ xs ∈ xss, U8 xs
theorem U8s.at_ {xss : List (List Nat)} (h : U8s xss) (j : Nat) : U8 (xss.getD j []) := by
  by_cases hj : j < xss.length
  · have := h _ (List.getElem_mem hj); simpa [List.getD, hj] using this
  · simp [List.getD, hj]; intro v hv; cases hv
theorem U8s.cat {xss : List (List Nat)} (h : U8s xss) (j : Nat) : U8 (cat xss j) := by
  intro v hv
  obtain ⟨l, hl, hv⟩ := List.mem_flatten.1 hv
  exact h l (List.mem_of_mem_take hl) v hv
theorem cat_le {xss : List (List Nat)} {j : Nat} : (cat xss j).length ≤ xss.flatten.length := by
  have : xss.flatten = cat xss j ++ (xss.drop j).flatten := by rw [cat, ← List.flatten_append, List.take_append_drop]
  rw [this, List.length_append]
  omega

/-- append of a source that is nil, whatever its capacity: nothing. -/
theorem run_append_none {P : Program} {w : World} {base : Nat} {e : TypeId} (t ty : TypeId) (i : TypeInfo) (size c : Nat) (ht : P.underlying t = some (.slice e)) (hi : P.info? e = some i)
    (v : Value) (n : Nat) (xs : List Value) (hown : w.ownsRow base e size v n xs) :
    (Builtin.append_ #[t, t] ty #[v, .slice none 0 c]).run P w = .ok v w := by
  rcases hown.2 with ⟨rfl, rfl⟩ | ⟨g, cap, cur, rfl, _, _, hnc, _⟩
  · simp [Builtin.append_, run_underlying ht, sizeOf, typeInfo, hi, Builtin.lenOf, Builtin.firstCells]
  · simp [Builtin.append_, run_underlying ht, sizeOf, typeInfo, hi, Builtin.lenOf, Builtin.firstCells, hnc, storeCells]

/-- 'append(out, ys...)', ys a slice that reads as numbers, nil or not. -/
theorem wpList_pushes {P : Program} {w0 w : World} {ops : Array Oper} {rest : List Oper} {o : Oper} {a : Act} {Q : Exit → Act → World → Prop} (k : IntKind) (e : TypeId) (hgd : o.guard = none) (s y : Operand) (t : TypeId)
    (ho : o.op = .call { callee := .builtin .append, args := #[s, y], argTypes := #[t, t] })
    (z : Value) (bytes : Nat) (ht : P.underlying t = some (.slice e)) (hi : (P.info? e).map (fun i => (i.zero, i.size, i.bytes)) = some (some z, 1, bytes)) (hzs : z.cells.size = 1)
    {base : Nat} {A A2 : Option Addr} {c m c2 : Nat} {xs ys : List Nat} (hown : Own k e w base A c xs) (n : Nat) (hn : xs.length = n) (hs : a.eval s = .slice A n c)
    (hy : a.eval y = .slice A2 m c2) (hrd : Rd k w A2 m ys) (hlen : ((n + m) + (n + m) / 4 + 192) * bytes ≤ 281474976710656) (hby : 0 < bytes) (hb : Below base w0 w) (hbase : base ≤ w.heap.size)
    (h : ∀ A' c' w', Own k e w' base A' c' (xs ++ ys) → Below base w0 w' → base ≤ w'.heap.size → wpList P ops Q rest (a.put o.dst (.slice A' (n + m : Nat) c')) w') :
    wpList P ops Q (o :: rest) a w := by
  subst hn
  obtain ⟨i, hi0, hz, hsz, hbs⟩ := info_parts hi
  have hle : xs.length + m ≤ 281474976710656 := Nat.le_trans (Nat.le_trans (by omega) (Nat.le_mul_of_pos_right ((xs.length + m) + (xs.length + m) / 4 + 192) hby)) hlen
  have hyl := hrd.len
  cases A2 with
  | none =>
    have hm : m = 0 := by
      rcases Nat.eq_zero_or_pos m with h0 | h0
      · exact h0
      · obtain ⟨b, o, he, _⟩ := hrd.2 h0
        cases he
    subst hm
    obtain rfl : ys = [] := List.eq_nil_of_length_eq_zero hyl
    refine wpList_plain hgd fun K hK => ?_
    have hrun := run_append_none (P := P) (w := w) t o.type i 1 c2 ht hi0 _ _ _ hown
    unfold Oper.wp
    simp [execOp, ho, resolve, invoke, builtin, hs, hy, hrun, Result.andThen]
    have hh := h A c w (by simpa using hown) hb hbase
    exact hK _ _ hh
  | some ad =>
    refine wpList_append_own_wide _ hgd s y t ho base e i z 1 bytes ht hi0 hz hsz hbs hzs (by decide) _ xs.length (xs.map fun x : Nat => Value.int k (x : Int)) hs hown
      ad m c2 (ys.map fun x : Nat => Value.int k (x : Int)) hy (by simp [hyl]) ?_ ?_ (by unfold maxLen; omega) hlen hbase ?_
    · intro j u hj
      have hjl : j < ys.length := by
        have := (List.getElem?_eq_some_iff.1 hj).1
        simpa using this
      obtain ⟨b, o', he, hbl, hc⟩ := hrd.at_ (j := j) (by omega)
      injection he with he
      subst he
      have hadd : (⟨b, o', none⟩ : Addr).add j = ⟨b, o' + j, none⟩ := by simp [Addr.add]
      rw [hadd, hc]
      rw [List.getElem?_map, List.getElem?_eq_getElem hjl] at hj
      simp at hj
      simp [← hj, hjl]
    · intro u hu
      obtain ⟨x, _, rfl⟩ := List.mem_map.1 hu
      rfl
    · intro v' w' hown' hg hnil
      have hform : ∃ A' c', v' = .slice A' (xs.length + m) c' := by
        rcases hown'.2 with ⟨hv, h0⟩ | ⟨g, cap, cur, hv, _⟩
        · exact ⟨none, 0, by rw [hv, h0]⟩
        · exact ⟨_, _, hv⟩
      obtain ⟨A', c', rfl⟩ := hform
      have hb' : Below base w0 w' := Below.grown hb hg hbase (fun g hg' => (hown.lt g hg').1)
      refine h A' c' w' ?_ hb' ?_
      · unfold Own
        rw [List.length_append, hyl, List.map_append]
        exact hown'
      · have := hg.size
        omega

theorem Ext.setRow {a b : World} (h : Ext a b) {g : Nat} (hg : a.heap.size ≤ g) (cs : Array Value) : Ext a (b.setRow g cs) :=
  ⟨h.os, h.tape, h.output, by have := h.size; simpa using this, fun i hi => (setRow_other b g i cs (by omega)).trans (h.block i hi)⟩

theorem grown_setRow (w : World) (g : Nat) (cs : Array Value) : w.grownBy (w.setRow g cs) (some g) :=
  ⟨rfl, rfl, rfl, by simp, fun i _ hne => setRow_other w g i cs (fun e => hne (by rw [e]))⟩

/-- The block that a call has just laid, behind whatever only adds. -/
theorem Ext.kept {w w' : World} {o : Obj} (h : Ext (w.alloc o) w') : w'.heap[w.heap.size]? = some o := by
  rw [h.block w.heap.size (by simp)]
  exact heap_alloc_new w o

end Go.Proofs.Ytkmnhapeohlooaa

-- part SL
/-
  Rows of slices of bytes of the call's own.
-/
namespace Go.Proofs.Ytkmnhapeohlooaa
open Go.RowKit

theorem Try.infoS : (Try.prog.info? 52).map (fun i => (i.zero, i.size, i.bytes)) = some (some (.slice none 0 0), 1, 24) := by kernel_rfl

/-- A slice that lies somewhere, and what it reads as. -/
structure Sl where
  A : Option Addr
  c : Nat
  body : List Nat

def Sl.v (s : Sl) : Value := .slice s.A s.body.length s.c

/-- A row of slices of the call's own. -/
def OwnS (w : World) (base : Nat) (A : Option Addr) (c : Nat) (ss : List Sl) : Prop := w.ownsRow base 52 1 (.slice A ss.length c) ss.length (ss.map Sl.v)

theorem OwnS.made {base : Nat} (w : World) (hb : base ≤ w.heap.size) : OwnS (w.alloc (.cells #[] 52)) base (some ⟨w.heap.size, 0, none⟩) 0 [] :=
  World.ownsRow_made w #[] 0 hb (by simp [maxLen]) (by simp)
theorem OwnS.ext {w w' : World} {base c : Nat} {A : Option Addr} {ss : List Sl} (h : OwnS w base A c ss) (hb : Ext w w') : OwnS w' base A c ss := by
  refine World.ownsRow.kept (row := none) h ⟨hb.os, hb.tape, hb.output, hb.size, fun i hi _ => hb.block i hi⟩ ?_
  cases hv : (Value.slice A ss.length c).ownBlock <;> simp

/-- 'append(out, s)'. -/
theorem wpList_pushS {w0 w : World} {ops : Array Oper} {rest : List Oper} {o : Oper} {a : Act} {Q : Exit → Act → World → Prop} (f : Sl) (hgd : o.guard = none) (s y : Operand)
    (ho : o.op = .call { callee := .builtin .append, args := #[s, y], argTypes := #[49, 49] })
    {base : Nat} {A : Option Addr} {c : Nat} {ss : List Sl} (hown : OwnS w base A c ss) (n : Nat) (hn : ss.length = n) (hs : a.eval s = .slice A n c)
    {g : Nat} (hy : a.eval y = .slice (some ⟨g, 0, none⟩) 1 1) (hg : w.heap[g]? = some (.cells #[.slice f.A f.body.length f.c] 52))
    (hlen : n ≤ 1048576) (hb : Below base w0 w) (hbase : base ≤ w.heap.size)
    (h : ∀ A' c' w', OwnS w' base A' c' (ss ++ [f]) → Below base w0 w' → base ≤ w'.heap.size → wpList Try.prog ops Q rest (a.put o.dst (.slice A' (n + 1) c')) w') :
    wpList Try.prog ops Q (o :: rest) a w := by
  subst hn
  obtain ⟨i, hi0, hz, hsz, hbs⟩ := info_parts Try.infoS
  refine wpList_append_own_wide w hgd s y 49 ho base 52 i _ 1 24 Try.underlying49 hi0 hz hsz hbs rfl (by decide) _ ss.length (ss.map Sl.v) hs hown
    ⟨g, 0, none⟩ 1 1 [f.v] hy rfl ?_ ?_ (by unfold maxLen; omega) (by omega) hbase ?_
  · intro j u hj
    match j, hj with
    | 0, hj =>
      simp at hj
      subst hj
      have := cell_of_row w g 0 _ _ (0, 0) hg
      simpa [Addr.add, Sl.v] using this
  · intro u hu
    simp at hu
    subst hu
    rfl
  · intro v' w' hown' hgr _
    have hform : ∃ A' c', v' = .slice A' (ss.length + 1) c' := by
      rcases hown'.2 with ⟨_, h0⟩ | ⟨g, cap, cur, hv, _⟩
      · omega
      · exact ⟨_, _, hv⟩
    obtain ⟨A', c', rfl⟩ := hform
    have hb' : Below base w0 w' := Below.grown hb hgr hbase (fun g hg' => (hown.lt g hg').1)
    refine h A' c' w' ?_ hb' ?_
    · unfold OwnS
      rw [List.length_append, List.map_append]
      exact hown'
    · have := hgr.size
      omega

theorem Own.zero {k : IntKind} {e : TypeId} {w : World} {base c : Nat} {A : Option Addr} {xs : List Nat} (h : Own k e w base A c xs) : Own k e w 0 A c xs :=
  ⟨h.1, h.2.imp id fun ⟨g, cap, cur, h1, _, h3⟩ => ⟨g, cap, cur, h1, Nat.zero_le _, h3⟩⟩

theorem OwnS.block {w : World} {base c : Nat} {A : Option Addr} {ss : List Sl} (h : OwnS w base A c ss) : ∀ a, A = some a → base ≤ a.block ∧ a.block < w.heap.size := by
  rintro a rfl
  exact h.lt a.block rfl

end Go.Proofs.Ytkmnhapeohlooaa

-- part F7
/-
  Helpers that all references share: lists of bytes as wanted, and memory apart from one another, spare room too.
-/
namespace Go.Proofs.Ytkmnhapeohlooaa
open Go.RowKit

/-- Nothing has turned but rows of these slices; there may be more. -/
structure Kept (w wr : World) (ss : List Sl) : Prop where
  os : wr.os = w.os
  tape : wr.tape = w.tape
  output : wr.output = w.output
  size : w.heap.size ≤ wr.heap.size
  block : ∀ b, b < w.heap.size → (∀ s ∈ ss, ∀ p, s.A = some p → p.block ≠ b) → wr.heap[b]? = w.heap[b]?

theorem Kept.refl (w : World) (ss : List Sl) : Kept w w ss := ⟨rfl, rfl, rfl, Nat.le_refl _, fun _ _ _ => rfl⟩
theorem Kept.ext {w wr w' : World} {ss : List Sl} (h : Kept w wr ss) (he : Ext wr w') : Kept w w' ss :=
  ⟨he.os.trans h.os, he.tape.trans h.tape, he.output.trans h.output, Nat.le_trans h.size he.size, fun b hb hn => (he.block b (Nat.lt_of_lt_of_le hb h.size)).trans (h.block b hb hn)⟩
theorem Kept.grown {w wr w' : World} {ss : List Sl} {row : Option Nat} (h : Kept w wr ss) (hg : wr.grownBy w' row) (hr : ∀ g, row = some g → w.heap.size ≤ g ∨ ∃ s ∈ ss, ∃ p, s.A = some p ∧ p.block = g) : Kept w w' ss :=
  ⟨hg.os.trans h.os, hg.tape.trans h.tape, hg.output.trans h.output, Nat.le_trans h.size hg.size, fun b hb hn => (hg.block b (Nat.lt_of_lt_of_le hb h.size) (fun e => by
    rcases hr b e.symm with h1 | ⟨s, hs, p, hp, hpb⟩
    · omega
    · exact hn s hs p hp hpb)).trans (h.block b hb hn)⟩

/-- No row of these slices lies at that address. -/
def Far (ss : List Sl) (A : Option Addr) : Prop := ∀ s ∈ ss, ∀ p q, s.A = some p → A = some q → p.block ≠ q.block

theorem Rd.kept {k : IntKind} {w wr : World} {A : Option Addr} {n : Nat} {xs : List Nat} {ss : List Sl} (h : Rd k w A n xs) (hk : Kept w wr ss) (hf : 0 < n → Far ss A) : Rd k wr A n xs :=
  ⟨h.1, fun hn => by
    obtain ⟨b, o, e, hlt, hc⟩ := h.2 hn
    refine ⟨b, o, e, Nat.lt_of_lt_of_le hlt hk.size, fun j hj => ?_⟩
    rw [← hc j hj]
    exact World.cell?_of_block (a := ⟨b, o + j, none⟩) (hk.block b hlt (fun s hs p hp => hf hn s hs p _ hp e))⟩

/-- The slice of slices (A, n) holds the slices ss. -/
def RdL (w : World) (A : Option Addr) (n : Nat) (ss : List Sl) : Prop :=
  ss.length = n ∧ (0 < n → ∃ b o, A = some ⟨b, o, none⟩ ∧ b < w.heap.size ∧ ∀ j s, ss[j]? = some s → w.cell? ⟨b, o + j, none⟩ = some s.v)

theorem RdL.kept {w wr : World} {A : Option Addr} {n : Nat} {ss tt : List Sl} (h : RdL w A n tt) (hk : Kept w wr ss) (hf : 0 < n → Far ss A) : RdL wr A n tt :=
  ⟨h.1, fun hn => by
    obtain ⟨b, o, e, hlt, hc⟩ := h.2 hn
    refine ⟨b, o, e, Nat.lt_of_lt_of_le hlt hk.size, fun j s hj => ?_⟩
    rw [← hc j s hj]
    exact World.cell?_of_block (a := ⟨b, o + j, none⟩) (hk.block b hlt (fun s hs p hp => hf hn s hs p _ hp e))⟩

theorem OwnS.rdL {w : World} {base c : Nat} {A : Option Addr} {ss : List Sl} (h : OwnS w base A c ss) : RdL w A ss.length ss := by
  refine ⟨rfl, fun hn => ?_⟩
  rcases h.2 with ⟨_, h0⟩ | ⟨g, cap, cur, hv, hg, hh, hnc, hcm, hcs, htake⟩
  · omega
  · injection hv with hA hl hc
    subst hA
    refine ⟨g, 0, rfl, (Array.getElem?_eq_some_iff.1 hh).1, fun j s hj => ?_⟩
    have hjl : j < ss.length := (List.getElem?_eq_some_iff.1 hj).1
    rw [cell_of_row w g _ cur _ (0, 0) hh, Nat.zero_add]
    have h1 : (cur.toList.take (ss.length * 1))[j]? = some s.v := by rw [htake, List.getElem?_map, hj]; rfl
    rw [List.getElem?_take, if_pos (by omega)] at h1
    simpa using h1

theorem RdL.at_ {w : World} {A : Option Addr} {n : Nat} {ss : List Sl} (h : RdL w A n ss) {j : Nat} (hj : j < n) :
    ∃ b o s, A = some ⟨b, o, none⟩ ∧ ss[j]? = some s ∧ w.cell? ⟨b, o + j, none⟩ = some (.slice s.A s.body.length s.c) := by
  obtain ⟨b, o, e, hlt, hc⟩ := h.2 (by omega)
  have hjl : j < ss.length := by rw [h.1]; exact hj
  have hf : ss[j]? = some ss[j] := List.getElem?_eq_getElem hjl
  exact ⟨b, o, _, e, hf, hc j _ hf⟩

/-- The rows of unlike slices lie in unlike blocks. -/
def Unlike (ss : List Sl) : Prop := ∀ (i j : Nat) (s t : Sl), ss[i]? = some s → ss[j]? = some t → i ≠ j → ∀ p q, s.A = some p → t.A = some q → p.block ≠ q.block

/-- The first i slices are spoiled. -/
def St2 (wr : World) (ss : List Sl) (i : Nat) : Prop :=
  ∀ (j : Nat) (s : Sl), ss[j]? = some s → (j < i → Own .u8 5 wr 0 s.A s.c (s.body.map spl)) ∧ (i ≤ j → Own .u8 5 wr 0 s.A s.c s.body)

theorem St2.step {wr w' : World} {ss : List Sl} {i : Nat} {s : Sl} (h : St2 wr ss i) (hun : Unlike ss) (hs : ss[i]? = some s) (ho : Own .u8 5 w' 0 s.A s.c (s.body.map spl)) (hg : wr.grownBy w' (s.A.map (·.block))) : St2 w' ss (i + 1) := by
  have hne : ∀ (j : Nat) (t : Sl), ss[j]? = some t → j ≠ i → ∀ a, t.A = some a → some a.block ≠ s.A.map (·.block) := by
    intro j t ht hji a ha e
    cases hA : s.A with
    | none => rw [hA] at e; simp at e
    | some p => rw [hA] at e; simp at e; exact hun j i t s ht hs hji a p ha hA e
  intro j t ht
  constructor
  · intro hj
    by_cases hji : j = i
    · subst hji
      rw [hs] at ht
      injection ht with ht
      subst ht
      exact ho
    · exact ((h j t ht).1 (by omega)).grown hg (hne j t ht hji)
  · intro hj
    exact ((h j t ht).2 (by omega)).grown hg (hne j t ht (by omega))

/-- All slices read as spoiled; those from i on may be written. -/
def St3 (wr : World) (ss : List Sl) (i : Nat) : Prop :=
  ∀ (j : Nat) (s : Sl), ss[j]? = some s → Rd .u8 wr s.A s.body.length (s.body.map spl) ∧ (i ≤ j → Own .u8 5 wr 0 s.A s.c (s.body.map spl))

/-- While bytes go behind the i-th slice. -/
structure St4 (w wr : World) (ss : List Sl) (i : Nat) (s : Sl) (A' : Option Addr) (c' k : Nat) (ys : List Nat) : Prop where
  own : Own .u8 5 wr 0 A' c' ys
  len : ys.length = s.body.length + k
  pre : ys.take s.body.length = s.body.map spl
  at_ : ∀ p, A' = some p → s.A = some p ∨ w.heap.size ≤ p.block
  rest : St3 wr ss (i + 1)
  kept : Kept w wr ss

theorem St4.push {w wr w1 : World} {ss : List Sl} {i c' c1 k x : Nat} {s : Sl} {A' A1 : Option Addr} {ys : List Nat} (h : St4 w wr ss i s A' c' k ys) (hun : Unlike ss) (hs : ss[i]? = some s)
    (hlt : ∀ t ∈ ss, ∀ p, t.A = some p → p.block < w.heap.size)
    (ho : Own .u8 5 w1 0 A1 c1 (ys ++ [x])) (hw : A1 = A' ∧ wr.grownBy w1 (A'.map (·.block)) ∨ Ext wr w1 ∧ ∀ q, A1 = some q → wr.heap.size ≤ q.block) :
    St4 w w1 ss i s A1 c1 (k + 1) (ys ++ [x]) := by
  have hp : (ys ++ [x]).take s.body.length = s.body.map spl := by rw [List.take_append_of_le_length (by have := h.len; omega)]; exact h.pre
  have hl : (ys ++ [x]).length = s.body.length + (k + 1) := by have := h.len; simp; omega
  rcases hw with ⟨rfl, hg⟩ | ⟨he, hq⟩
  · have hne : ∀ (j : Nat) (t : Sl), ss[j]? = some t → j ≠ i → ∀ a, t.A = some a → some a.block ≠ A1.map (·.block) := by
      intro j t ht hji a ha e
      cases hA : A1 with
      | none => rw [hA] at e; simp at e
      | some p =>
        rw [hA] at e
        simp at e
        rcases h.at_ p hA with h1 | h1
        · exact hun j i t s ht hs hji a p ha h1 e
        · have := hlt t (List.mem_of_getElem? ht) a ha
          omega
    refine ⟨ho, hl, hp, h.at_, fun j t ht => ?_, h.kept.grown hg ?_⟩
    · refine ⟨?_, fun hj => ((h.rest j t ht).2 hj).grown hg (hne j t ht (by omega))⟩
      by_cases hji : j = i
      · subst hji
        rw [hs] at ht
        injection ht with ht
        subst ht
        by_cases h0 : 0 < s.body.length
        · obtain ⟨b, o, hA, hb, _⟩ := (h.rest j s hs).1.2 h0
          obtain ⟨b', hA'⟩ := h.own.head (by have := h.len; omega)
          rcases h.at_ _ hA' with e | e
          · have := ho.rd_take (n := s.body.length) (by omega)
            rw [hp, hA', ← e] at this
            exact this
          · refine (h.rest j s hs).1.grown hg ?_
            intro a ha e2
            rw [hA'] at e2
            simp at e2
            have h3 := hlt s (List.mem_of_getElem? hs) a ha
            have h4 : w.heap.size ≤ b' := e
            omega
        · exact ⟨(h.rest j s hs).1.1, fun q => absurd q h0⟩
      · exact (h.rest j t ht).1.grown hg (hne j t ht hji)
    · intro g hg'
      cases hA : A1 with
      | none => rw [hA] at hg'; simp at hg'
      | some p =>
        rw [hA] at hg'
        simp at hg'
        subst hg'
        rcases h.at_ p hA with h1 | h1
        · exact .inr ⟨s, List.mem_of_getElem? hs, p, h1, rfl⟩
        · exact .inl h1
  · exact ⟨ho, hl, hp, fun p hp => .inr (Nat.le_trans h.kept.size (hq p hp)), fun j t ht => ⟨(h.rest j t ht).1.ext he, fun hj => ((h.rest j t ht).2 hj).ext he⟩, h.kept.ext he⟩

end Go.Proofs.Ytkmnhapeohlooaa

-- part F8
/-
  The document's answers: lists of bytes as wanted, and memory apart from one another.
-/
namespace Go.Proofs.Ytkmnhapeohlooaa
open Go.RowKit

theorem mod256' {k i : Nat} : IntKind.u8.wrap ((k : Int) + (i : Int)) = (((k + i) % 256 : Nat) : Int) := by rw [IntKind.wrap_u8']; omega

theorem St3.next {wr : World} {ss : List Sl} {i : Nat} (h : St3 wr ss i) : St3 wr ss (i + 1) := fun j s hs => ⟨(h j s hs).1, fun hj => (h j s hs).2 (by omega)⟩
theorem St2.all {wr : World} {ss : List Sl} {n : Nat} (h : St2 wr ss n) (hn : ss.length = n) : St3 wr ss 0 := fun j s hs => by
  have hj : j < n := by rw [← hn]; exact (List.getElem?_eq_some_iff.1 hs).1
  have ho := (h j s hs).1 hj
  exact ⟨ho.rd' (by rw [List.length_map]), fun _ => ho⟩

set_option maxHeartbeats 1600000 in
theorem apartAll_any (A A' : Option Addr) (n c c' : Nat) (ss ts : List Sl) (w : World) (hx : RdL w A n ss) (hy : RdL w A' n ts) (hb : ss.map Sl.body = ts.map Sl.body) (hn : n ≤ 1048576)
    (hs : ∀ s ∈ ss, Own .u8 5 w 0 s.A s.c s.body) (hu : ∀ s ∈ ss, U8 s.body) (hl : ∀ s ∈ ss, s.body.length ≤ 1048576) (ht : ∀ t ∈ ts, Rd .u8 w t.A t.body.length t.body) (hun : Unlike ss)
    (hfx : 0 < n → Far ss A) (hfy : 0 < n → Far ss A') (hft : ∀ t ∈ ts, 0 < t.body.length → Far ss t.A) :
    Calls Try.prog 73 #[.slice A n c, .slice A' n c'] w fun e w' => e = .returned (.bool true) ∧ Kept w w' ss := by
  have hblt : ∀ t ∈ ss, ∀ p, t.A = some p → p.block < w.heap.size := fun t ht p hp => ((hs t ht).block p hp).2
  have hpair : ∀ (j : Nat) (s t : Sl), ss[j]? = some s → ts[j]? = some t → t.body = s.body := by
    intro j s t h1 h2
    have e1 := congrArg (fun l : List (List Nat) => l[j]?) hb
    simp only [List.getElem?_map, h1, h2, Option.map_some] at e1
    injection e1 with e1
    exact e1.symm
  have Hl := Lib.hid hx.1
  clear hb
  go_enter Try.func73, Try.ntmps73
  go_wp2
  go_loopw [5] (fun i wr => ∃ j q : Nat, j ≤ n ∧ i = .int .i64 j ∧ wr = w.drewN q) (fun i _ => n - (intOf i).toNat)
  case atStart => exact ⟨0, 0, Nat.zero_le _, rfl, rfl⟩
  case round =>
    obtain ⟨j, q, hj, rfl, hw⟩ := hrel
    have hE : Ext w wr := by rw [hw]; exact (Ext.refl w).drewN q
    have hK : Kept w wr ss := (Kept.refl w ss).ext hE
    have Hw := Lib.hid hw
    clear hw
    by_cases hlt : j < n
    · obtain ⟨b, o, s, rfl, hf, h1⟩ := (hx.kept hK hfx).at_ hlt
      obtain ⟨b', o', t, rfl, hg, g1⟩ := (hy.kept hK hfy).at_ hlt
      have hbb := hpair j s t hf hg
      have h3 := ((hs s (List.mem_of_getElem? hf)).rd).ext hE
      have g3 := (ht t (List.mem_of_getElem? hg)).ext hE
      have hbf := hl s (List.mem_of_getElem? hf)
      rw [hbb] at g1 g3
      obtain ⟨sA, sc, body⟩ := s
      obtain ⟨tA, tc, tbody⟩ := t
      simp only at h1 h3 g1 g3 hbf
      clear hbb hf hg
      have hji : (j : Int) < (n : Int) := by omega
      have hbf2 : body.length ≤ 281474976710656 := by omega
      go_wp2_with fail
      go_quiet ((go_at_call 43; exact Calls.quiet_of (same_yes (h3.drewN _) (g3.drewN _) hbf2)))
      go_wp2
      go_roundw
      case rel => exact ⟨j + 1, _, by omega, by go_num, by rw [Hw.out, World.drewN_drewN]⟩
      case measure => simp [intOf]; omega
    · obtain rfl : j = n := by omega
      have h0 : St2 wr ss 0 := fun j s h => ⟨fun h2 => absurd h2 (by omega), fun _ => (hs s (List.mem_of_getElem? h)).ext hE⟩
      clear Hw hE q
      go_wp2
      go_loopw [6] (fun i wx => ∃ i2 : Nat, i2 ≤ j ∧ i = .int .i64 i2 ∧ Kept w wx ss ∧ St2 wx ss i2) (fun i _ => j - (intOf i).toNat)
      case atStart => exact ⟨0, Nat.zero_le _, rfl, hK, h0⟩
      case round =>
        clear h0 hK
        obtain ⟨i2, hi2, rfl, hK, hS⟩ := hrel
        by_cases hlt2 : i2 < j
        · obtain ⟨b, o, s, rfl, hf, h1⟩ := (hx.kept hK hfx).at_ hlt2
          have hm := List.mem_of_getElem? hf
          have ho := (hS i2 s hf).2 (Nat.le_refl _)
          have hbf := hl s hm
          have hus := hu s hm
          have HK := Lib.hid hK
          have HS := Lib.hid hS
          have Hf := Lib.hid hf
          clear hK hS hf
          go_wp2_with fail
          refine (spoil_any _ _ _ 0 _ _ ho rfl hus (by omega)).mono ?_
          rintro e w3 ⟨rfl, ho3, hg3⟩
          go_wp2
          go_roundw
          case rel => exact ⟨i2 + 1, by omega, by go_num, HK.out.grown hg3 (fun g hg => by
            cases hA : s.A with
            | none => rw [hA] at hg; simp at hg
            | some p => rw [hA] at hg; simp at hg; exact .inr ⟨s, hm, p, hA, hg⟩), HS.out.step hun Hf.out ho3 hg3⟩
          case measure => simp [intOf]; omega
        · obtain rfl : i2 = j := by omega
          have h0 := hS.all Hl.out
          clear hS
          go_wp2
          go_loopw [7, 8] (fun v i wx => ∃ i3 m : Nat, i3 ≤ i2 ∧ i = .int .i64 i3 ∧ v = .int .i64 m ∧ m ≤ i3 * 2097152 ∧ Kept w wx ss ∧ St3 wx ss i3) (fun _ i _ => i2 - (intOf i).toNat)
          case atStart => exact ⟨0, 0, Nat.zero_le _, rfl, rfl, by omega, hK, h0⟩
          case round =>
            clear h0 hK
            obtain ⟨i3, m, hi3, rfl, rfl, hmm, hK, hS⟩ := hrel
            by_cases hlt3 : i3 < i2
            · obtain ⟨b, o, s, rfl, hf, h1⟩ := (hx.kept hK hfx).at_ hlt3
              have hm := List.mem_of_getElem? hf
              have hbf := hl s hm
              have h4 : St4 w wr ss i3 s s.A s.c 0 (s.body.map spl) := ⟨(hS i3 s hf).2 (Nat.le_refl _), by simp, by rw [List.take_of_length_le (by simp)], fun p hp => .inl hp, hS.next, hK⟩
              have Hf := Lib.hid hf
              clear hK hS hf
              go_wp2
              go_loopw [9, 10] (fun v i wx => ∃ (k : Nat) (A1 : Option Addr) (c1 : Nat) (ys : List Nat), k ≤ 70 ∧ i = .int .i64 k ∧ v = .slice A1 (s.body.length + k : Nat) c1 ∧ St4 w wx ss i3 s A1 c1 k ys) (fun _ i _ => 70 - (intOf i).toNat)
              case atStart => exact ⟨0, _, _, _, Nat.zero_le _, rfl, rfl, h4⟩
              case round =>
                clear h4
                obtain ⟨k, A1, c1, ys, hk, rfl, rfl, h4⟩ := hrel
                by_cases hlt4 : k < 70
                · have hmod := mod256' (k := k) (i := i3)
                  have Hown := Lib.hid h4.own
                  have Hlen := Lib.hid h4.len
                  have H4 := Lib.hid h4
                  clear h4
                  go_wp2_with (at_builtin; refine wpList_push2 .u8 ((k + i3) % 256) 5 rfl _ _ 52 rfl _ 1 Try.underlying52 Try.infoU8 rfl Hown.out (s.body.length + k) Hlen.out rfl rfl (by first | rfl | exact hmod | omega | go_num) (by omega) (by omega) (Nat.zero_le _) ?_; intro A2 c2 w5 hown5 hw5 hz5)
                  have Hn := Lib.hid (H4.out.push hun Hf.out hblt hown5 hw5)
                  clear hown5 hw5 hz5
                  go_wp2
                  go_roundw
                  case rel => exact ⟨k + 1, A2, c2, _, by omega, by go_num, rfl, Hn.out⟩
                  case measure => simp [intOf]; omega
                · obtain rfl : k = 70 := by omega
                  have hS := h4.rest
                  have hK := h4.kept
                  clear h4
                  go_wp2
                  go_roundw
                  case rel => exact ⟨i3 + 1, m + (s.body.length + 70), by omega, by go_num, by go_num, by omega, hK, hS⟩
                  case measure => simp [intOf]; omega
            · obtain rfl : i3 = i2 := by omega
              obtain ⟨W3, hW3⟩ : ∃ W3, W3 = wr := ⟨_, rfl⟩
              rw [← hW3] at hK hS
              have HK := Lib.hid hK
              have HS := Lib.hid hS
              clear hK hS
              go_wp2
              go_loopw [11] (fun i wx => ∃ i4 q : Nat, i4 ≤ i3 ∧ i = .int .i64 i4 ∧ wx = W3.drewN q) (fun i _ => i3 - (intOf i).toNat)
              case atStart => exact ⟨0, 0, Nat.zero_le _, rfl, hW3.symm⟩
              case round =>
                obtain ⟨i4, q, hi4, rfl, hw⟩ := hrel
                have hE : Ext W3 wr := by rw [hw]; exact (Ext.refl _).drewN q
                have hK : Kept w wr ss := HK.out.ext hE
                have Hw := Lib.hid hw
                clear hw
                by_cases hlt4 : i4 < i3
                · obtain ⟨b, o, s, rfl, hf, h1⟩ := (hx.kept hK hfx).at_ hlt4
                  obtain ⟨b', o', t, rfl, hg, g1⟩ := (hy.kept hK hfy).at_ hlt4
                  have hbb := hpair i4 s t hf hg
                  have hmt := List.mem_of_getElem? hg
                  have h3 := (HS.out i4 s hf).1.ext hE
                  have g3 := (ht t hmt).kept hK (hft t hmt)
                  have hbf := hl s (List.mem_of_getElem? hf)
                  have hus := hu s (List.mem_of_getElem? hf)
                  rw [hbb] at g1 g3
                  obtain ⟨sA, sc, body⟩ := s
                  obtain ⟨tA, tc, tbody⟩ := t
                  simp only at h1 h3 g1 g3 hbf hus
                  clear hbb hf hg hmt hK
                  have hji : (i4 : Int) < (i3 : Int) := by omega
                  have hbf2 : body.length ≤ 281474976710656 := by omega
                  go_wp2_with fail
                  go_quiet ((go_at_call 87; exact Calls.quiet_of (turned_yes (h3.drewN _) (g3.drewN _) hus hbf2)))
                  go_wp2
                  go_roundw
                  case rel => exact ⟨i4 + 1, _, by omega, by go_num, by rw [Hw.out, World.drewN_drewN]⟩
                  case measure => simp [intOf]; omega
                · obtain rfl : i4 = i3 := by omega
                  go_wp2
                  go_ret
                  exact ⟨by simp, hK⟩

/-- The bodies lie between these two sizes of the memory. -/
def Within (ss : List Sl) (lo hi : Nat) : Prop := ∀ s ∈ ss, ∀ p, s.A = some p → lo ≤ p.block ∧ p.block < hi

theorem Within.far_hi {ss : List Sl} {lo hi : Nat} (h : Within ss lo hi) {A : Option Addr} (hA : ∀ a, A = some a → hi ≤ a.block) : Far ss A := by
  intro s hs p q hp hq
  have h1 := h s hs p hp
  have h2 := hA q hq
  omega
theorem Within.far_lo {ss : List Sl} {lo hi : Nat} (h : Within ss lo hi) {A : Option Addr} (hA : ∀ a, A = some a → a.block < lo) : Far ss A := by
  intro s hs p q hp hq
  have h1 := h s hs p hp
  have h2 := hA q hq
  omega

theorem Kept.toExt {w w0 wr : World} {ss : List Sl} (h : Kept w wr ss) (he : Ext w0 w) (hs : ∀ s ∈ ss, ∀ p, s.A = some p → w0.heap.size ≤ p.block) : Ext w0 wr :=
  ⟨h.os.trans he.os, h.tape.trans he.tape, h.output.trans he.output, Nat.le_trans he.size h.size, fun b hb => (h.block b (Nat.lt_of_lt_of_le hb he.size) (fun s hs' p hp e => by have := hs s hs' p hp; omega)).trans (he.block b hb)⟩

end Go.Proofs.Ytkmnhapeohlooaa

/-
  Texts as they are handed in.
-/
namespace Go.Proofs.Ytkmnhapeohlooaa
open Go.RowKit

/-- A slice that lies in w as it may be handed in. -/
structure TxI (w : World) (s : Sl) : Prop where
  rd : Rd .u8 w s.A s.body.length s.body
  u8 : U8 s.body
  cap : s.body.length ≤ s.c
  top : s.c ≤ 9223372036854775807
  len : s.body.length ≤ 140737488355328

theorem TxI.ext {w w' : World} {s : Sl} (h : TxI w s) (he : Ext w w') : TxI w' s := ⟨h.rd.ext he, h.u8, h.cap, h.top, h.len⟩
theorem RdL.ext {w w' : World} {A : Option Addr} {n : Nat} {ss : List Sl} (h : RdL w A n ss) (he : Ext w w') : RdL w' A n ss := h.kept ((Kept.refl w []).ext he) (fun _ => by intro s hs; cases hs)

/-- The slice of slices (A, n) holds the texts ss. -/
structure TxL (w : World) (A : Option Addr) (n : Nat) (ss : List Sl) : Prop where
  rd : RdL w A n ss
  each : ∀ s ∈ ss, TxI w s

theorem TxL.ext {w w' : World} {A : Option Addr} {n : Nat} {ss : List Sl} (h : TxL w A n ss) (he : Ext w w') : TxL w' A n ss := ⟨h.rd.ext he, fun s hs => (h.each s hs).ext he⟩
theorem TxL.len {w : World} {A : Option Addr} {n : Nat} {ss : List Sl} (h : TxL w A n ss) : ss.length = n := h.rd.1
theorem TxL.at_ {w : World} {A : Option Addr} {n : Nat} {ss : List Sl} (h : TxL w A n ss) {j : Nat} (hj : j < n) :
    ∃ b o s, A = some ⟨b, o, none⟩ ∧ ss[j]? = some s ∧ w.cell? ⟨b, o + j, none⟩ = some (.slice s.A s.body.length s.c) ∧ TxI w s := by
  obtain ⟨b, o, s, e, h1, h2⟩ := h.rd.at_ hj
  exact ⟨b, o, s, e, h1, h2, h.each s (List.mem_of_getElem? h1)⟩

/-- The texts themselves. -/
def bodies (ss : List Sl) : List (List Nat) := ss.map Sl.body
theorem bodies_len (ss : List Sl) : (bodies ss).length = ss.length := List.length_map ..
theorem bodies_at {ss : List Sl} {j : Nat} {s : Sl} (h : ss[j]? = some s) : (bodies ss)[j]? = some s.body := by unfold bodies; rw [List.getElem?_map, h]; rfl
theorem bodies_get {ss : List Sl} {j : Nat} {s : Sl} (h : ss[j]? = some s) : (bodies ss).getD j [] = s.body := by unfold List.getD; rw [bodies_at h]; rfl
theorem bodies_take (ss : List Sl) (j : Nat) : bodies (ss.take j) = (bodies ss).take j := List.map_take ..

end Go.Proofs.Ytkmnhapeohlooaa

/-
  Rows whose elements are of any kind, one cell or several each: read, and of the call's own.
-/
namespace Go.Proofs.Ytkmnhapeohlooaa
open Go.RowKit

/-- A kind of element: its cells, as many for each. -/
structure Shape (T : Type) where
  cells : T → List Value
  sz : Nat
  len : ∀ x, (cells x).length = sz
  one : ∀ x, ∀ u ∈ cells x, u.oneCell' = true

section
variable {T : Type} {s : Shape T}

def Shape.all (s : Shape T) (xs : List T) : List Value := (xs.map s.cells).flatten
theorem Shape.all_nil : s.all [] = [] := rfl
theorem Shape.all_cons (x : T) (xs : List T) : s.all (x :: xs) = s.cells x ++ s.all xs := by simp [Shape.all]
theorem Shape.all_snoc (xs : List T) (x : T) : s.all (xs ++ [x]) = s.all xs ++ s.cells x := by simp [Shape.all]
theorem Shape.all_len (xs : List T) : (s.all xs).length = xs.length * s.sz := by
  induction xs with
  | nil => simp [Shape.all]
  | cons x r ih => rw [Shape.all_cons, List.length_append, ih, s.len, List.length_cons, Nat.succ_mul]; omega
theorem Shape.all_at : ∀ {xs : List T} {j i : Nat} {x : T} {u : Value}, xs[j]? = some x → (s.cells x)[i]? = some u → (s.all xs)[j * s.sz + i]? = some u := by
  intro xs
  induction xs with
  | nil => intro j i x u h; simp at h
  | cons y r ih =>
    intro j i x u h k
    have hi : i < s.sz := by have := (List.getElem?_eq_some_iff.1 k).1; rw [s.len] at this; exact this
    cases j with
    | zero =>
      simp at h; subst h
      rw [Shape.all_cons, Nat.zero_mul, Nat.zero_add, List.getElem?_append_left (by rw [s.len]; exact hi)]
      exact k
    | succ j =>
      have h2 : r[j]? = some x := by simpa using h
      rw [Shape.all_cons, List.getElem?_append_right (by rw [s.len, Nat.succ_mul]; omega), s.len, show (j + 1) * s.sz + i - s.sz = j * s.sz + i from by rw [Nat.succ_mul]; omega]
      exact ih h2 k
/-- One element set anew: the cell at place i of element j. -/
theorem Shape.all_set : ∀ {xs : List T} {j i : Nat} {x y : T} {u : Value}, xs[j]? = some x → i < s.sz → s.cells y = (s.cells x).set i u → s.all (xs.set j y) = (s.all xs).set (j * s.sz + i) u := by
  intro xs
  induction xs with
  | nil => intro j i x y u h; simp at h
  | cons z r ih =>
    intro j i x y u h hi k
    cases j with
    | zero =>
      simp at h; subst h
      rw [List.set_cons_zero, Shape.all_cons, Shape.all_cons, k, Nat.zero_mul, Nat.zero_add, List.set_append_left _ _ (by rw [s.len]; exact hi)]
    | succ j =>
      have h2 : r[j]? = some x := by simpa using h
      rw [List.set_cons_succ, Shape.all_cons, Shape.all_cons, ih h2 hi k, List.set_append_right _ _ (by rw [s.len, Nat.succ_mul]; omega), s.len, show (j + 1) * s.sz + i - s.sz = j * s.sz + i from by rw [Nat.succ_mul]; omega]

/-- The slice (A, n) reads, in w, as xs. -/
def RdG (s : Shape T) (w : World) (A : Option Addr) (n : Nat) (xs : List T) : Prop :=
  xs.length = n ∧ (0 < n → ∃ b o, A = some ⟨b, o, none⟩ ∧ b < w.heap.size ∧ ∀ j x, xs[j]? = some x → ∀ i u, (s.cells x)[i]? = some u → w.cell? ⟨b, o + j * s.sz + i, none⟩ = some u)

variable {w w' : World} {A : Option Addr} {n : Nat} {xs : List T}

theorem RdG.len (h : RdG s w A n xs) : xs.length = n := h.1
theorem RdG.nil (s : Shape T) (w : World) (A : Option Addr) : RdG s w A 0 [] := ⟨rfl, fun h => absurd h (by omega)⟩
theorem RdG.ext (h : RdG s w A n xs) (hb : Ext w w') : RdG s w' A n xs :=
  ⟨h.1, fun hn => by
    obtain ⟨b, o, e, hlt, hc⟩ := h.2 hn
    exact ⟨b, o, e, Nat.lt_of_lt_of_le hlt hb.size, fun j x hj i u hu => (Below.cell hb (p := ⟨b, o + j * s.sz + i, none⟩) hlt).trans (hc j x hj i u hu)⟩⟩
theorem RdG.drewN (h : RdG s w A n xs) (q : Nat) : RdG s (w.drewN q) A n xs := h
theorem RdG.lt (h : RdG s w A n xs) (hn : 0 < n) : ∀ a, A = some a → a.block < w.heap.size := by
  obtain ⟨b, o, rfl, hb, _⟩ := h.2 hn
  intro a ha
  injection ha with ha
  subst ha
  exact hb
theorem RdG.grown (h : RdG s w A n xs) {row : Option Nat} (hg : w.grownBy w' row) (hne : 0 < n → ∀ a, A = some a → some a.block ≠ row) : RdG s w' A n xs :=
  ⟨h.1, fun hn => by
    obtain ⟨b, o, e, hlt, hc⟩ := h.2 hn
    exact ⟨b, o, e, Nat.lt_of_lt_of_le hlt hg.size, fun j x hj i u hu => (World.cell?_of_block (w := w) (a := ⟨b, o + j * s.sz + i, none⟩) (hg.block b hlt (hne hn _ e))).trans (hc j x hj i u hu)⟩⟩
theorem RdG.at_ (h : RdG s w A n xs) {j : Nat} (hj : j < n) :
    ∃ b o x, A = some ⟨b, o, none⟩ ∧ b < w.heap.size ∧ xs[j]? = some x ∧ ∀ i u, (s.cells x)[i]? = some u → w.cell? ⟨b, o + j * s.sz + i, none⟩ = some u := by
  obtain ⟨b, o, e, hlt, hc⟩ := h.2 (by omega)
  have hjl : j < xs.length := by rw [h.1]; exact hj
  have hf : xs[j]? = some xs[j] := List.getElem?_eq_getElem hjl
  exact ⟨b, o, _, e, hlt, hf, hc j _ hf⟩

/-- A row of the call's own, from block base on. -/
def OwnG (s : Shape T) (e : TypeId) (w : World) (base : Nat) (A : Option Addr) (c : Nat) (xs : List T) : Prop := w.ownsRow base e s.sz (.slice A xs.length c) xs.length (s.all xs)

variable {e : TypeId} {base c : Nat}

theorem OwnG.nil (s : Shape T) (e : TypeId) (w : World) (base : Nat) : OwnG s e w base none 0 [] := World.ownsRow_nil w base e s.sz
theorem OwnG.made (s : Shape T) (e : TypeId) (w : World) (hb : base ≤ w.heap.size) : OwnG s e (w.alloc (.cells #[] e)) base (some ⟨w.heap.size, 0, none⟩) 0 [] :=
  World.ownsRow_made w #[] 0 hb (by simp [maxLen]) (by simp)
theorem OwnG.ext (h : OwnG s e w base A c xs) (hb : Ext w w') : OwnG s e w' base A c xs := by
  refine World.ownsRow.kept (row := none) h ⟨hb.os, hb.tape, hb.output, hb.size, fun i hi _ => hb.block i hi⟩ ?_
  cases hv : (Value.slice A xs.length c).ownBlock <;> simp
theorem OwnG.grown (h : OwnG s e w base A c xs) {row : Option Nat} (hg : w.grownBy w' row) (hne : ∀ a, A = some a → some a.block ≠ row) : OwnG s e w' base A c xs := by
  refine World.ownsRow.kept h hg ?_
  cases A with
  | none => exact Or.inl rfl
  | some a => exact Or.inr (hne a rfl)
theorem OwnG.mono (h : OwnG s e w base A c xs) {base' : Nat} (hb : base' ≤ base) : OwnG s e w base' A c xs := by
  refine ⟨h.1, ?_⟩
  rcases h.2 with hn | ⟨g, cap, cur, hv, hg, r⟩
  · exact Or.inl hn
  · exact Or.inr ⟨g, cap, cur, hv, Nat.le_trans hb hg, r⟩
theorem OwnG.block (h : OwnG s e w base A c xs) : ∀ a, A = some a → base ≤ a.block ∧ a.block < w.heap.size := by
  rintro a rfl
  exact h.lt a.block rfl

/-- A place of an owned row: its cells, that it may be written, and what the row is behind a store. -/
theorem OwnG.at_ (h : OwnG s e w base A c xs) {j : Nat} (hj : j < xs.length) :
    ∃ b x, A = some ⟨b, 0, none⟩ ∧ base ≤ b ∧ b < w.heap.size ∧ xs[j]? = some x ∧ (∀ i u, (s.cells x)[i]? = some u → w.cell? ⟨b, j * s.sz + i, none⟩ = some u) ∧ (∀ i, w.frozen? ⟨b, i, none⟩ = false) ∧
      ∀ i y u, i < s.sz → s.cells y = (s.cells x).set i u → OwnG s e (w.setCell ⟨b, j * s.sz + i, none⟩ u) base A c (xs.set j y) ∧ w.grownBy (w.setCell ⟨b, j * s.sz + i, none⟩ u) (some b) := by
  have h0 := h
  have hf : xs[j]? = some xs[j] := List.getElem?_eq_getElem hj
  rcases h.2 with ⟨_, hn⟩ | ⟨g, cap, cur, hv, hg, hh, _⟩
  · omega
  · injection hv with hA hl hc
    subst hA
    subst hc
    have hlt : g < w.heap.size := (Array.getElem?_eq_some_iff.1 hh).1
    refine ⟨g, xs[j], rfl, hg, hlt, hf, fun i u hu => ?_, fun i => World.ownsRow.frozenAt h0 i, fun i y u hi hy => ?_⟩
    · have hi : i < s.sz := by have := (List.getElem?_eq_some_iff.1 hu).1; rw [s.len] at this; exact this
      rw [World.ownsRow.cellAt h0 (j * s.sz + i) ?_]
      · exact Shape.all_at hf hu
      · have : (j + 1) * s.sz ≤ xs.length * s.sz := Nat.mul_le_mul_right _ hj
        rw [Nat.succ_mul] at this
        omega
    · obtain ⟨h1, h2⟩ := World.ownsRow.stored h0 (j * s.sz + i) u
      refine ⟨?_, h2⟩
      unfold OwnG
      rw [List.length_set, Shape.all_set hf hi hy]
      exact h1

theorem OwnG.cap (h : OwnG s e w base A c xs) : xs.length ≤ c ∧ c ≤ 9223372036854775807 := by
  rcases h.2 with ⟨hv, h0⟩ | ⟨g, cap, cur, hv, hg, hh, hnc, hcm, _⟩
  · injection hv with hA hl hc
    omega
  · injection hv with hA hl hc
    subst hc
    exact ⟨hnc, by simpa [maxLen] using hcm⟩

theorem OwnG.rd (h : OwnG s e w base A c xs) : RdG s w A xs.length xs := by
  refine ⟨rfl, fun hn => ?_⟩
  obtain ⟨b, x0, hA, _, hlt, _⟩ := h.at_ hn
  refine ⟨b, 0, hA, hlt, fun j x hj i u hu => ?_⟩
  obtain ⟨b', x', hA', _, _, hx', hc, _⟩ := h.at_ (List.getElem?_eq_some_iff.1 hj).1
  rw [hA] at hA'
  injection hA' with hA'
  injection hA' with hb
  subst hb
  rw [hj] at hx'
  injection hx' with hx'
  subst hx'
  rw [Nat.zero_add]
  exact hc i u hu
theorem OwnG.rd' (h : OwnG s e w base A c xs) {n : Nat} (hn : xs.length = n) : RdG s w A n xs := hn ▸ h.rd
theorem OwnG.head (h : OwnG s e w base A c xs) (hn : 0 < xs.length) : ∃ b, A = some ⟨b, 0, none⟩ := by
  obtain ⟨b, _, hb, _⟩ := h.at_ hn
  exact ⟨b, hb⟩

/-- 'append(out, x)', x one element that lies at the head of a block. -/
theorem wpList_pushG {P : Program} {w0 w : World} {ops : Array Oper} {rest : List Oper} {o : Oper} {a : Act} {Q : Exit → Act → World → Prop} (s : Shape T) (x : T) (e : TypeId) (hgd : o.guard = none) (v y : Operand) (t : TypeId)
    (ho : o.op = .call { callee := .builtin .append, args := #[v, y], argTypes := #[t, t] })
    (z : Value) (bytes : Nat) (ht : P.underlying t = some (.slice e)) (hi : (P.info? e).map (fun i => (i.zero, i.size, i.bytes)) = some (some z, s.sz, bytes)) (hzs : z.cells.size = s.sz) (hs0 : 0 < s.sz)
    {base : Nat} {A : Option Addr} {c : Nat} {xs : List T} (hown : OwnG s e w base A c xs) (n : Nat) (hn : xs.length = n) (hs : a.eval v = .slice A n c)
    {g : Nat} {e' : TypeId} (hy : a.eval y = .slice (some ⟨g, 0, none⟩) 1 1) (hg : w.heap[g]? = some (.cells (s.cells x).toArray e'))
    (hlen : ((n + 1) + (n + 1) / 4 + 192) * bytes ≤ 281474976710656) (hby : 0 < bytes) (hb : Below base w0 w) (hbase : base ≤ w.heap.size)
    (h : ∀ A' c' w', OwnG s e w' base A' c' (xs ++ [x]) → w.grownBy w' (Value.slice A n c).ownBlock → Below base w0 w' → base ≤ w'.heap.size → wpList P ops Q rest (a.put o.dst (.slice A' (n + 1) c')) w') :
    wpList P ops Q (o :: rest) a w := by
  subst hn
  obtain ⟨i, hi0, hz, hsz, hbs⟩ := info_parts hi
  have hle : xs.length + 1 ≤ 281474976710656 := Nat.le_trans (Nat.le_trans (by omega) (Nat.le_mul_of_pos_right ((xs.length + 1) + (xs.length + 1) / 4 + 192) hby)) hlen
  refine wpList_append_own_wide _ hgd v y t ho base e i z s.sz bytes ht hi0 hz hsz hbs hzs hs0 _ xs.length (s.all xs) hs hown
    ⟨g, 0, none⟩ 1 1 (s.cells x) hy (by rw [s.len, Nat.one_mul]) ?_ (s.one x) (by unfold maxLen; omega) hlen hbase ?_
  · intro j u hj
    rw [show (⟨g, 0, none⟩ : Addr).add j = ⟨g, j, none⟩ from by unfold Addr.add; split <;> simp_all]
    rw [cell_of_row w g j _ _ (0, 0) hg, ← hj]
    simp
  · intro v' w' hown' hgr _
    have hform : ∃ A' c', v' = .slice A' (xs.length + 1) c' := by
      rcases hown'.2 with ⟨_, h0⟩ | ⟨g, cap, cur, hv, _⟩
      · omega
      · exact ⟨_, _, hv⟩
    obtain ⟨A', c', rfl⟩ := hform
    have hb' : Below base w0 w' := Below.grown hb hgr hbase (fun g hg' => (hown.lt g hg').1)
    refine h A' c' w' ?_ hgr hb' ?_
    · unfold OwnG
      rw [List.length_append, Shape.all_snoc]
      exact hown'
    · have := hgr.size
      omega

/-- Elements that the call has just written out, in a block of its own. -/
theorem RdG.lit (s : Shape T) (e : TypeId) (w : World) (xs : List T) {b n : Nat} (hb : w.heap.size = b) (hn : xs.length = n) : RdG s (w.alloc (.cells (s.all xs).toArray e)) (some ⟨b, 0, none⟩) n xs := by
  subst hb
  subst hn
  refine ⟨rfl, fun hn => ⟨w.heap.size, 0, rfl, by simp, fun j x hj i u hu => ?_⟩⟩
  rw [cell_of_row _ w.heap.size _ _ e (0, 0) (heap_alloc_new w _), Nat.zero_add]
  simpa using Shape.all_at hj hu
end

/-- Numbers with a sign, 64 bits each. -/
def shZ : Shape Int := ⟨fun x => [.int .i64 x], 1, fun _ => rfl, by intro x u hu; simp at hu; subst hu; rfl⟩
/-- Two numbers with a sign: a run's value and its count. -/
def shR : Shape (Int × Int) := ⟨fun x => [.int .i64 x.1, .int .i64 x.2], 2, fun _ => rfl, by intro x u hu; simp at hu; rcases hu with rfl | rfl <;> rfl⟩

theorem shZ.all (xs : List Int) : shZ.all xs = xs.map (Value.int .i64) := by
  induction xs with
  | nil => rfl
  | cons x r ih => rw [Shape.all_cons, ih]; rfl

theorem RdG.atZ {w : World} {A : Option Addr} {n : Nat} {xs : List Int} (h : RdG shZ w A n xs) {j : Nat} (hj : j < n) :
    ∃ b o, A = some ⟨b, o, none⟩ ∧ b < w.heap.size ∧ w.cell? ⟨b, o + j, none⟩ = some (.int .i64 (xs.getD j 0)) := by
  obtain ⟨b, o, x, e, hb, hx, hc⟩ := h.at_ hj
  refine ⟨b, o, e, hb, ?_⟩
  have h1 := hc 0 (.int .i64 x) rfl
  rw [show o + j * shZ.sz + 0 = o + j from by show o + j * 1 + 0 = o + j; omega] at h1
  rw [h1, List.getD, hx]
  rfl
theorem RdG.atR {w : World} {A : Option Addr} {n : Nat} {xs : List (Int × Int)} (h : RdG shR w A n xs) {j : Nat} (hj : j < n) :
    ∃ b o, A = some ⟨b, o, none⟩ ∧ b < w.heap.size ∧ w.cell? ⟨b, o + j * 2, none⟩ = some (.int .i64 (xs.getD j (0, 0)).1) ∧ w.cell? ⟨b, o + j * 2 + 1, none⟩ = some (.int .i64 (xs.getD j (0, 0)).2) := by
  obtain ⟨b, o, x, e, hb, hx, hc⟩ := h.at_ hj
  refine ⟨b, o, e, hb, ?_, ?_⟩
  · have h1 := hc 0 (.int .i64 x.1) rfl
    rw [show o + j * shR.sz + 0 = o + j * 2 from rfl] at h1
    rw [h1, List.getD, hx]
    rfl
  · have h1 := hc 1 (.int .i64 x.2) rfl
    rw [show o + j * shR.sz + 1 = o + j * 2 + 1 from rfl] at h1
    rw [h1, List.getD, hx]
    rfl

theorem take_nextG {T : Type} (xs : List T) (j : Nat) {x : T} (h : xs[j]? = some x) : xs.take (j + 1) = xs.take j ++ [x] := by
  obtain ⟨h1, rfl⟩ := List.getElem?_eq_some_iff.1 h
  rw [List.take_succ_eq_append_getElem h1]

end Go.Proofs.Ytkmnhapeohlooaa

/-
  Lists of texts of the call's own.
-/
namespace Go.Proofs.Ytkmnhapeohlooaa
open Go.RowKit

/-- Slices of bytes as elements. -/
def shS : Shape Sl := ⟨fun s => [s.v], 1, fun _ => rfl, by intro x u hu; simp at hu; subst hu; rfl⟩

abbrev OwnT (w : World) (base : Nat) (A : Option Addr) (c : Nat) (ts : List Sl) : Prop := OwnG shS 52 w base A c ts

theorem RdG.rdL {w : World} {A : Option Addr} {n : Nat} {ts : List Sl} (h : RdG shS w A n ts) : RdL w A n ts :=
  ⟨h.1, fun hn => by
    obtain ⟨b, o, e, hb, hc⟩ := h.2 hn
    refine ⟨b, o, e, hb, fun j s hj => ?_⟩
    have := hc j s hj 0 s.v rfl
    rw [show o + j * shS.sz + 0 = o + j from by show o + j * 1 + 0 = o + j; omega] at this
    exact this⟩
theorem OwnG.rdL {w : World} {base c : Nat} {A : Option Addr} {ts : List Sl} (h : OwnT w base A c ts) : RdL w A ts.length ts := h.rd.rdL

/-- Rows of unlike elements lie in unlike blocks. -/
theorem own_neT {w : World} {base base' c c' : Nat} {A A' : Option Addr} {ts : List Sl} {xs : List Nat} (h : OwnT w base A c ts) (k : Own .u8 5 w base' A' c' xs) : ∀ a, A' = some a → some a.block ≠ (Value.slice A ts.length c).ownBlock := by
  rintro a rfl e
  rcases h.2 with ⟨hv, _⟩ | ⟨g, cap, cur, hv, hg, hh, _⟩
  · rw [hv] at e; simp [Value.ownBlock] at e
  · rw [hv] at e
    simp [Value.ownBlock] at e
    rcases k.2 with ⟨hv', _⟩ | ⟨g', cap', cur', hv', _, hh', _⟩
    · cases hv'
    · injection hv' with hA
      injection hA with hA
      subst hA
      simp at e
      subst e
      rw [hh] at hh'
      injection hh' with hh'
      injection hh' with h1 h2 h3
      exact absurd h2 (by decide)

/-- Texts of the call's own, from block base on, each in a block of its own. -/
structure Txts (w : World) (base : Nat) (ts : List Sl) : Prop where
  own : ∀ s ∈ ts, Own .u8 5 w base s.A s.c s.body
  apart : ts.Pairwise fun s t => ∀ p q, s.A = some p → t.A = some q → p.block < q.block

variable {w w' : World} {base c : Nat} {A : Option Addr} {ts : List Sl}

theorem Txts.nil (w : World) (base : Nat) : Txts w base [] := ⟨fun s hs => (by cases hs), List.Pairwise.nil⟩
theorem Txts.ext (h : Txts w base ts) (he : Ext w w') : Txts w' base ts := ⟨fun s hs => (h.own s hs).ext he, h.apart⟩
theorem Txts.grown (h : Txts w base ts) {base' : Nat} {us : List Sl} (k : OwnT w base' A c us) (hg : w.grownBy w' (Value.slice A us.length c).ownBlock) : Txts w' base ts :=
  ⟨fun s hs => (h.own s hs).grown hg (own_neT k (h.own s hs)), h.apart⟩
theorem Txts.snoc (h : Txts w base ts) {s : Sl} {base' : Nat} (hs : Own .u8 5 w base' s.A s.c s.body) (hb : base ≤ base') (hl : ∀ t ∈ ts, ∀ p, t.A = some p → p.block < base') : Txts w base (ts ++ [s]) := by
  refine ⟨fun t ht => ?_, ?_⟩
  · rcases List.mem_append.1 ht with h1 | h1
    · exact h.own t h1
    · simp at h1; subst h1; exact hs.mono hb
  · rw [List.pairwise_append]
    refine ⟨h.apart, by simp, fun t ht f' hf' p q hp hq => ?_⟩
    simp at hf'
    subst hf'
    exact Nat.lt_of_lt_of_le (hl t ht p hp) (hs.block q hq).1
theorem Txts.lt (h : Txts w base ts) : ∀ t ∈ ts, ∀ p, t.A = some p → p.block < w.heap.size := fun t ht p hp => ((h.own t ht).block p hp).2
theorem Txts.unlike (h : Txts w base ts) : Unlike ts := by
  have hp := List.pairwise_iff_getElem.1 h.apart
  intro i j s t hi hj hne p q hA hB e
  obtain ⟨hi', rfl⟩ := List.getElem?_eq_some_iff.1 hi
  obtain ⟨hj', rfl⟩ := List.getElem?_eq_some_iff.1 hj
  rcases Nat.lt_or_gt_of_ne hne with hl | hl
  · have := hp i j hi' hj' hl p q hA hB; omega
  · have := hp j i hj' hi' hl q p hB hA; omega
theorem Txts.far (h : Txts w base ts) {base' : Nat} {us : List Sl} (k : OwnT w base' A c us) : Far ts A := by
  intro s hs p q hp hq e
  have := own_neT k (h.own s hs) p hp
  subst hq
  simp [Value.ownBlock] at this
  rcases k.2 with ⟨hv, _⟩ | ⟨g, cap, cur, hv, _⟩
  · cases hv
  · injection hv with hA
    injection hA with hA
    subst hA
    exact this e
theorem Txts.own0 (h : Txts w base ts) : ∀ s ∈ ts, Own .u8 5 w 0 s.A s.c s.body := fun s hs => (h.own s hs).zero
theorem Txts.rd (h : Txts w base ts) : ∀ s ∈ ts, Rd .u8 w s.A s.body.length s.body := fun s hs => (h.own s hs).rd

/-- 'append(out, s)'. -/
theorem wpList_pushT {w0 w : World} {ops : Array Oper} {rest : List Oper} {o : Oper} {a : Act} {Q : Exit → Act → World → Prop} (f : Sl) (hgd : o.guard = none) (s y : Operand)
    (ho : o.op = .call { callee := .builtin .append, args := #[s, y], argTypes := #[49, 49] })
    {base : Nat} {A : Option Addr} {c : Nat} {ss : List Sl} (hown : OwnT w base A c ss) (n : Nat) (hn : ss.length = n) (hs : a.eval s = .slice A n c)
    {g : Nat} (hy : a.eval y = .slice (some ⟨g, 0, none⟩) 1 1) (hg : w.heap[g]? = some (.cells #[.slice f.A f.body.length f.c] 52))
    (hlen : n ≤ 6000000000000) (hb : Below base w0 w) (hbase : base ≤ w.heap.size)
    (h : ∀ A' c' w', OwnT w' base A' c' (ss ++ [f]) → w.grownBy w' (Value.slice A n c).ownBlock → Below base w0 w' → base ≤ w'.heap.size → wpList Try.prog ops Q rest (a.put o.dst (.slice A' (n + 1) c')) w') :
    wpList Try.prog ops Q (o :: rest) a w :=
  wpList_pushG shS f 52 hgd s y 49 ho _ 24 Try.underlying49 Try.infoS rfl (by decide) hown n hn hs hy hg (by omega) (by omega) hb hbase h

/-- What leaves a list of texts and an error's number. -/
def TxtsPost (R : List (List Nat) × Int) (w : World) (e : Ending) (w' : World) : Prop :=
  ∃ A' c' ts, e = .returned (.tuple #[.slice A' ts.length c', .int .i64 R.2]) ∧ bodies ts = R.1 ∧ OwnT w' w.heap.size A' c' ts ∧ Txts w' w.heap.size ts ∧ Ext w w'
theorem TxtsPost.bad {w w' : World} (R : List (List Nat) × Int) {E : Int} (h : R = ([], E)) (he : Ext w w') : TxtsPost R w (.returned (.tuple #[.slice none 0 0, .int .i64 E])) w' := by
  subst h
  exact ⟨none, 0, [], rfl, rfl, OwnG.nil .., Txts.nil .., he⟩
theorem TxtsPost.good {w w' : World} (R : List (List Nat) × Int) {ts : List Sl} {A : Option Addr} {m c : Nat} (h : R = (bodies ts, 0)) (hm : ts.length = m) (ho : OwnT w' w.heap.size A c ts) (ht : Txts w' w.heap.size ts) (he : Ext w w') : TxtsPost R w (.returned (.tuple #[.slice A m c, .int .i64 0])) w' := by
  subst h
  subst hm
  exact ⟨A, c, ts, rfl, rfl, ho, ht, he⟩

end Go.Proofs.Ytkmnhapeohlooaa

/-
  What the second form's bound gives: a slice's length is at most its bulk.
-/
namespace Go.Proofs.Ytkmnhapeohlooaa

theorem bulk_pos {H : Type} (d : DataW H) : 1 ≤ Rows.uptoBulk d := by
  cases d with
  | lit l => cases l <;> simp [Rows.uptoBulk]
  | _ => simp [Rows.uptoBulk]

theorem bulk_length {H : Type} (l : List (DataW H)) : l.length ≤ Rows.uptoBulkAll l := by
  induction l with
  | nil => simp
  | cons d r ih => have := bulk_pos d; simp only [List.length_cons, Rows.uptoBulkAll]; omega

theorem bulk_len {H : Type} {d : DataW H} {len : Nat} (h : len = 0 ∨ ∃ elems spare, d = .slice elems spare ∧ elems.length = len) : len ≤ Rows.uptoBulk d := by
  rcases h with rfl | ⟨elems, spare, rfl, rfl⟩
  · exact Nat.zero_le _
  · have := bulk_length elems
    simp only [Rows.uptoBulk]
    omega

theorem upto_bulk {H : Type} {ds : List (DataW H)} (h : Rows.uptoSmall H ds = true) : Rows.uptoBulkAll ds ≤ 1048576 := of_decide_eq_true h

end Go.Proofs.Ytkmnhapeohlooaa
