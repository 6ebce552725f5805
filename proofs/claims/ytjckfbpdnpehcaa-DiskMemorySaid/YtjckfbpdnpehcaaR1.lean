/-
  Words for memory: a slice of slices of bytes that reads as a list of lists; a whole slice appended to a row of the call's own; a block stored whole.
-/
import Derived.Test.YtjckfbpdnpehcaaA4
import Derived.Laws.OwnMore
import Derived.Laws.AppendOwnNone
import Derived.Deep.DeepAppendWide
import Derived.Lib.AppendZeros
namespace Go.Proofs.Ytjckfbpdnpehcaa
open Go.RowKit

/-- The slice of slices (A, n) reads, in w, as the lists xss. -/
def RdSS (w : World) (A : Option Addr) (n : Nat) (xss : List (List Nat)) : Prop :=
  xss.length = n ∧ (0 < n → ∃ b o, A = some ⟨b, o, none⟩ ∧ b < w.heap.size ∧ ∀ j, j < n → ∃ a m c, w.cell? ⟨b, o + j, none⟩ = some (.slice a m c) ∧ Rd .u8 w a m (xss.getD j []))

theorem RdSS.len {w : World} {A : Option Addr} {n : Nat} {xss : List (List Nat)} (h : RdSS w A n xss) : xss.length = n := h.1

theorem RdSS.at_ {w : World} {A : Option Addr} {n : Nat} {xss : List (List Nat)} (h : RdSS w A n xss) {j : Nat} (hj : j < n) :
    ∃ b o a m c, A = some ⟨b, o, none⟩ ∧ b < w.heap.size ∧ w.cell? ⟨b, o + j, none⟩ = some (.slice a m c) ∧ Rd .u8 w a m (xss.getD j []) := by
  obtain ⟨b, o, e, hb, hc⟩ := h.2 (by omega)
  obtain ⟨a, m, c, h1, h2⟩ := hc j hj
  exact ⟨b, o, a, m, c, e, hb, h1, h2⟩

theorem RdSS.ext {w w' : World} {A : Option Addr} {n : Nat} {xss : List (List Nat)} (h : RdSS w A n xss) (hb : Ext w w') : RdSS w' A n xss :=
  ⟨h.1, fun hn => by
    obtain ⟨b, o, e, hlt, hc⟩ := h.2 hn
    refine ⟨b, o, e, Nat.lt_of_lt_of_le hlt hb.size, fun j hj => ?_⟩
    obtain ⟨a, m, c, h1, h2⟩ := hc j hj
    exact ⟨a, m, c, (Below.cell hb (p := ⟨b, o + j, none⟩) hlt).trans h1, h2.ext hb⟩⟩

/-- Slices that the call has just written out one behind the other in a block of its own. -/
theorem RdSS.lit (e : TypeId) (w : World) (ss : List (Option Addr × Nat × Nat)) (xss : List (List Nat)) (hl : xss.length = ss.length)
    (h : ∀ j, j < ss.length → Rd .u8 w (ss.getD j (none, 0, 0)).1 (ss.getD j (none, 0, 0)).2.1 (xss.getD j [])) :
    RdSS (w.alloc (.cells (ss.map fun s => Value.slice s.1 s.2.1 s.2.2).toArray e)) (some ⟨w.heap.size, 0, none⟩) ss.length xss := by
  refine ⟨hl, fun hn => ⟨w.heap.size, 0, rfl, by simp, fun j hj => ⟨(ss.getD j (none, 0, 0)).1, (ss.getD j (none, 0, 0)).2.1, (ss.getD j (none, 0, 0)).2.2, ?_, (h j hj).ext ((Ext.refl w).alloc _)⟩⟩⟩
  rw [cell_of_row _ w.heap.size (0 + j) _ e (0, 0) (heap_alloc_new w _)]
  simp [hj]

theorem RdSS.one (e : TypeId) (w : World) {b n c : Nat} {A : Option Addr} {xs : List Nat} (hb : w.heap.size = b) (h : Rd .u8 w A n xs) :
    RdSS (w.alloc (.cells #[.slice A n c] e)) (some ⟨b, 0, none⟩) 1 [xs] := by
  subst hb
  exact RdSS.lit e w [(A, n, c)] [xs] rfl (fun j hj => by
    obtain rfl : j = 0 := by simp at hj; omega
    exact h)

theorem RdSS.two (e : TypeId) (w : World) {b n c n2 c2 : Nat} {A A2 : Option Addr} {xs ys : List Nat} (hb : w.heap.size = b) (h : Rd .u8 w A n xs) (h2 : Rd .u8 w A2 n2 ys) :
    RdSS (w.alloc (.cells #[.slice A n c, .slice A2 n2 c2] e)) (some ⟨b, 0, none⟩) 2 [xs, ys] := by
  subst hb
  exact RdSS.lit e w [(A, n, c), (A2, n2, c2)] [xs, ys] rfl (fun j hj => by
    have hj2 : j < 2 := hj
    rcases (show j = 0 ∨ j = 1 by omega) with rfl | rfl
    · exact h
    · exact h2)

theorem RdSS.three (e : TypeId) (w : World) {b n c n2 c2 n3 c3 : Nat} {A A2 A3 : Option Addr} {xs ys zs : List Nat} (hb : w.heap.size = b) (h : Rd .u8 w A n xs) (h2 : Rd .u8 w A2 n2 ys) (h3 : Rd .u8 w A3 n3 zs) :
    RdSS (w.alloc (.cells #[.slice A n c, .slice A2 n2 c2, .slice A3 n3 c3] e)) (some ⟨b, 0, none⟩) 3 [xs, ys, zs] := by
  subst hb
  exact RdSS.lit e w [(A, n, c), (A2, n2, c2), (A3, n3, c3)] [xs, ys, zs] rfl (fun j hj => by
    have hj2 : j < 3 := hj
    rcases (show j = 0 ∨ j = 1 ∨ j = 2 by omega) with rfl | rfl | rfl
    · exact h
    · exact h2
    · exact h3)

theorem take_nextL (xss : List (List Nat)) (j : Nat) (h : j < xss.length) : xss.take (j + 1) = xss.take j ++ [xss.getD j []] := by
  rw [List.take_succ_eq_append_getElem h]; simp [List.getD, h]

/-- The first j lists, one behind the other. -/
def cat (xss : List (List Nat)) (j : Nat) : List Nat := (xss.take j).flatten
theorem cat_zero (xss : List (List Nat)) : cat xss 0 = [] := rfl
theorem cat_succ {xss : List (List Nat)} {j : Nat} (h : j < xss.length) : cat xss (j + 1) = cat xss j ++ xss.getD j [] := by rw [cat, take_nextL _ _ h]; simp [cat]
theorem cat_all (xss : List (List Nat)) : cat xss xss.length = xss.flatten := by simp [cat]
def U8s (xss : List (List Nat)) : Prop := ∀ xs ∈ xss, U8 xs
theorem U8s.at_ {xss : List (List Nat)} (h : U8s xss) (j : Nat) : U8 (xss.getD j []) := by
  by_cases hj : j < xss.length
  · have := h _ (List.getElem_mem hj); simpa [List.getD, hj] using this
  · simp [List.getD, hj]; intro v hv; cases hv
theorem U8s.cat {xss : List (List Nat)} (h : U8s xss) (j : Nat) : U8 (cat xss j) := by
  intro v hv
  obtain ⟨l, hl, hv⟩ := List.mem_flatten.1 hv
  exact h l (List.mem_of_mem_take hl) v hv
theorem cat_le {xss : List (List Nat)} {j : Nat} : (cat xss j).length ≤ xss.flatten.length := by
  have : xss.flatten = cat xss j ++ (xss.drop j).flatten := by rw [cat, ← List.flatten_append, List.take_append_drop]
  rw [this, List.length_append]
  omega

/-- append of a source that is nil, whatever its capacity: nothing. -/
theorem run_append_none {P : Program} {w : World} {base : Nat} {e : TypeId} (t ty : TypeId) (i : TypeInfo) (size c : Nat) (ht : P.underlying t = some (.slice e)) (hi : P.info? e = some i)
    (v : Value) (n : Nat) (xs : List Value) (hown : w.ownsRow base e size v n xs) :
    (Builtin.append_ #[t, t] ty #[v, .slice none 0 c]).run P w = .ok v w := by
  rcases hown.2 with ⟨rfl, rfl⟩ | ⟨g, cap, cur, rfl, _, _, hnc, _⟩
  · simp [Builtin.append_, run_underlying ht, sizeOf, typeInfo, hi, Builtin.lenOf, Builtin.firstCells]
  · simp [Builtin.append_, run_underlying ht, sizeOf, typeInfo, hi, Builtin.lenOf, Builtin.firstCells, hnc, storeCells]

/-- 'append(out, ys...)', ys a slice that reads as numbers, nil or not. -/
theorem wpList_pushes {P : Program} {w0 w : World} {ops : Array Oper} {rest : List Oper} {o : Oper} {a : Act} {Q : Exit → Act → World → Prop} (k : IntKind) (e : TypeId) (hgd : o.guard = none) (s y : Operand) (t : TypeId)
    (ho : o.op = .call { callee := .builtin .append, args := #[s, y], argTypes := #[t, t] })
    (z : Value) (bytes : Nat) (ht : P.underlying t = some (.slice e)) (hi : (P.info? e).map (fun i => (i.zero, i.size, i.bytes)) = some (some z, 1, bytes)) (hzs : z.cells.size = 1)
    {base : Nat} {A A2 : Option Addr} {c m c2 : Nat} {xs ys : List Nat} (hown : Own k e w base A c xs) (n : Nat) (hn : xs.length = n) (hs : a.eval s = .slice A n c)
    (hy : a.eval y = .slice A2 m c2) (hrd : Rd k w A2 m ys) (hlen : ((n + m) + (n + m) / 4 + 192) * bytes ≤ 281474976710656) (hby : 0 < bytes) (hb : Below base w0 w) (hbase : base ≤ w.heap.size)
    (h : ∀ A' c' w', Own k e w' base A' c' (xs ++ ys) → Below base w0 w' → base ≤ w'.heap.size → wpList P ops Q rest (a.put o.dst (.slice A' (n + m : Nat) c')) w') :
    wpList P ops Q (o :: rest) a w := by
  subst hn
  obtain ⟨i, hi0, hz, hsz, hbs⟩ := info_parts hi
  have hle : xs.length + m ≤ 281474976710656 := Nat.le_trans (Nat.le_trans (by omega) (Nat.le_mul_of_pos_right ((xs.length + m) + (xs.length + m) / 4 + 192) hby)) hlen
  have hyl := hrd.len
  cases A2 with
  | none =>
    have hm : m = 0 := by
      rcases Nat.eq_zero_or_pos m with h0 | h0
      · exact h0
      · obtain ⟨b, o, he, _⟩ := hrd.2 h0
        cases he
    subst hm
    obtain rfl : ys = [] := List.eq_nil_of_length_eq_zero hyl
    refine wpList_plain hgd fun K hK => ?_
    have hrun := run_append_none (P := P) (w := w) t o.type i 1 c2 ht hi0 _ _ _ hown
    unfold Oper.wp
    simp [execOp, ho, resolve, invoke, builtin, hs, hy, hrun, Result.andThen]
    have hh := h A c w (by simpa using hown) hb hbase
    exact hK _ _ hh
  | some ad =>
    refine wpList_append_own_wide _ hgd s y t ho base e i z 1 bytes ht hi0 hz hsz hbs hzs (by decide) _ xs.length (xs.map fun x : Nat => Value.int k (x : Int)) hs hown
      ad m c2 (ys.map fun x : Nat => Value.int k (x : Int)) hy (by simp [hyl]) ?_ ?_ (by unfold maxLen; omega) hlen hbase ?_
    · intro j u hj
      have hjl : j < ys.length := by
        have := (List.getElem?_eq_some_iff.1 hj).1
        simpa using this
      obtain ⟨b, o', he, hbl, hc⟩ := hrd.at_ (j := j) (by omega)
      injection he with he
      subst he
      have hadd : (⟨b, o', none⟩ : Addr).add j = ⟨b, o' + j, none⟩ := by simp [Addr.add]
      rw [hadd, hc]
      rw [List.getElem?_map, List.getElem?_eq_getElem hjl] at hj
      simp at hj
      simp [← hj, hjl]
    · intro u hu
      obtain ⟨x, _, rfl⟩ := List.mem_map.1 hu
      rfl
    · intro v' w' hown' hg hnil
      have hform : ∃ A' c', v' = .slice A' (xs.length + m) c' := by
        rcases hown'.2 with ⟨hv, h0⟩ | ⟨g, cap, cur, hv, _⟩
        · exact ⟨none, 0, by rw [hv, h0]⟩
        · exact ⟨_, _, hv⟩
      obtain ⟨A', c', rfl⟩ := hform
      have hb' : Below base w0 w' := Below.grown hb hg hbase (fun g hg' => (hown.lt g hg').1)
      refine h A' c' w' ?_ hb' ?_
      · unfold Own
        rw [List.length_append, hyl, List.map_append]
        exact hown'
      · have := hg.size
        omega

theorem Ext.setRow {a b : World} (h : Ext a b) {g : Nat} (hg : a.heap.size ≤ g) (cs : Array Value) : Ext a (b.setRow g cs) :=
  ⟨h.os, h.tape, h.output, by have := h.size; simpa using this, fun i hi => (setRow_other b g i cs (by omega)).trans (h.block i hi)⟩

theorem grown_setRow (w : World) (g : Nat) (cs : Array Value) : w.grownBy (w.setRow g cs) (some g) :=
  ⟨rfl, rfl, rfl, by simp, fun i _ hne => setRow_other w g i cs (fun e => hne (by rw [e]))⟩

/-- The block that a call has just laid, behind whatever only adds. -/
theorem Ext.kept {w w' : World} {o : Obj} (h : Ext (w.alloc o) w') : w'.heap[w.heap.size]? = some o := by
  rw [h.block w.heap.size (by simp)]
  exact heap_alloc_new w o

end Go.Proofs.Ytjckfbpdnpehcaa
