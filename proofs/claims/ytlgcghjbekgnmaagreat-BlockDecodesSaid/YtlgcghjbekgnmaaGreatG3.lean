import Derived.Test.YtlgcghjbekgnmaaGreatG2
import Derived.Test.YtlgcghjbekgnmaaGreatG1
import Derived.Laws.OwnMore
import Derived.Laws.AppendOwnNone
import Derived.Deep.DeepAppendWide
import Derived.Lib.AppendZeros
import Derived.Deep.RegionHeld3
import Derived.WalkSpells

/-
  Words for memory: a slice of slices of bytes that reads as a list of lists; a whole slice appended to a row of the call's own; a block stored whole.
-/
namespace Go.Proofs.YtlgcghjbekgnmaaGreat
open Go.RowKit
set_option maxRecDepth 100000

/-- The slice of slices (A, n) reads, in w, as the lists xss. -/
def RdSS (w : World) (A : Option Addr) (n : Nat) (xss : List (List Nat)) : Prop :=
  xss.length = n ∧ (0 < n → ∃ b o, A = some ⟨b, o, none⟩ ∧ b < w.heap.size ∧ ∀ j, j < n → ∃ a m c, w.cell? ⟨b, o + j, none⟩ = some (.slice a m c) ∧ Rd .u8 w a m (xss.getD j []))

theorem RdSS.len {w : World} {A : Option Addr} {n : Nat} {xss : List (List Nat)} (h : RdSS w A n xss) : xss.length = n := h.1

theorem RdSS.at_ {w : World} {A : Option Addr} {n : Nat} {xss : List (List Nat)} (h : RdSS w A n xss) {j : Nat} (hj : j < n) :
    ∃ b o a m c, A = some ⟨b, o, none⟩ ∧ b < w.heap.size ∧ w.cell? ⟨b, o + j, none⟩ = some (.slice a m c) ∧ Rd .u8 w a m (xss.getD j []) := by
  obtain ⟨b, o, e, hb, hc⟩ := h.2 (by omega)
  obtain ⟨a, m, c, h1, h2⟩ := hc j hj
  exact ⟨b, o, a, m, c, e, hb, h1, h2⟩

theorem RdSS.ext {w w' : World} {A : Option Addr} {n : Nat} {xss : List (List Nat)} (h : RdSS w A n xss) (hb : Ext w w') : RdSS w' A n xss :=
  ⟨h.1, fun hn => by
    obtain ⟨b, o, e, hlt, hc⟩ := h.2 hn
    refine ⟨b, o, e, Nat.lt_of_lt_of_le hlt hb.size, fun j hj => ?_⟩
    obtain ⟨a, m, c, h1, h2⟩ := hc j hj
    exact ⟨a, m, c, (Below.cell hb (p := ⟨b, o + j, none⟩) hlt).trans h1, h2.ext hb⟩⟩

/-- Slices that the call has just written out one behind the other in a block of its own. -/
theorem RdSS.lit (e : TypeId) (w : World) (ss : List (Option Addr × Nat × Nat)) (xss : List (List Nat)) (hl : xss.length = ss.length)
    (h : ∀ j, j < ss.length → Rd .u8 w (ss.getD j (none, 0, 0)).1 (ss.getD j (none, 0, 0)).2.1 (xss.getD j [])) :
    RdSS (w.alloc (.cells (ss.map fun s => Value.slice s.1 s.2.1 s.2.2).toArray e)) (some ⟨w.heap.size, 0, none⟩) ss.length xss := by
  refine ⟨hl, fun hn => ⟨w.heap.size, 0, rfl, by simp, fun j hj => ⟨(ss.getD j (none, 0, 0)).1, (ss.getD j (none, 0, 0)).2.1, (ss.getD j (none, 0, 0)).2.2, ?_, (h j hj).ext ((Ext.refl w).alloc _)⟩⟩⟩
  rw [cell_of_row _ w.heap.size (0 + j) _ e (0, 0) (heap_alloc_new w _)]
  simp [hj]

theorem RdSS.one (e : TypeId) (w : World) {b n c : Nat} {A : Option Addr} {xs : List Nat} (hb : w.heap.size = b) (h : Rd .u8 w A n xs) :
    RdSS (w.alloc (.cells #[.slice A n c] e)) (some ⟨b, 0, none⟩) 1 [xs] := by
  subst hb
  exact RdSS.lit e w [(A, n, c)] [xs] rfl (fun j hj => by
    obtain rfl : j = 0 := by simp at hj; omega
    exact h)

theorem RdSS.two (e : TypeId) (w : World) {b n c n2 c2 : Nat} {A A2 : Option Addr} {xs ys : List Nat} (hb : w.heap.size = b) (h : Rd .u8 w A n xs) (h2 : Rd .u8 w A2 n2 ys) :
    RdSS (w.alloc (.cells #[.slice A n c, .slice A2 n2 c2] e)) (some ⟨b, 0, none⟩) 2 [xs, ys] := by
  subst hb
  exact RdSS.lit e w [(A, n, c), (A2, n2, c2)] [xs, ys] rfl (fun j hj => by
    have hj2 : j < 2 := hj
    rcases (show j = 0 ∨ j = 1 by omega) with rfl | rfl
    · exact h
    · exact h2)

theorem RdSS.three (e : TypeId) (w : World) {b n c n2 c2 n3 c3 : Nat} {A A2 A3 : Option Addr} {xs ys zs : List Nat} (hb : w.heap.size = b) (h : Rd .u8 w A n xs) (h2 : Rd .u8 w A2 n2 ys) (h3 : Rd .u8 w A3 n3 zs) :
    RdSS (w.alloc (.cells #[.slice A n c, .slice A2 n2 c2, .slice A3 n3 c3] e)) (some ⟨b, 0, none⟩) 3 [xs, ys, zs] := by
  subst hb
  exact RdSS.lit e w [(A, n, c), (A2, n2, c2), (A3, n3, c3)] [xs, ys, zs] rfl (fun j hj => by
    have hj2 : j < 3 := hj
    rcases (show j = 0 ∨ j = 1 ∨ j = 2 by omega) with rfl | rfl | rfl
    · exact h
    · exact h2
    · exact h3)

theorem take_nextL (xss : List (List Nat)) (j : Nat) (h : j < xss.length) : xss.take (j + 1) = xss.take j ++ [xss.getD j []] := by
  rw [List.take_succ_eq_append_getElem h]; simp [List.getD, h]

/-- The first j lists, one behind the other. -/
def cat (xss : List (List Nat)) (j : Nat) : List Nat := (xss.take j).flatten
theorem cat_zero (xss : List (List Nat)) : cat xss 0 = [] := rfl
theorem cat_succ {xss : List (List Nat)} {j : Nat} (h : j < xss.length) : cat xss (j + 1) = cat xss j ++ xss.getD j [] := by rw [cat, take_nextL _ _ h]; simp [cat]
theorem cat_all (xss : List (List Nat)) : cat xss xss.length = xss.flatten := by simp [cat]
def U8s (xss : List (List Nat)) : Prop := ∀ xs ∈ xss, U8 xs
theorem U8s.at_ {xss : List (List Nat)} (h : U8s xss) (j : Nat) : U8 (xss.getD j []) := by
  by_cases hj : j < xss.length
  · have := h _ (List.getElem_mem hj); simpa [List.getD, hj] using this
  · simp [List.getD, hj]; intro v hv; cases hv
theorem U8s.cat {xss : List (List Nat)} (h : U8s xss) (j : Nat) : U8 (cat xss j) := by
  intro v hv
  obtain ⟨l, hl, hv⟩ := List.mem_flatten.1 hv
  exact h l (List.mem_of_mem_take hl) v hv
theorem cat_le {xss : List (List Nat)} {j : Nat} : (cat xss j).length ≤ xss.flatten.length := by
  have : xss.flatten = cat xss j ++ (xss.drop j).flatten := by rw [cat, ← List.flatten_append, List.take_append_drop]
  rw [this, List.length_append]
  omega

/-- append of a source that is nil, whatever its capacity: nothing. -/
theorem run_append_none {P : Program} {w : World} {base : Nat} {e : TypeId} (t ty : TypeId) (i : TypeInfo) (size c : Nat) (ht : P.underlying t = some (.slice e)) (hi : P.info? e = some i)
    (v : Value) (n : Nat) (xs : List Value) (hown : w.ownsRow base e size v n xs) :
    (Builtin.append_ #[t, t] ty #[v, .slice none 0 c]).run P w = .ok v w := by
  rcases hown.2 with ⟨rfl, rfl⟩ | ⟨g, cap, cur, rfl, _, _, hnc, _⟩
  · simp [Builtin.append_, run_underlying ht, sizeOf, typeInfo, hi, Builtin.lenOf, Builtin.firstCells]
  · simp [Builtin.append_, run_underlying ht, sizeOf, typeInfo, hi, Builtin.lenOf, Builtin.firstCells, hnc, storeCells]

/-- 'append(out, ys...)', ys a slice that reads as numbers, nil or not. -/
theorem wpList_pushes {P : Program} {w0 w : World} {ops : Array Oper} {rest : List Oper} {o : Oper} {a : Act} {Q : Exit → Act → World → Prop} (k : IntKind) (e : TypeId) (hgd : o.guard = none) (s y : Operand) (t : TypeId)
    (ho : o.op = .call { callee := .builtin .append, args := #[s, y], argTypes := #[t, t] })
    (z : Value) (bytes : Nat) (ht : P.underlying t = some (.slice e)) (hi : (P.info? e).map (fun i => (i.zero, i.size, i.bytes)) = some (some z, 1, bytes)) (hzs : z.cells.size = 1)
    {base : Nat} {A A2 : Option Addr} {c m c2 : Nat} {xs ys : List Nat} (hown : Own k e w base A c xs) (n : Nat) (hn : xs.length = n) (hs : a.eval s = .slice A n c)
    (hy : a.eval y = .slice A2 m c2) (hrd : Rd k w A2 m ys) (hlen : ((n + m) + (n + m) / 4 + 192) * bytes ≤ 281474976710656) (hby : 0 < bytes) (hb : Below base w0 w) (hbase : base ≤ w.heap.size)
    (h : ∀ A' c' w', Own k e w' base A' c' (xs ++ ys) → Below base w0 w' → base ≤ w'.heap.size → wpList P ops Q rest (a.put o.dst (.slice A' (n + m : Nat) c')) w') :
    wpList P ops Q (o :: rest) a w := by
  subst hn
  obtain ⟨i, hi0, hz, hsz, hbs⟩ := info_parts hi
  have hle : xs.length + m ≤ 281474976710656 := Nat.le_trans (Nat.le_trans (by omega) (Nat.le_mul_of_pos_right ((xs.length + m) + (xs.length + m) / 4 + 192) hby)) hlen
  have hyl := hrd.len
  cases A2 with
  | none =>
    have hm : m = 0 := by
      rcases Nat.eq_zero_or_pos m with h0 | h0
      · exact h0
      · obtain ⟨b, o, he, _⟩ := hrd.2 h0
        cases he
    subst hm
    obtain rfl : ys = [] := List.eq_nil_of_length_eq_zero hyl
    refine wpList_plain hgd fun K hK => ?_
    have hrun := run_append_none (P := P) (w := w) t o.type i 1 c2 ht hi0 _ _ _ hown
    unfold Oper.wp
    simp [execOp, ho, resolve, invoke, builtin, hs, hy, hrun, Result.andThen]
    have hh := h A c w (by simpa using hown) hb hbase
    exact hK _ _ hh
  | some ad =>
    refine wpList_append_own_wide _ hgd s y t ho base e i z 1 bytes ht hi0 hz hsz hbs hzs (by decide) _ xs.length (xs.map fun x : Nat => Value.int k (x : Int)) hs hown
      ad m c2 (ys.map fun x : Nat => Value.int k (x : Int)) hy (by simp [hyl]) ?_ ?_ (by unfold maxLen; omega) hlen hbase ?_
    · intro j u hj
      have hjl : j < ys.length := by
        have := (List.getElem?_eq_some_iff.1 hj).1
        simpa using this
      obtain ⟨b, o', he, hbl, hc⟩ := hrd.at_ (j := j) (by omega)
      injection he with he
      subst he
      have hadd : (⟨b, o', none⟩ : Addr).add j = ⟨b, o' + j, none⟩ := by simp [Addr.add]
      rw [hadd, hc]
      rw [List.getElem?_map, List.getElem?_eq_getElem hjl] at hj
      simp at hj
      simp [← hj, hjl]
    · intro u hu
      obtain ⟨x, _, rfl⟩ := List.mem_map.1 hu
      rfl
    · intro v' w' hown' hg hnil
      have hform : ∃ A' c', v' = .slice A' (xs.length + m) c' := by
        rcases hown'.2 with ⟨hv, h0⟩ | ⟨g, cap, cur, hv, _⟩
        · exact ⟨none, 0, by rw [hv, h0]⟩
        · exact ⟨_, _, hv⟩
      obtain ⟨A', c', rfl⟩ := hform
      have hb' : Below base w0 w' := Below.grown hb hg hbase (fun g hg' => (hown.lt g hg').1)
      refine h A' c' w' ?_ hb' ?_
      · unfold Own
        rw [List.length_append, hyl, List.map_append]
        exact hown'
      · have := hg.size
        omega

theorem Ext.setRow {a b : World} (h : Ext a b) {g : Nat} (hg : a.heap.size ≤ g) (cs : Array Value) : Ext a (b.setRow g cs) :=
  ⟨h.os, h.tape, h.output, by have := h.size; simpa using this, fun i hi => (setRow_other b g i cs (by omega)).trans (h.block i hi)⟩

theorem grown_setRow (w : World) (g : Nat) (cs : Array Value) : w.grownBy (w.setRow g cs) (some g) :=
  ⟨rfl, rfl, rfl, by simp, fun i _ hne => setRow_other w g i cs (fun e => hne (by rw [e]))⟩

/-- The block that a call has just laid, behind whatever only adds. -/
theorem Ext.kept {w w' : World} {o : Obj} (h : Ext (w.alloc o) w') : w'.heap[w.heap.size]? = some o := by
  rw [h.block w.heap.size (by simp)]
  exact heap_alloc_new w o

end Go.Proofs.YtlgcghjbekgnmaaGreat

/-
  A cell's own copy, and two cells compared: what all of the document's answers share.
-/
namespace Go.Proofs.YtlgcghjbekgnmaaGreat
open Go.RowKit
set_option maxRecDepth 100000

theorem Ext.undrew' {w w' : World} (h : Ext w.drew w') : Ext w w' := ⟨h.os, h.tape, h.output, h.size, h.block⟩

theorem grown_setCell (w : World) (g i : Nat) (v : Value) : w.grownBy (w.setCell ⟨g, i, none⟩ v) (some g) :=
  ⟨rfl, rfl, rfl, by simp [World.setCell], fun k _ hne => heap_setCell_other w ⟨g, i, none⟩ k v (fun e => hne (by rw [e]))⟩

/-- A function with one struct result, which lies in a cell of the call's own. -/
theorem results_cell1 {P : Program} {fn : Func} {p : Tmp} {ty : TypeId} (h : fn.results = #[.cell p ty]) (tmps : Array Value) (w : World) (g : Nat) (T : TypeId) (cs : Array Value) (fr : Nat × Nat) (d : TypeDesc)
    (hp : tmps.getD p undef = .pointer (some ⟨g, 0, none⟩)) (hg : w.heap[g]? = some (.cells cs T fr))
    (hu : P.underlying ty = some d) (hd : (match d with | .struct _ | .array _ _ => true | _ => false) = true) (hi : (P.info? ty).map (·.size) = some cs.size) :
    (results fn tmps).run P w = .ok (.agg cs) w := by
  have hp' : tmps[p]?.getD undef = .pointer (some ⟨g, 0, none⟩) := by simpa using hp
  simp [results, h, hp', asAddr, run_loadVar_row w g T ty cs fr d hg hu hd hi]

theorem results_cell3 {P : Program} {fn : Func} {p t u : Tmp} {ty : TypeId} (h : fn.results = #[.cell p ty, .tmp t, .tmp u]) (tmps : Array Value) (w : World) (g : Nat) (T : TypeId) (cs : Array Value) (fr : Nat × Nat) (d : TypeDesc)
    (hp : tmps.getD p undef = .pointer (some ⟨g, 0, none⟩)) (hg : w.heap[g]? = some (.cells cs T fr))
    (hu : P.underlying ty = some d) (hd : (match d with | .struct _ | .array _ _ => true | _ => false) = true) (hi : (P.info? ty).map (·.size) = some cs.size) :
    (results fn tmps).run P w = .ok (.tuple #[.agg cs, tmps.getD t undef, tmps.getD u undef]) w := by
  have hp' : tmps[p]?.getD undef = .pointer (some ⟨g, 0, none⟩) := by simpa using hp
  simp [results, h, hp', asAddr, run_loadVar_row w g T ty cs fr d hg hu hd hi]

/-- A cell stored into a block that the call has laid. -/
theorem wpList_store_cell {ops : Array Oper} {rest : List Oper} {o : Oper} {a : Act} {w : World} {Q : Exit → Act → World → Prop} (hgd : o.guard = none) (x y : Operand) (ho : o.op = .store 61 x y)
    (g : Nat) (u v s : Value) (hx : a.eval x = .pointer (some ⟨g, 0, none⟩)) (hy : a.eval y = .agg #[u, v, s]) {u0 v0 s0 : Value} (hg : w.heap[g]? = some (.cells #[u0, v0, s0] 61)) (h1 : u.oneCell' = true) (h2 : v.oneCell' = true) (h3 : s.oneCell' = true)
    (h : wpList Tryz.prog ops Q rest (a.put o.dst undef) (w.setRow g #[u, v, s])) : wpList Tryz.prog ops Q (o :: rest) a w :=
  wpList_store_row hgd 61 x y ho g #[u, v, s] hx hy 61 #[u0, v0, s0] hg (by kernel_rfl) rfl (by simp [h1, h2, h3]) h

/-- Own is kept where another block alone is written. -/
theorem Own.far {k : IntKind} {e : TypeId} {w w' : World} {base c b : Nat} {A : Option Addr} {xs : List Nat} (h : Own k e w base A c xs) (hg : w.grownBy w' (some b)) (hb : b < base) : Own k e w' base A c xs :=
  h.grown hg fun a ha e => by
    injection e with e
    have := (h.block a ha).1
    omega

/-- The world with a cell boxed, and a cell of the call's own for its result. -/
structure Boxed (w W : World) (nul : Bool) (num : Int) (A : Option Addr) (n c : Nat) : Prop where
  ext : Ext w W
  size : W.heap.size = w.heap.size + 2
  box : ∀ w', Ext (w.alloc (.cells #[.bool nul, .int .i64 num, .slice A n c] 61)) w' → w'.cell? ⟨w.heap.size, 0, none⟩ = some (.bool nul) ∧ w'.cell? ⟨w.heap.size, 1, none⟩ = some (.int .i64 num) ∧ w'.cell? ⟨w.heap.size, 2, none⟩ = some (.slice A n c)
  mid : Ext (w.alloc (.cells #[.bool nul, .int .i64 num, .slice A n c] 61)) W
  res : ∀ w', Ext W w' → w'.heap[w.heap.size + 1]? = some (.cells #[.bool false, .int .i64 0, .slice none 0 0] 61)

theorem boxed (w : World) (nul : Bool) (num : Int) (A : Option Addr) (n c : Nat) :
    Boxed w ((w.alloc (.cells #[.bool nul, .int .i64 num, .slice A n c] 61)).alloc (.cells #[.bool false, .int .i64 0, .slice none 0 0] 61)) nul num A n c := by
  have h1 : ∀ w', Ext (w.alloc (.cells #[.bool nul, .int .i64 num, .slice A n c] 61)) w' → w'.heap[w.heap.size]? = some (.cells #[.bool nul, .int .i64 num, .slice A n c] 61) := fun w' he => Ext.kept he
  refine ⟨((Ext.refl w).alloc _).alloc _, by simp, fun w' he => ?_, (Ext.refl _).alloc _, fun w' he => ?_⟩
  · exact ⟨cell_of_row w' w.heap.size 0 _ _ (0, 0) (h1 w' he), cell_of_row w' w.heap.size 1 _ _ (0, 0) (h1 w' he), cell_of_row w' w.heap.size 2 _ _ (0, 0) (h1 w' he)⟩
  · have h := Ext.kept he
    simpa using h

set_option maxHeartbeats 1600000 in
theorem twin_any (nul : Bool) (num : Int) (A : Option Addr) (n c : Nat) (txt : List Nat) (w : World) (hx : Rd .u8 w A n txt) (hn : n ≤ 140737488355328) :
    Calls Tryz.prog 53 #[.agg #[.bool nul, .int .i64 num, .slice A n c]] w fun e w' => ∃ A' c', e = .returned (.agg #[.bool nul, .int .i64 num, .slice A' n c']) ∧ Own .u8 5 w' w.heap.size A' c' txt ∧ Ext w w' := by
  obtain ⟨W7, hW7⟩ : ∃ W7, W7 = w.alloc (.cells #[.bool nul, .int .i64 num, .slice A n c] 61) := ⟨_, rfl⟩
  have hB := boxed w nul num A n c
  obtain ⟨W8, hW8⟩ : ∃ W8, W8 = (w.alloc (.cells #[.bool nul, .int .i64 num, .slice A n c] 61)).alloc (.cells #[.bool false, .int .i64 0, .slice none 0 0] 61) := ⟨_, rfl⟩
  rw [← hW8] at hB
  have hx8 := hx.ext hB.ext
  have hs7 : W7.heap.size = w.heap.size + 1 := by rw [hW7]; simp
  have hM := hB.mid
  have hBx := hB.box
  rw [← hW7] at hM hBx
  have K1 := Lib.hid hB.res
  have K3 := Lib.hid hBx
  have hM' := Lib.hid hM
  have HB := Lib.hid hB
  have Hs7 := Lib.hid (Nat.le_of_eq hs7)
  clear hM hBx hB hs7 hW7
  go_enter Tryz.func53, Tryz.ntmps53
  go_wp2_with fail
  rw [← hW8]
  have g8 := K3.out _ hM'.out
  have g80 := g8.1
  have g81 := g8.2.1
  have g82 := g8.2.2
  clear hW8 hx
  go_region_held3 (fun w' => w'.cell? ⟨w.heap.size, 0, none⟩ = some (.bool nul) ∧ w'.cell? ⟨w.heap.size, 1, none⟩ = some (.int .i64 num) ∧ w'.cell? ⟨w.heap.size, 2, none⟩ = some (.slice A n c))
    (first | exact g8 | exact K3.out _ (hM'.out.trans he6.undrew') | exact K3.out _ (hM'.out.trans he6) | exact K3.out _ ((((hM'.out.trans he6.undrew').setCell Hs7.out _).setCell Hs7.out _).setCell Hs7.out _) | fail)
    (first
      | (go_at_call 38; refine (copy_any _ _ _ txt _ ?_ hn).mono ?_; exact hx8; rintro e w6 ⟨A6, c6, rfl, hown6, he6⟩; have hK6 := K1.out w6 (by first | exact he6.undrew' | exact he6); have kc0 := cell_of_row w6 (w.heap.size + 1) 0 _ _ (0, 0) hK6; have kc1 := cell_of_row w6 (w.heap.size + 1) 1 _ _ (0, 0) hK6; have kc2 := cell_of_row w6 (w.heap.size + 1) 2 _ _ (0, 0) hK6; have kf0 := frozen_of_row w6 (w.heap.size + 1) 0 _ _ hK6; have kf1 := frozen_of_row w6 (w.heap.size + 1) 1 _ _ hK6; have kf2 := frozen_of_row w6 (w.heap.size + 1) 2 _ _ hK6; simp only [List.getElem?_toArray, List.getElem?_cons_zero, List.getElem?_cons_succ] at kc0 kc1 kc2; have HK6 := Lib.hid hK6; clear hK6)
      | fail)
  have e1 : w6.heap[w.heap.size + 1]? = some (.cells #[.bool false, .int .i64 0, .slice none 0 0] 61) := HK6.out
  have e2 := heap_setCell_same _ (w.heap.size + 1) 0 _ _ (.bool nul) e1
  have e3 := heap_setCell_same _ (w.heap.size + 1) 1 _ _ (.int .i64 num) e2
  have e4 := heap_setCell_same _ (w.heap.size + 1) 2 _ _ (.slice A6 n c6) e3
  have hle : w.heap.size + 2 ≤ W8.drew.heap.size := Nat.le_of_eq HB.out.size.symm
  have ho := (((hown6.mono hle).far (grown_setCell w6 (w.heap.size + 1) 0 (.bool nul)) (by omega)).far (grown_setCell _ (w.heap.size + 1) 1 (.int .i64 num)) (by omega)).far (grown_setCell _ (w.heap.size + 1) 2 (.slice A6 n c6)) (by omega)
  have hE := ((((HB.out.ext.trans he6.undrew').setCell (p := ⟨w.heap.size + 1, 0, none⟩) (Nat.le_succ _) (.bool nul)).setCell (p := ⟨w.heap.size + 1, 1, none⟩) (Nat.le_succ _) (.int .i64 num))).setCell (p := ⟨w.heap.size + 1, 2, none⟩) (Nat.le_succ _) (.slice A6 n c6)
  go_wp2_with fail
  apply bodyPost_ret
  · exact results_cell1 rfl _ _ (w.heap.size + 1) 61 #[.bool nul, .int .i64 num, .slice A6 n c6] (0, 0) _ rfl e4 Tryz.underlying61 rfl (by kernel_rfl)
  · rfl
  exact ⟨A6, c6, rfl, ho.mono (by omega), hE⟩

end Go.Proofs.YtlgcghjbekgnmaaGreat

/-
  Two cells compared: alike, and their order, the program's and the document's.
-/
namespace Go.Proofs.YtlgcghjbekgnmaaGreat
open Go.RowKit
set_option maxRecDepth 100000

def alk (nul : Bool) (num : Int) (txt : List Nat) (nul2 : Bool) (num2 : Int) (txt2 : List Nat) : Bool := decide (nul = nul2 ∧ num = num2 ∧ txt = txt2)
theorem alk_iff {nul : Bool} {num : Int} {txt : List Nat} {nul2 : Bool} {num2 : Int} {txt2 : List Nat} : alk nul num txt nul2 num2 txt2 = true ↔ nul = nul2 ∧ num = num2 ∧ txt = txt2 := decide_eq_true_iff

set_option maxHeartbeats 800000 in
theorem alike_any (nul : Bool) (num : Int) (A : Option Addr) (n c : Nat) (txt : List Nat) (nul2 : Bool) (num2 : Int) (A2 : Option Addr) (n2 c2 : Nat) (txt2 : List Nat) (w : World)
    (hx : Rd .u8 w A n txt) (hy : Rd .u8 w A2 n2 txt2) (hn : n ≤ 281474976710656) (hn2 : n2 ≤ 281474976710656) :
    Calls Tryz.prog 50 #[.agg #[.bool nul, .int .i64 num, .slice A n c], .agg #[.bool nul2, .int .i64 num2, .slice A2 n2 c2]] w fun e w' => e = .returned (.bool (alk nul num txt nul2 num2 txt2)) ∧ Ext w w' := by
  have hE : Ext w ((w.alloc (.cells #[.bool nul, .int .i64 num, .slice A n c] 61)).alloc (.cells #[.bool nul2, .int .i64 num2, .slice A2 n2 c2] 61)) := ((Ext.refl w).alloc _).alloc _
  have hx2 := hx.ext hE
  have hy2 := hy.ext hE
  by_cases hb : nul = nul2
  · subst hb
    by_cases hi : num = num2
    · subst hi
      rw [show alk nul num txt nul num txt2 = decide (txt = txt2) from by unfold alk; simp]
      obtain ⟨D, hD⟩ : ∃ D, D = decide (txt = txt2) := ⟨_, rfl⟩
      rw [← hD]
      have HD := Lib.hid hD
      clear hD
      have b1 : (nul == nul) = true := by simp
      have b2 : (num == num) = true := by simp
      go_enter Tryz.func50, Tryz.ntmps50
      go_wp2_with fail
      refine (same_any A A2 n c n2 c2 txt txt2 _ hx2 hy2 hn hn2).mono ?_
      rintro e w1 ⟨rfl, q, rfl⟩
      rw [← HD.out]
      go_wp2
      go_ret
      exact ⟨rfl, hE.drewN q⟩
    · rw [show alk nul num txt nul num2 txt2 = false from decide_eq_false (fun q => hi q.2.1)]
      have b1 : (nul == nul) = true := by simp
      have b2 : (num == num2) = false := by rw [beq_eq_false_iff_ne]; exact hi
      clear hi
      go_enter Tryz.func50, Tryz.ntmps50
      go_wp2
      go_ret
      exact ⟨rfl, hE⟩
  · rw [show alk nul num txt nul2 num2 txt2 = false from decide_eq_false (fun q => hb q.1)]
    have b1 : (nul == nul2) = false := by rw [beq_eq_false_iff_ne]; exact hb
    clear hb
    go_enter Tryz.func50, Tryz.ntmps50
    go_wp2
    go_ret
    exact ⟨rfl, hE⟩

theorem alike_yes (nul : Bool) (num : Int) (A : Option Addr) (n c : Nat) (txt : List Nat) (A2 : Option Addr) (n2 c2 : Nat) (w : World)
    (hx : Rd .u8 w A n txt) (hy : Rd .u8 w A2 n2 txt) (hn : n ≤ 281474976710656) :
    Calls Tryz.prog 50 #[.agg #[.bool nul, .int .i64 num, .slice A n c], .agg #[.bool nul, .int .i64 num, .slice A2 n2 c2]] w fun e w' => e = .returned (.bool true) ∧ Ext w w' :=
  (alike_any nul num A n c txt nul num A2 n2 c2 txt w hx hy hn (by rw [← hy.len, hx.len]; exact hn)).mono fun e w' ⟨h1, h2⟩ => ⟨by rw [h1, alk_iff.2 ⟨rfl, rfl, rfl⟩], h2⟩

/-- The order of two texts: an order. -/
theorem ordT_nil_nil : ordT [] [] = 0 := rfl
theorem ordT_nil_cons {y : Nat} {s : List Nat} : ordT [] (y :: s) = -1 := rfl
theorem ordT_cons_nil {x : Nat} {r : List Nat} : ordT (x :: r) [] = 1 := rfl
theorem ordT_lt {x y : Nat} {r s : List Nat} (h : x < y) : ordT (x :: r) (y :: s) = -1 := by rw [ordT, if_pos h]
theorem ordT_gt {x y : Nat} {r s : List Nat} (h : y < x) : ordT (x :: r) (y :: s) = 1 := by rw [ordT, if_neg (by omega), if_pos h]
theorem ordT_eq {x y : Nat} {r s : List Nat} (h : x = y) : ordT (x :: r) (y :: s) = ordT r s := by rw [ordT, if_neg (by omega), if_neg (by omega)]

theorem ordT_end {xs ys : List Nat} {j : Nat} (h : xs.length ≤ j ∨ ys.length ≤ j) (h2 : j ≤ xs.length) (h3 : j ≤ ys.length) :
    ordT (xs.drop j) (ys.drop j) = if xs.length < ys.length then -1 else if ys.length < xs.length then 1 else 0 := by
  by_cases hx : xs.length ≤ j
  · rw [List.drop_of_length_le hx]
    by_cases hy : ys.length ≤ j
    · rw [List.drop_of_length_le hy, if_neg (by omega), if_neg (by omega)]; rfl
    · rw [drop_cons (by omega), if_pos (by omega)]; rfl
  · have hy : ys.length ≤ j := by omega
    rw [List.drop_of_length_le hy, drop_cons (by omega), if_neg (by omega), if_pos (by omega)]; rfl

/-- Behind what only adds, all that there was reads as before. -/
theorem Ext.cells {a b : World} (h : Ext a b) : ∀ g o, g < a.heap.size → b.cell? ⟨g, o, none⟩ = a.cell? ⟨g, o, none⟩ := fun g o hg => Below.cell h (p := ⟨g, o, none⟩) hg

theorem drew3 (w : World) (a b c : Nat) : ((w.drewN a).drewN b).drewN c = w.drewN (a + b + c) := by rw [World.drewN_drewN, World.drewN_drewN, Nat.add_assoc]

end Go.Proofs.YtlgcghjbekgnmaaGreat

-- part SL
/-
  Rows of slices of bytes of the call's own.
-/
namespace Go.Proofs.YtlgcghjbekgnmaaGreat
open Go.RowKit
set_option maxRecDepth 100000

theorem Tryz.infoS : (Tryz.prog.info? 22).map (fun i => (i.zero, i.size, i.bytes)) = some (some (.slice none 0 0), 1, 24) := by kernel_rfl

/-- A slice that lies somewhere, and what it reads as. -/
structure Sl where
  A : Option Addr
  c : Nat
  body : List Nat

def Sl.v (s : Sl) : Value := .slice s.A s.body.length s.c

/-- A row of slices of the call's own. -/
def OwnS (w : World) (base : Nat) (A : Option Addr) (c : Nat) (ss : List Sl) : Prop := w.ownsRow base 22 1 (.slice A ss.length c) ss.length (ss.map Sl.v)

theorem OwnS.made {base : Nat} (w : World) (hb : base ≤ w.heap.size) : OwnS (w.alloc (.cells #[] 22)) base (some ⟨w.heap.size, 0, none⟩) 0 [] :=
  World.ownsRow_made w #[] 0 hb (by simp [maxLen]) (by simp)
theorem OwnS.ext {w w' : World} {base c : Nat} {A : Option Addr} {ss : List Sl} (h : OwnS w base A c ss) (hb : Ext w w') : OwnS w' base A c ss := by
  refine World.ownsRow.kept (row := none) h ⟨hb.os, hb.tape, hb.output, hb.size, fun i hi _ => hb.block i hi⟩ ?_
  cases hv : (Value.slice A ss.length c).ownBlock <;> simp

/-- 'append(out, s)'. -/
theorem wpList_pushS {w0 w : World} {ops : Array Oper} {rest : List Oper} {o : Oper} {a : Act} {Q : Exit → Act → World → Prop} (f : Sl) (hgd : o.guard = none) (s y : Operand)
    (ho : o.op = .call { callee := .builtin .append, args := #[s, y], argTypes := #[33, 33] })
    {base : Nat} {A : Option Addr} {c : Nat} {ss : List Sl} (hown : OwnS w base A c ss) (n : Nat) (hn : ss.length = n) (hs : a.eval s = .slice A n c)
    {g : Nat} (hy : a.eval y = .slice (some ⟨g, 0, none⟩) 1 1) (hg : w.heap[g]? = some (.cells #[.slice f.A f.body.length f.c] 22))
    (hlen : n ≤ 1048576) (hb : Below base w0 w) (hbase : base ≤ w.heap.size)
    (h : ∀ A' c' w', OwnS w' base A' c' (ss ++ [f]) → Below base w0 w' → base ≤ w'.heap.size → wpList Tryz.prog ops Q rest (a.put o.dst (.slice A' (n + 1) c')) w') :
    wpList Tryz.prog ops Q (o :: rest) a w := by
  subst hn
  obtain ⟨i, hi0, hz, hsz, hbs⟩ := info_parts Tryz.infoS
  refine wpList_append_own_wide w hgd s y 33 ho base 22 i _ 1 24 Tryz.underlying33 hi0 hz hsz hbs rfl (by decide) _ ss.length (ss.map Sl.v) hs hown
    ⟨g, 0, none⟩ 1 1 [f.v] hy rfl ?_ ?_ (by unfold maxLen; omega) (by omega) hbase ?_
  · intro j u hj
    match j, hj with
    | 0, hj =>
      simp at hj
      subst hj
      have := cell_of_row w g 0 _ _ (0, 0) hg
      simpa [Addr.add, Sl.v] using this
  · intro u hu
    simp at hu
    subst hu
    rfl
  · intro v' w' hown' hgr _
    have hform : ∃ A' c', v' = .slice A' (ss.length + 1) c' := by
      rcases hown'.2 with ⟨_, h0⟩ | ⟨g, cap, cur, hv, _⟩
      · omega
      · exact ⟨_, _, hv⟩
    obtain ⟨A', c', rfl⟩ := hform
    have hb' : Below base w0 w' := Below.grown hb hgr hbase (fun g hg' => (hown.lt g hg').1)
    refine h A' c' w' ?_ hb' ?_
    · unfold OwnS
      rw [List.length_append, List.map_append]
      exact hown'
    · have := hgr.size
      omega

theorem Own.zero {k : IntKind} {e : TypeId} {w : World} {base c : Nat} {A : Option Addr} {xs : List Nat} (h : Own k e w base A c xs) : Own k e w 0 A c xs :=
  ⟨h.1, h.2.imp id fun ⟨g, cap, cur, h1, _, h3⟩ => ⟨g, cap, cur, h1, Nat.zero_le _, h3⟩⟩

theorem OwnS.block {w : World} {base c : Nat} {A : Option Addr} {ss : List Sl} (h : OwnS w base A c ss) : ∀ a, A = some a → base ≤ a.block ∧ a.block < w.heap.size := by
  rintro a rfl
  exact h.lt a.block rfl

end Go.Proofs.YtlgcghjbekgnmaaGreat

-- part F7
/-
  Helpers that all references share: lists of bytes as wanted, and memory apart from one another, spare room too.
-/
namespace Go.Proofs.YtlgcghjbekgnmaaGreat
open Go.RowKit

/-- Nothing has turned but rows of these slices; there may be more. -/
structure Kept (w wr : World) (ss : List Sl) : Prop where
  os : wr.os = w.os
  tape : wr.tape = w.tape
  output : wr.output = w.output
  size : w.heap.size ≤ wr.heap.size
  block : ∀ b, b < w.heap.size → (∀ s ∈ ss, ∀ p, s.A = some p → p.block ≠ b) → wr.heap[b]? = w.heap[b]?

theorem Kept.refl (w : World) (ss : List Sl) : Kept w w ss := ⟨rfl, rfl, rfl, Nat.le_refl _, fun _ _ _ => rfl⟩
theorem Kept.ext {w wr w' : World} {ss : List Sl} (h : Kept w wr ss) (he : Ext wr w') : Kept w w' ss :=
  ⟨he.os.trans h.os, he.tape.trans h.tape, he.output.trans h.output, Nat.le_trans h.size he.size, fun b hb hn => (he.block b (Nat.lt_of_lt_of_le hb h.size)).trans (h.block b hb hn)⟩
theorem Kept.grown {w wr w' : World} {ss : List Sl} {row : Option Nat} (h : Kept w wr ss) (hg : wr.grownBy w' row) (hr : ∀ g, row = some g → w.heap.size ≤ g ∨ ∃ s ∈ ss, ∃ p, s.A = some p ∧ p.block = g) : Kept w w' ss :=
  ⟨hg.os.trans h.os, hg.tape.trans h.tape, hg.output.trans h.output, Nat.le_trans h.size hg.size, fun b hb hn => (hg.block b (Nat.lt_of_lt_of_le hb h.size) (fun e => by
    rcases hr b e.symm with h1 | ⟨s, hs, p, hp, hpb⟩
    · omega
    · exact hn s hs p hp hpb)).trans (h.block b hb hn)⟩

/-- No row of these slices lies at that address. -/
def Far (ss : List Sl) (A : Option Addr) : Prop := ∀ s ∈ ss, ∀ p q, s.A = some p → A = some q → p.block ≠ q.block

theorem Rd.kept {k : IntKind} {w wr : World} {A : Option Addr} {n : Nat} {xs : List Nat} {ss : List Sl} (h : Rd k w A n xs) (hk : Kept w wr ss) (hf : 0 < n → Far ss A) : Rd k wr A n xs :=
  ⟨h.1, fun hn => by
    obtain ⟨b, o, e, hlt, hc⟩ := h.2 hn
    refine ⟨b, o, e, Nat.lt_of_lt_of_le hlt hk.size, fun j hj => ?_⟩
    rw [← hc j hj]
    exact World.cell?_of_block (a := ⟨b, o + j, none⟩) (hk.block b hlt (fun s hs p hp => hf hn s hs p _ hp e))⟩

/-- The slice of slices (A, n) holds the slices ss. -/
def RdL (w : World) (A : Option Addr) (n : Nat) (ss : List Sl) : Prop :=
  ss.length = n ∧ (0 < n → ∃ b o, A = some ⟨b, o, none⟩ ∧ b < w.heap.size ∧ ∀ j s, ss[j]? = some s → w.cell? ⟨b, o + j, none⟩ = some s.v)

theorem RdL.kept {w wr : World} {A : Option Addr} {n : Nat} {ss tt : List Sl} (h : RdL w A n tt) (hk : Kept w wr ss) (hf : 0 < n → Far ss A) : RdL wr A n tt :=
  ⟨h.1, fun hn => by
    obtain ⟨b, o, e, hlt, hc⟩ := h.2 hn
    refine ⟨b, o, e, Nat.lt_of_lt_of_le hlt hk.size, fun j s hj => ?_⟩
    rw [← hc j s hj]
    exact World.cell?_of_block (a := ⟨b, o + j, none⟩) (hk.block b hlt (fun s hs p hp => hf hn s hs p _ hp e))⟩

theorem OwnS.rdL {w : World} {base c : Nat} {A : Option Addr} {ss : List Sl} (h : OwnS w base A c ss) : RdL w A ss.length ss := by
  refine ⟨rfl, fun hn => ?_⟩
  rcases h.2 with ⟨_, h0⟩ | ⟨g, cap, cur, hv, hg, hh, hnc, hcm, hcs, htake⟩
  · omega
  · injection hv with hA hl hc
    subst hA
    refine ⟨g, 0, rfl, (Array.getElem?_eq_some_iff.1 hh).1, fun j s hj => ?_⟩
    have hjl : j < ss.length := (List.getElem?_eq_some_iff.1 hj).1
    rw [cell_of_row w g _ cur _ (0, 0) hh, Nat.zero_add]
    have h1 : (cur.toList.take (ss.length * 1))[j]? = some s.v := by rw [htake, List.getElem?_map, hj]; rfl
    rw [List.getElem?_take, if_pos (by omega)] at h1
    simpa using h1

theorem RdL.at_ {w : World} {A : Option Addr} {n : Nat} {ss : List Sl} (h : RdL w A n ss) {j : Nat} (hj : j < n) :
    ∃ b o s, A = some ⟨b, o, none⟩ ∧ ss[j]? = some s ∧ w.cell? ⟨b, o + j, none⟩ = some (.slice s.A s.body.length s.c) := by
  obtain ⟨b, o, e, hlt, hc⟩ := h.2 (by omega)
  have hjl : j < ss.length := by rw [h.1]; exact hj
  have hf : ss[j]? = some ss[j] := List.getElem?_eq_getElem hjl
  exact ⟨b, o, _, e, hf, hc j _ hf⟩

/-- The rows of unlike slices lie in unlike blocks. -/
def Unlike (ss : List Sl) : Prop := ∀ (i j : Nat) (s t : Sl), ss[i]? = some s → ss[j]? = some t → i ≠ j → ∀ p q, s.A = some p → t.A = some q → p.block ≠ q.block

/-- The first i slices are spoiled. -/
def St2 (wr : World) (ss : List Sl) (i : Nat) : Prop :=
  ∀ (j : Nat) (s : Sl), ss[j]? = some s → (j < i → Own .u8 5 wr 0 s.A s.c (s.body.map spl)) ∧ (i ≤ j → Own .u8 5 wr 0 s.A s.c s.body)

theorem St2.step {wr w' : World} {ss : List Sl} {i : Nat} {s : Sl} (h : St2 wr ss i) (hun : Unlike ss) (hs : ss[i]? = some s) (ho : Own .u8 5 w' 0 s.A s.c (s.body.map spl)) (hg : wr.grownBy w' (s.A.map (·.block))) : St2 w' ss (i + 1) := by
  have hne : ∀ (j : Nat) (t : Sl), ss[j]? = some t → j ≠ i → ∀ a, t.A = some a → some a.block ≠ s.A.map (·.block) := by
    intro j t ht hji a ha e
    cases hA : s.A with
    | none => rw [hA] at e; simp at e
    | some p => rw [hA] at e; simp at e; exact hun j i t s ht hs hji a p ha hA e
  intro j t ht
  constructor
  · intro hj
    by_cases hji : j = i
    · subst hji
      rw [hs] at ht
      injection ht with ht
      subst ht
      exact ho
    · exact ((h j t ht).1 (by omega)).grown hg (hne j t ht hji)
  · intro hj
    exact ((h j t ht).2 (by omega)).grown hg (hne j t ht (by omega))

/-- All slices read as spoiled; those from i on may be written. -/
def St3 (wr : World) (ss : List Sl) (i : Nat) : Prop :=
  ∀ (j : Nat) (s : Sl), ss[j]? = some s → Rd .u8 wr s.A s.body.length (s.body.map spl) ∧ (i ≤ j → Own .u8 5 wr 0 s.A s.c (s.body.map spl))

/-- While bytes go behind the i-th slice. -/
structure St4 (w wr : World) (ss : List Sl) (i : Nat) (s : Sl) (A' : Option Addr) (c' k : Nat) (ys : List Nat) : Prop where
  own : Own .u8 5 wr 0 A' c' ys
  len : ys.length = s.body.length + k
  pre : ys.take s.body.length = s.body.map spl
  at_ : ∀ p, A' = some p → s.A = some p ∨ w.heap.size ≤ p.block
  rest : St3 wr ss (i + 1)
  kept : Kept w wr ss

theorem St4.push {w wr w1 : World} {ss : List Sl} {i c' c1 k x : Nat} {s : Sl} {A' A1 : Option Addr} {ys : List Nat} (h : St4 w wr ss i s A' c' k ys) (hun : Unlike ss) (hs : ss[i]? = some s)
    (hlt : ∀ t ∈ ss, ∀ p, t.A = some p → p.block < w.heap.size)
    (ho : Own .u8 5 w1 0 A1 c1 (ys ++ [x])) (hw : A1 = A' ∧ wr.grownBy w1 (A'.map (·.block)) ∨ Ext wr w1 ∧ ∀ q, A1 = some q → wr.heap.size ≤ q.block) :
    St4 w w1 ss i s A1 c1 (k + 1) (ys ++ [x]) := by
  have hp : (ys ++ [x]).take s.body.length = s.body.map spl := by rw [List.take_append_of_le_length (by have := h.len; omega)]; exact h.pre
  have hl : (ys ++ [x]).length = s.body.length + (k + 1) := by have := h.len; simp; omega
  rcases hw with ⟨rfl, hg⟩ | ⟨he, hq⟩
  · have hne : ∀ (j : Nat) (t : Sl), ss[j]? = some t → j ≠ i → ∀ a, t.A = some a → some a.block ≠ A1.map (·.block) := by
      intro j t ht hji a ha e
      cases hA : A1 with
      | none => rw [hA] at e; simp at e
      | some p =>
        rw [hA] at e
        simp at e
        rcases h.at_ p hA with h1 | h1
        · exact hun j i t s ht hs hji a p ha h1 e
        · have := hlt t (List.mem_of_getElem? ht) a ha
          omega
    refine ⟨ho, hl, hp, h.at_, fun j t ht => ?_, h.kept.grown hg ?_⟩
    · refine ⟨?_, fun hj => ((h.rest j t ht).2 hj).grown hg (hne j t ht (by omega))⟩
      by_cases hji : j = i
      · subst hji
        rw [hs] at ht
        injection ht with ht
        subst ht
        by_cases h0 : 0 < s.body.length
        · obtain ⟨b, o, hA, hb, _⟩ := (h.rest j s hs).1.2 h0
          obtain ⟨b', hA'⟩ := h.own.head (by have := h.len; omega)
          rcases h.at_ _ hA' with e | e
          · have := ho.rd_take (n := s.body.length) (by omega)
            rw [hp, hA', ← e] at this
            exact this
          · refine (h.rest j s hs).1.grown hg ?_
            intro a ha e2
            rw [hA'] at e2
            simp at e2
            have h3 := hlt s (List.mem_of_getElem? hs) a ha
            have h4 : w.heap.size ≤ b' := e
            omega
        · exact ⟨(h.rest j s hs).1.1, fun q => absurd q h0⟩
      · exact (h.rest j t ht).1.grown hg (hne j t ht hji)
    · intro g hg'
      cases hA : A1 with
      | none => rw [hA] at hg'; simp at hg'
      | some p =>
        rw [hA] at hg'
        simp at hg'
        subst hg'
        rcases h.at_ p hA with h1 | h1
        · exact .inr ⟨s, List.mem_of_getElem? hs, p, h1, rfl⟩
        · exact .inl h1
  · exact ⟨ho, hl, hp, fun p hp => .inr (Nat.le_trans h.kept.size (hq p hp)), fun j t ht => ⟨(h.rest j t ht).1.ext he, fun hj => ((h.rest j t ht).2 hj).ext he⟩, h.kept.ext he⟩

end Go.Proofs.YtlgcghjbekgnmaaGreat

-- part F8
/-
  The document's answers: lists of bytes as wanted, and memory apart from one another.
-/
namespace Go.Proofs.YtlgcghjbekgnmaaGreat
open Go.RowKit

theorem mod256' {k i : Nat} : IntKind.u8.wrap ((k : Int) + (i : Int)) = (((k + i) % 256 : Nat) : Int) := by rw [IntKind.wrap_u8']; omega

theorem St3.next {wr : World} {ss : List Sl} {i : Nat} (h : St3 wr ss i) : St3 wr ss (i + 1) := fun j s hs => ⟨(h j s hs).1, fun hj => (h j s hs).2 (by omega)⟩
theorem St2.all {wr : World} {ss : List Sl} {n : Nat} (h : St2 wr ss n) (hn : ss.length = n) : St3 wr ss 0 := fun j s hs => by
  have hj : j < n := by rw [← hn]; exact (List.getElem?_eq_some_iff.1 hs).1
  have ho := (h j s hs).1 hj
  exact ⟨ho.rd' (by rw [List.length_map]), fun _ => ho⟩

set_option maxHeartbeats 1600000 in
theorem apartAll_any (A A' : Option Addr) (n c c' : Nat) (ss ts : List Sl) (w : World) (hx : RdL w A n ss) (hy : RdL w A' n ts) (hb : ss.map Sl.body = ts.map Sl.body) (hn : n ≤ 1048576)
    (hs : ∀ s ∈ ss, Own .u8 5 w 0 s.A s.c s.body) (hu : ∀ s ∈ ss, U8 s.body) (hl : ∀ s ∈ ss, s.body.length ≤ 1048576) (ht : ∀ t ∈ ts, Rd .u8 w t.A t.body.length t.body) (hun : Unlike ss)
    (hfx : 0 < n → Far ss A) (hfy : 0 < n → Far ss A') (hft : ∀ t ∈ ts, 0 < t.body.length → Far ss t.A) :
    Calls Tryz.prog 13 #[.slice A n c, .slice A' n c'] w fun e w' => e = .returned (.bool true) ∧ Kept w w' ss := by
  have hblt : ∀ t ∈ ss, ∀ p, t.A = some p → p.block < w.heap.size := fun t ht p hp => ((hs t ht).block p hp).2
  have hpair : ∀ (j : Nat) (s t : Sl), ss[j]? = some s → ts[j]? = some t → t.body = s.body := by
    intro j s t h1 h2
    have e1 := congrArg (fun l : List (List Nat) => l[j]?) hb
    simp only [List.getElem?_map, h1, h2, Option.map_some] at e1
    injection e1 with e1
    exact e1.symm
  have Hl := Lib.hid hx.1
  clear hb
  go_enter Tryz.func13, Tryz.ntmps13
  go_wp2
  go_loopw [5] (fun i wr => ∃ j q : Nat, j ≤ n ∧ i = .int .i64 j ∧ wr = w.drewN q) (fun i _ => n - (intOf i).toNat)
  case atStart => exact ⟨0, 0, Nat.zero_le _, rfl, rfl⟩
  case round =>
    obtain ⟨j, q, hj, rfl, hw⟩ := hrel
    have hE : Ext w wr := by rw [hw]; exact (Ext.refl w).drewN q
    have hK : Kept w wr ss := (Kept.refl w ss).ext hE
    have Hw := Lib.hid hw
    clear hw
    by_cases hlt : j < n
    · obtain ⟨b, o, s, rfl, hf, h1⟩ := (hx.kept hK hfx).at_ hlt
      obtain ⟨b', o', t, rfl, hg, g1⟩ := (hy.kept hK hfy).at_ hlt
      have hbb := hpair j s t hf hg
      have h3 := ((hs s (List.mem_of_getElem? hf)).rd).ext hE
      have g3 := (ht t (List.mem_of_getElem? hg)).ext hE
      have hbf := hl s (List.mem_of_getElem? hf)
      rw [hbb] at g1 g3
      obtain ⟨sA, sc, body⟩ := s
      obtain ⟨tA, tc, tbody⟩ := t
      simp only at h1 h3 g1 g3 hbf
      clear hbb hf hg
      have hji : (j : Int) < (n : Int) := by omega
      have hbf2 : body.length ≤ 281474976710656 := by omega
      go_wp2_with fail
      go_quiet ((go_at_call 33; exact Calls.quiet_of (same_yes (h3.drewN _) (g3.drewN _) hbf2)))
      go_wp2
      go_roundw
      case rel => exact ⟨j + 1, _, by omega, by go_num, by rw [Hw.out, World.drewN_drewN]⟩
      case measure => simp [intOf]; omega
    · obtain rfl : j = n := by omega
      have h0 : St2 wr ss 0 := fun j s h => ⟨fun h2 => absurd h2 (by omega), fun _ => (hs s (List.mem_of_getElem? h)).ext hE⟩
      clear Hw hE q
      go_wp2
      go_loopw [6] (fun i wx => ∃ i2 : Nat, i2 ≤ j ∧ i = .int .i64 i2 ∧ Kept w wx ss ∧ St2 wx ss i2) (fun i _ => j - (intOf i).toNat)
      case atStart => exact ⟨0, Nat.zero_le _, rfl, hK, h0⟩
      case round =>
        clear h0 hK
        obtain ⟨i2, hi2, rfl, hK, hS⟩ := hrel
        by_cases hlt2 : i2 < j
        · obtain ⟨b, o, s, rfl, hf, h1⟩ := (hx.kept hK hfx).at_ hlt2
          have hm := List.mem_of_getElem? hf
          have ho := (hS i2 s hf).2 (Nat.le_refl _)
          have hbf := hl s hm
          have hus := hu s hm
          have HK := Lib.hid hK
          have HS := Lib.hid hS
          have Hf := Lib.hid hf
          clear hK hS hf
          go_wp2_with fail
          refine (spoil_any _ _ _ 0 _ _ ho rfl hus (by omega)).mono ?_
          rintro e w3 ⟨rfl, ho3, hg3⟩
          go_wp2
          go_roundw
          case rel => exact ⟨i2 + 1, by omega, by go_num, HK.out.grown hg3 (fun g hg => by
            cases hA : s.A with
            | none => rw [hA] at hg; simp at hg
            | some p => rw [hA] at hg; simp at hg; exact .inr ⟨s, hm, p, hA, hg⟩), HS.out.step hun Hf.out ho3 hg3⟩
          case measure => simp [intOf]; omega
        · obtain rfl : i2 = j := by omega
          have h0 := hS.all Hl.out
          clear hS
          go_wp2
          go_loopw [7, 8] (fun v i wx => ∃ i3 m : Nat, i3 ≤ i2 ∧ i = .int .i64 i3 ∧ v = .int .i64 m ∧ m ≤ i3 * 2097152 ∧ Kept w wx ss ∧ St3 wx ss i3) (fun _ i _ => i2 - (intOf i).toNat)
          case atStart => exact ⟨0, 0, Nat.zero_le _, rfl, rfl, by omega, hK, h0⟩
          case round =>
            clear h0 hK
            obtain ⟨i3, m, hi3, rfl, rfl, hmm, hK, hS⟩ := hrel
            by_cases hlt3 : i3 < i2
            · obtain ⟨b, o, s, rfl, hf, h1⟩ := (hx.kept hK hfx).at_ hlt3
              have hm := List.mem_of_getElem? hf
              have hbf := hl s hm
              have h4 : St4 w wr ss i3 s s.A s.c 0 (s.body.map spl) := ⟨(hS i3 s hf).2 (Nat.le_refl _), by simp, by rw [List.take_of_length_le (by simp)], fun p hp => .inl hp, hS.next, hK⟩
              have Hf := Lib.hid hf
              clear hK hS hf
              go_wp2
              go_loopw [9, 10] (fun v i wx => ∃ (k : Nat) (A1 : Option Addr) (c1 : Nat) (ys : List Nat), k ≤ 70 ∧ i = .int .i64 k ∧ v = .slice A1 (s.body.length + k : Nat) c1 ∧ St4 w wx ss i3 s A1 c1 k ys) (fun _ i _ => 70 - (intOf i).toNat)
              case atStart => exact ⟨0, _, _, _, Nat.zero_le _, rfl, rfl, h4⟩
              case round =>
                clear h4
                obtain ⟨k, A1, c1, ys, hk, rfl, rfl, h4⟩ := hrel
                by_cases hlt4 : k < 70
                · have hmod := mod256' (k := k) (i := i3)
                  have Hown := Lib.hid h4.own
                  have Hlen := Lib.hid h4.len
                  have H4 := Lib.hid h4
                  clear h4
                  go_wp2_with (at_builtin; refine wpList_push2 .u8 ((k + i3) % 256) 5 rfl _ _ 22 rfl _ 1 Tryz.underlying22 Tryz.infoU8 rfl Hown.out (s.body.length + k) Hlen.out rfl rfl (by first | rfl | exact hmod | omega | go_num) (by omega) (by omega) (Nat.zero_le _) ?_; intro A2 c2 w5 hown5 hw5 hz5)
                  have Hn := Lib.hid (H4.out.push hun Hf.out hblt hown5 hw5)
                  clear hown5 hw5 hz5
                  go_wp2
                  go_roundw
                  case rel => exact ⟨k + 1, A2, c2, _, by omega, by go_num, rfl, Hn.out⟩
                  case measure => simp [intOf]; omega
                · obtain rfl : k = 70 := by omega
                  have hS := h4.rest
                  have hK := h4.kept
                  clear h4
                  go_wp2
                  go_roundw
                  case rel => exact ⟨i3 + 1, m + (s.body.length + 70), by omega, by go_num, by go_num, by omega, hK, hS⟩
                  case measure => simp [intOf]; omega
            · obtain rfl : i3 = i2 := by omega
              obtain ⟨W3, hW3⟩ : ∃ W3, W3 = wr := ⟨_, rfl⟩
              rw [← hW3] at hK hS
              have HK := Lib.hid hK
              have HS := Lib.hid hS
              clear hK hS
              go_wp2
              go_loopw [11] (fun i wx => ∃ i4 q : Nat, i4 ≤ i3 ∧ i = .int .i64 i4 ∧ wx = W3.drewN q) (fun i _ => i3 - (intOf i).toNat)
              case atStart => exact ⟨0, 0, Nat.zero_le _, rfl, hW3.symm⟩
              case round =>
                obtain ⟨i4, q, hi4, rfl, hw⟩ := hrel
                have hE : Ext W3 wr := by rw [hw]; exact (Ext.refl _).drewN q
                have hK : Kept w wr ss := HK.out.ext hE
                have Hw := Lib.hid hw
                clear hw
                by_cases hlt4 : i4 < i3
                · obtain ⟨b, o, s, rfl, hf, h1⟩ := (hx.kept hK hfx).at_ hlt4
                  obtain ⟨b', o', t, rfl, hg, g1⟩ := (hy.kept hK hfy).at_ hlt4
                  have hbb := hpair i4 s t hf hg
                  have hmt := List.mem_of_getElem? hg
                  have h3 := (HS.out i4 s hf).1.ext hE
                  have g3 := (ht t hmt).kept hK (hft t hmt)
                  have hbf := hl s (List.mem_of_getElem? hf)
                  have hus := hu s (List.mem_of_getElem? hf)
                  rw [hbb] at g1 g3
                  obtain ⟨sA, sc, body⟩ := s
                  obtain ⟨tA, tc, tbody⟩ := t
                  simp only at h1 h3 g1 g3 hbf hus
                  clear hbb hf hg hmt hK
                  have hji : (i4 : Int) < (i3 : Int) := by omega
                  have hbf2 : body.length ≤ 281474976710656 := by omega
                  go_wp2_with fail
                  go_quiet ((go_at_call 52; exact Calls.quiet_of (turned_yes (h3.drewN _) (g3.drewN _) hus hbf2)))
                  go_wp2
                  go_roundw
                  case rel => exact ⟨i4 + 1, _, by omega, by go_num, by rw [Hw.out, World.drewN_drewN]⟩
                  case measure => simp [intOf]; omega
                · obtain rfl : i4 = i3 := by omega
                  go_wp2
                  go_ret
                  exact ⟨by simp, hK⟩

/-- The bodies lie between these two sizes of the memory. -/
def Within (ss : List Sl) (lo hi : Nat) : Prop := ∀ s ∈ ss, ∀ p, s.A = some p → lo ≤ p.block ∧ p.block < hi

theorem Within.far_hi {ss : List Sl} {lo hi : Nat} (h : Within ss lo hi) {A : Option Addr} (hA : ∀ a, A = some a → hi ≤ a.block) : Far ss A := by
  intro s hs p q hp hq
  have h1 := h s hs p hp
  have h2 := hA q hq
  omega
theorem Within.far_lo {ss : List Sl} {lo hi : Nat} (h : Within ss lo hi) {A : Option Addr} (hA : ∀ a, A = some a → a.block < lo) : Far ss A := by
  intro s hs p q hp hq
  have h1 := h s hs p hp
  have h2 := hA q hq
  omega

theorem Kept.toExt {w w0 wr : World} {ss : List Sl} (h : Kept w wr ss) (he : Ext w0 w) (hs : ∀ s ∈ ss, ∀ p, s.A = some p → w0.heap.size ≤ p.block) : Ext w0 wr :=
  ⟨h.os.trans he.os, h.tape.trans he.tape, h.output.trans he.output, Nat.le_trans he.size h.size, fun b hb => (h.block b (Nat.lt_of_lt_of_le hb he.size) (fun s hs' p hp e => by have := hs s hs' p hp; omega)).trans (he.block b hb)⟩

end Go.Proofs.YtlgcghjbekgnmaaGreat

/-
  Slicing of bytes, whatever the capacity: the pieces' addresses stay behind a name.
-/
namespace Go.Proofs.YtlgcghjbekgnmaaGreat
open Go.RowKit
set_option maxRecDepth 100000

theorem Tryz.elemU8 : Tryz.prog.elem 22 = 5 := by kernel_rfl
theorem run_sizeU8 (w : World) : (sizeOf (Tryz.prog.elem 22)).run Tryz.prog w = .ok 1 w := by
  obtain ⟨i, hi0, hz, hsz, hbs⟩ := info_parts Tryz.infoU8
  rw [Tryz.elemU8]
  simp [sizeOf, typeInfo, hi0, hsz]
theorem Tryz.underSl : Tryz.prog.underlying 22 = some (.slice (Tryz.prog.elem 22)) := by kernel_rfl

/-- The address of what is left behind k bytes of capacity m. -/
def offA (A : Option Addr) (k m : Nat) : Option Addr := if m = k then A else A.map (·.add k)

theorem Rd.offA {w : World} {A : Option Addr} {n k m : Nat} {bs : List Nat} (h : Rd .u8 w A n bs) (hk : k ≤ n) (hm : n ≤ m) : Rd .u8 w (offA A k m) (n - k) (bs.drop k) := by
  refine ⟨by rw [List.length_drop, h.1], fun hn => ?_⟩
  obtain ⟨b, o, rfl, hb, hc⟩ := h.2 (by omega)
  refine ⟨b, o + k, by unfold Go.Proofs.YtlgcghjbekgnmaaGreat.offA; rw [if_neg (by omega)]; simp [Addr.add], hb, fun j hj => ?_⟩
  have := hc (k + j) (by omega)
  rw [Nat.add_assoc, this]
  simp [List.getD, List.getElem?_drop]

/-- b[k:] -/
theorem run_from (A : Option Addr) (n c k : Nat) (hk : k ≤ n) : ∀ W : World, (Instr.slice 22 (.slice A n c) (some (.int .i64 (k : Int))) none none).run Tryz.prog W = .ok (.slice (offA A k c) (n - k : Nat) (c - k : Nat)) W := by
  intro W
  rw [run_slice_l W _ A n c Tryz.underSl .i64 k (by omega) (by omega), run_sizeU8]
  simp only [Result.andThen, sliced, Int.toNat_natCast, Nat.mul_one]
  rfl
/-- b[:k] -/
theorem run_upto (kh : IntKind) (A : Option Addr) (n c k : Nat) (hk : k ≤ c) : ∀ W : World, (Instr.slice 22 (.slice A n c) none (some (.int kh (k : Int))) none).run Tryz.prog W = .ok (.slice A k c) W := by
  intro W
  rw [run_slice_h W _ A n c Tryz.underSl kh k (by omega) (by omega), run_sizeU8]
  simp only [Result.andThen, sliced, Int.toNat_natCast, Nat.mul_one, Nat.sub_zero]
  congr 1
  split
  · rfl
  · cases A with
    | none => rfl
    | some a => simp [Addr.add]
/-- b[l:h] -/
theorem run_cut (A : Option Addr) (n c l h : Nat) (hl : l ≤ h) (hh : h ≤ c) : ∀ W : World, (Instr.slice 22 (.slice A n c) (some (.int .i64 (l : Int))) (some (.int .i64 (h : Int))) none).run Tryz.prog W = .ok (.slice (offA A l c) (h - l : Nat) (c - l : Nat)) W := by
  intro W
  rw [run_slice_lh W _ A n c Tryz.underSl .i64 .i64 l h (by omega) (by omega) (by omega), run_sizeU8]
  simp only [Result.andThen, sliced, Int.toNat_natCast, Nat.mul_one]
  rfl
theorem Rd.upto {w : World} {A : Option Addr} {n k : Nat} {bs : List Nat} (h : Rd .u8 w A n bs) (hk : k ≤ n) : Rd .u8 w A k (bs.take k) := by
  refine ⟨by rw [List.length_take, h.1]; omega, fun hn => ?_⟩
  obtain ⟨b, o, e, hb, hc⟩ := h.2 (by omega)
  refine ⟨b, o, e, hb, fun j hj => ?_⟩
  rw [hc j (by omega)]
  simp [List.getD, hj]
theorem Rd.cut {w : World} {A : Option Addr} {n l h c : Nat} {bs : List Nat} (hr : Rd .u8 w A n bs) (hl : l ≤ h) (hh : h ≤ n) (hc : n ≤ c) : Rd .u8 w (Go.Proofs.YtlgcghjbekgnmaaGreat.offA A l c) (h - l) ((bs.drop l).take (h - l)) :=
  (hr.offA (k := l) (m := c) (by omega) hc).upto (by omega)

end Go.Proofs.YtlgcghjbekgnmaaGreat

/-
  Plain mathematics: what was put is got, and is the only way to write it.
-/
namespace Go.Proofs.YtlgcghjbekgnmaaGreat
open Go.RowKit
set_option maxRecDepth 100000

/-- What is got is the only way to write it. -/
theorem vgetF_ok {l : List Nat} : ∀ {i u v k : Nat}, U8 l → i ≤ 9 → u < 2 ^ (7 * i) → vgetF i u l = (v, k, 0) →
    i < k ∧ k ≤ i + l.length ∧ v < 18446744073709551616 ∧ ∃ x, v = u + x * 2 ^ (7 * i) ∧ l.take (k - i) = vput x ∧ (0 < i → 0 < x) := by
  induction l with
  | nil => intro i u v k _ _ _ h; rw [vgetF_nil] at h; injection h with _ h; injection h with _ h; cases h
  | cons c r ih =>
    intro i u v k hl hi hu h
    have hc : c < 256 := hl c List.mem_cons_self
    by_cases h9 : i = 9 ∧ 1 < c
    · rw [vgetF_wide h9.1 h9.2] at h; injection h with _ h; injection h with _ h; cases h
    · obtain ⟨hb1, hb2⟩ := vget_bound hi hu h9
      by_cases h128 : c < 128
      · by_cases hz : c = 0 ∧ 0 < i
        · rw [vgetF_form h9 hz.1 hz.2] at h; injection h with _ h; injection h with _ h; cases h
        · rw [vgetF_end h9 h128 hz] at h
          injection h with h1 h
          injection h with h2 _
          rw [Nat.mod_eq_of_lt h128] at h1 hb1
          refine ⟨by omega, by rw [List.length_cons]; omega, by omega, c, h1.symm, ?_, by omega⟩
          rw [show k - i = 1 from by omega, vput_small h128]
          rfl
      · rw [vgetF_more h9 h128] at h
        have hi9 : i < 9 := by omega
        obtain ⟨q1, q2, q3, x, e1, e2, e3⟩ := ih (fun y hy => hl y (List.mem_cons_of_mem _ hy)) (by omega) (hb2 hi9) h
        have hx := e3 (by omega)
        refine ⟨by omega, by rw [List.length_cons]; omega, q3, c % 128 + 128 * x, ?_, ?_, by omega⟩
        · rw [e1, show 7 * (i + 1) = 7 + 7 * i from by omega, Nat.pow_add, Nat.add_mul, Nat.add_assoc, ← Nat.mul_assoc, Nat.mul_comm x]
        · rw [show k - i = (k - (i + 1)) + 1 from by omega, List.take_succ_cons, e2, vput_big (u := c % 128 + 128 * x) (by omega), show (c % 128 + 128 * x) / 128 = x from by omega, show (c % 128 + 128 * x) % 128 + 128 = c from by omega]

/-- What was put is got. -/
theorem vgetF_put (rest : List Nat) : ∀ {s i w u : Nat}, i + s ≤ 9 → u < 2 ^ (7 * s + 7) → (i + s = 9 → u < 2 ^ (7 * s + 1)) → (0 < s → 128 ^ s ≤ u) → (0 < i → 0 < u) →
    vgetF i w (vputN s u ++ rest) = (w + u * 2 ^ (7 * i), i + s + 1, 0) := by
  intro s
  induction s with
  | zero =>
    intro i w u h1 h2 h3 _ h5
    have e : (2 : Nat) ^ (7 * 0 + 7) = 128 := rfl
    have e2 : (2 : Nat) ^ (7 * 0 + 1) = 2 := rfl
    rw [e] at h2
    rw [e2] at h3
    show vgetF i w (u :: rest) = _
    rw [vgetF_end (by omega) h2 (by omega), Nat.mod_eq_of_lt h2]
  | succ s ih =>
    intro i w u h1 h2 h3 h4 h5
    have h4' := h4 (by omega)
    have hp : 128 ≤ 128 ^ (s + 1) := by have := Nat.pow_le_pow_right (n := 128) (by omega) (show 1 ≤ s + 1 by omega); simpa using this
    show vgetF i w ((u % 128 + 128) :: (vputN s (u / 128) ++ rest)) = _
    rw [vgetF_more (by omega) (by omega), ih (by omega) (shift_lt h2) ?_ ?_ (by omega)]
    · simp only [Prod.mk.injEq, and_true]
      refine ⟨?_, by omega⟩
      rw [show (u % 128 + 128) % 128 = u % 128 from by omega, show 7 * (i + 1) = 7 + 7 * i from by omega, Nat.pow_add, show (2 : Nat) ^ 7 = 128 from rfl, ← Nat.mul_assoc, Nat.add_assoc, ← Nat.add_mul]
      congr 2
      omega
    · intro h
      have h6 := h3 (by omega)
      apply Nat.div_lt_of_lt_mul
      rw [show (128 : Nat) = 2 ^ 7 from rfl, ← Nat.pow_add, show 7 + (7 * s + 1) = 7 * (s + 1) + 1 from by omega]
      exact h6
    · intro _
      rw [Nat.le_div_iff_mul_le (by omega), ← Nat.pow_succ]
      exact h4'

theorem vgetF_short : ∀ {s i w u : Nat}, i + s ≤ 9 → vgetF i w ((vputN s u).take s) = (0, 0, 2) := by
  intro s
  induction s with
  | zero => intro i w u _; rw [List.take_zero]; exact vgetF_nil i w
  | succ s ih =>
    intro i w u h
    show vgetF i w ((u % 128 + 128) :: ((vputN s (u / 128)).take s)) = _
    rw [vgetF_more (by omega) (by omega), ih (by omega)]

theorem vput_form {u : Nat} (hu : u < 18446744073709551616) : ∃ s, vput u = vputN s u ∧ vsize u = s + 1 ∧ s ≤ 9 ∧ u < 2 ^ (7 * s + 7) ∧ (s = 9 → u < 2 ^ (7 * s + 1)) ∧ (0 < s → 128 ^ s ≤ u) := by
  have h64 := bl_64 hu
  have hb := bl_le.1 (Nat.le_refl (bl u))
  refine ⟨(bl u - 1) / 7, rfl, rfl, by omega, Nat.lt_of_lt_of_le hb (Nat.pow_le_pow_right (by omega) (by omega)), fun h => ?_, fun h => ?_⟩
  · rw [h]; exact hu
  · rcases Nat.lt_or_ge u (128 ^ ((bl u - 1) / 7)) with hlt | hge
    · rw [show (128 : Nat) = 2 ^ 7 from rfl, ← Nat.pow_mul, ← bl_le] at hlt
      omega
    · exact hge

theorem vgetF_vput {u : Nat} (hu : u < 18446744073709551616) (rest : List Nat) : vgetF 0 0 (vput u ++ rest) = (u, vsize u, 0) := by
  obtain ⟨s, e1, e2, e3, e4, e5, e6⟩ := vput_form hu
  rw [e1, e2, vgetF_put rest (by omega) e4 (fun h => e5 (by omega)) e6 (by omega)]
  simp

theorem vget_cut {u : Nat} (hu : u < 18446744073709551616) : vgetF 0 0 ((vput u).take (vsize u - 1)) = (0, 0, 2) := by
  obtain ⟨s, e1, e2, e3, _⟩ := vput_form hu
  rw [e1, e2, Nat.add_sub_cancel, vgetF_short (by omega)]

/-- A number that was got: where it stands, and as what. -/
theorem vget_at {bs : List Nat} {a n : Int} {v : Nat} (hb : U8 bs) (h : vget bs a = (v, n, 0)) : 0 ≤ a ∧ a < n ∧ n ≤ bs.length ∧ v < 18446744073709551616 ∧ vput v = (bs.drop a.toNat).take (n.toNat - a.toNat) := by
  unfold vget at h
  by_cases h1 : a < 0 ∨ (bs.length : Int) < a
  · rw [if_pos h1] at h; injection h with _ h; injection h with _ h; omega
  · rw [if_neg h1] at h
    rcases hR : vgetF 0 0 (bs.drop a.toNat) with ⟨v', k', e'⟩
    rw [hR] at h
    simp only at h
    by_cases h2 : e' = 0
    · rw [if_pos h2] at h
      injection h with e1 h
      injection h with e2 _
      subst e1
      subst h2
      obtain ⟨q1, q2, q3, x, e3, e4, _⟩ := vgetF_ok (fun y hy => hb y (List.mem_of_mem_drop hy)) (by omega) (by decide) hR
      rw [List.length_drop] at q2
      simp at e3
      subst e3
      exact ⟨by omega, by omega, by omega, q3, by rw [← e4]; congr 1; omega⟩
    · rw [if_neg h2] at h
      injection h with _ h
      injection h with _ h
      omega

theorem vget_bounds {bs : List Nat} {a : Int} (hb : U8 bs) (hl : bs.length ≤ 140737488355328) : (vget bs a).1 < 18446744073709551616 ∧ 0 ≤ (vget bs a).2.1 ∧ (vget bs a).2.1 ≤ bs.length := by
  rcases h : vget bs a with ⟨v, n, e⟩
  by_cases he : e = 0
  · subst he
    obtain ⟨h1, h2, h3, h4, _⟩ := vget_at hb h
    exact ⟨h4, by show 0 ≤ n; omega, h3⟩
  · unfold vget at h
    split at h
    · injection h with h1 h; injection h with h2 _; subst h1; subst h2; exact ⟨by show 0 < _; omega, Int.le_refl _, by show (0 : Int) ≤ _; omega⟩
    · split at h
      · injection h with _ h; injection h with _ h; exact absurd h.symm he
      · injection h with h1 h; injection h with h2 _; subst h1; subst h2; exact ⟨by show 0 < _; omega, Int.le_refl _, by show (0 : Int) ≤ _; omega⟩

theorem piece_of (bs : List Nat) (a n : Int) : piece bs a n = (bs.drop a.toNat).take (n.toNat - a.toNat) := by
  unfold piece
  rw [List.drop_take]

theorem vget_zero {bs : List Nat} {a n e : Int} {v : Nat} (h : vget bs a = (v, n, e)) (he : e ≠ 0) : v = 0 ∧ n = 0 := by
  unfold vget at h
  split at h
  · injection h with h1 h; injection h with h2 _; exact ⟨h1.symm, h2.symm⟩
  · split at h
    · injection h with _ h; injection h with _ h; exact absurd h.symm he
    · injection h with h1 h; injection h with h2 _; exact ⟨h1.symm, h2.symm⟩

theorem u8_take {b : List Nat} (h : U8 b) (n : Nat) : U8 (b.take n) := fun v hv => h v (List.mem_of_mem_take hv)
theorem u8_drop {b : List Nat} (h : U8 b) (n : Nat) : U8 (b.drop n) := fun v hv => h v (List.mem_of_mem_drop hv)
def cut (bs : List Nat) (a m : Nat) : List Nat := (bs.drop a).take m
theorem cut_len {bs : List Nat} {a m : Nat} (h : a + m ≤ bs.length) : (cut bs a m).length = m := by simp [cut]; omega
theorem cut_u8 {bs : List Nat} (h : U8 bs) (a m : Nat) : U8 (cut bs a m) := u8_take (u8_drop h a) m
theorem cut_at {bs : List Nat} {a m i : Nat} (hi : i < m) : (cut bs a m).getD i 0 = bs.getD (a + i) 0 := by
  simp [cut, List.getD, List.getElem?_drop, hi]

theorem piece_cutm {bs : List Nat} (a m : Nat) : piece bs (a : Int) ((a : Int) + (m : Int)) = cut bs a m := by
  unfold piece
  rw [show ((a : Int) + (m : Int)).toNat = a + m from by omega, Int.toNat_natCast, cut, List.drop_take]
  congr 1
  omega

end Go.Proofs.YtlgcghjbekgnmaaGreat
