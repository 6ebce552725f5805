import Derived.Test.YtnkggopkcjffoaaDoorG3
import Derived.Test.YtnkggopkcjffoaaDoorRows
import Derived.Test.YtnkggopkcjffoaaDoorG1
import Derived.JoinedCond
import Derived.Deep.CondSized
import Derived.Lib.SmallJoins
import Derived.Deep.Slices
import Derived.Test.YtnkggopkcjffoaaDoorG2
import Derived.Lib.AppendZeros
import Derived.Lib.SliceRun

/-
  Layer 7's ground: rows copied whole.
-/
namespace Go.Proofs.YtnkggopkcjffoaaDoor
open Go.RowKit

theorem Tryd.infoCell : (Tryd.prog.info? 63).map (fun i => (i.zero, i.size, i.bytes)) = some (some (.agg #[.bool false, .int .i64 0, .slice none 0 0]), 3, 40) := by kernel_rfl

def Ci.cells (x : Ci) : List Value := [.bool x.nul, .int .i64 x.num, .slice x.A x.txt.length x.c]

def xcells (xs : List Ci) : List Value := (xs.map Ci.cells).flatten

theorem xcells_snoc (xs : List Ci) (x : Ci) : xcells (xs ++ [x]) = xcells xs ++ x.cells := by simp [xcells]

theorem xcells_len (xs : List Ci) : (xcells xs).length = xs.length * 3 := by
  induction xs with
  | nil => rfl
  | cons f r ih =>
    have : xcells (f :: r) = f.cells ++ xcells r := by simp [xcells]
    rw [this, List.length_append, ih, List.length_cons]
    show 3 + _ = _
    omega

theorem xcells_at {xs : List Ci} {j : Nat} {x : Ci} (h : xs[j]? = some x) (i : Nat) (hi : i < 3) : (xcells xs)[j * 3 + i]? = x.cells[i]? := by
  induction xs generalizing j with
  | nil => simp at h
  | cons f r ih =>
    have hc : xcells (f :: r) = f.cells ++ xcells r := by simp [xcells]
    have hf : f.cells.length = 3 := rfl
    rw [hc]
    cases j with
    | zero =>
      simp at h
      subst h
      rw [Nat.zero_mul, Nat.zero_add, List.getElem?_append_left (by omega)]
    | succ j =>
      rw [List.getElem?_append_right (by omega), hf, ← ih (j := j) (by simpa using h)]
      congr 1
      omega

/-- A row of cells of the call's own; their texts, each of the call's own, each behind the one ahead. -/
def OwnX (w : World) (base : Nat) (A : Option Addr) (c : Nat) (xs : List Ci) : Prop := w.ownsRow base 63 3 (.slice A xs.length c) xs.length (xcells xs)

def TxtX (w : World) (base : Nat) (xs : List Ci) : Prop :=
  (∀ x ∈ xs, Own .u8 5 w base x.A x.c x.txt) ∧ xs.Pairwise fun f g => ∀ p q, f.A = some p → g.A = some q → p.block < q.block

theorem OwnX.nil (w : World) (base : Nat) : OwnX w base none 0 [] := World.ownsRow_nil w base _ 3

theorem OwnX.made {base : Nat} (w : World) (hb : base ≤ w.heap.size) : OwnX (w.alloc (.cells #[] 63)) base (some ⟨w.heap.size, 0, none⟩) 0 [] :=
  World.ownsRow_made w #[] 0 hb (by simp [maxLen]) (by simp)

theorem OwnX.ext {w w' : World} {base c : Nat} {A : Option Addr} {xs : List Ci} (h : OwnX w base A c xs) (hb : Ext w w') : OwnX w' base A c xs := by
  refine World.ownsRow.kept (row := none) h ⟨hb.os, hb.tape, hb.output, hb.size, fun i hi _ => hb.block i hi⟩ ?_
  cases hv : (Value.slice A xs.length c).ownBlock <;> simp

theorem TxtX.nil (w : World) (base : Nat) : TxtX w base [] := ⟨fun f h => (by cases h), .nil⟩

theorem TxtX.ext {w w' : World} {base : Nat} {xs : List Ci} (h : TxtX w base xs) (hb : Ext w w') : TxtX w' base xs := ⟨fun f hf => (h.1 f hf).ext hb, h.2⟩

theorem own_neX {w : World} {base base' c c' : Nat} {A A' : Option Addr} {fs : List Ci} {xs : List Nat} (h : OwnX w base A c fs) (k : Own .u8 5 w base' A' c' xs) : ∀ a, A' = some a → some a.block ≠ (Value.slice A fs.length c).ownBlock := by
  rintro a rfl e
  rcases h.2 with ⟨hv, _⟩ | ⟨g, cap, cur, hv, hg, hh, _⟩
  · rw [hv] at e; simp [Value.ownBlock] at e
  · rw [hv] at e
    simp [Value.ownBlock] at e
    rcases k.2 with ⟨hv', _⟩ | ⟨g', cap', cur', hv', _, hh', _⟩
    · cases hv'
    · injection hv' with hA
      injection hA with hA
      subst hA
      simp at e
      subst e
      rw [hh] at hh'
      injection hh' with hh'
      injection hh' with h1 h2 h3
      exact absurd h2 (by decide)

theorem TxtX.grown {w w' : World} {base base' c : Nat} {A : Option Addr} {fs gs : List Ci} (h : TxtX w base fs) (k : OwnX w base' A c gs) (hg : w.grownBy w' (Value.slice A gs.length c).ownBlock) : TxtX w' base fs :=
  ⟨fun f hf => (h.1 f hf).grown hg (own_neX k (h.1 f hf)), h.2⟩

theorem TxtX.snoc {w : World} {base base' : Nat} {fs : List Ci} {f : Ci} (h : TxtX w base fs) (hf : Own .u8 5 w base' f.A f.c f.txt) (hb : base ≤ base') (hl : ∀ g ∈ fs, ∀ p, g.A = some p → p.block < base') : TxtX w base (fs ++ [f]) := by
  refine ⟨fun g hg => ?_, ?_⟩
  · rcases List.mem_append.1 hg with h1 | h1
    · exact h.1 g h1
    · simp at h1; subst h1; exact hf.mono hb
  · rw [List.pairwise_append]
    refine ⟨h.2, by simp, fun g hg f' hf' p q hp hq => ?_⟩
    simp at hf'
    subst hf'
    exact Nat.lt_of_lt_of_le (hl g hg p hp) (hf.block q hq).1

/-- Of what is handed in nothing but the place differs. -/
theorem In_of_val {w : World} {x y : Ci} (h : x.val = y.val) {W : World} (hy : y.In W) (hr : Rd .u8 w x.A x.txt.length x.txt) : x.In w := by
  unfold Ci.val at h
  injection h with h1 h2
  injection h2 with h2 h3
  exact ⟨hr, h3 ▸ hy.u8, h2 ▸ hy.lo, h2 ▸ hy.hi, h3 ▸ hy.len⟩

theorem OwnX.rdX {w : World} {base c : Nat} {A : Option Addr} {xs : List Ci} (h : OwnX w base A c xs) (k : ∀ x ∈ xs, x.In w) : RdX w A xs.length xs := by
  refine ⟨rfl, fun hn => ?_⟩
  rcases h.2 with ⟨_, h0⟩ | ⟨g, cap, cur, hv, hg, hh, hnc, hcm, hcs, htake⟩
  · omega
  · injection hv with hA hl hc
    subst hA
    have hlt : g < w.heap.size := (Array.getElem?_eq_some_iff.1 hh).1
    refine ⟨g, 0, rfl, hlt, fun j x hj => ?_⟩
    have hjl : j < xs.length := (List.getElem?_eq_some_iff.1 hj).1
    have hat : ∀ i, i < xs.length * 3 → cur[i]? = (xcells xs)[i]? := fun i hi => by
      rw [← htake, List.getElem?_take, if_pos hi]
      simp
    refine ⟨?_, ?_, ?_, k x (List.mem_of_getElem? hj)⟩
    · rw [cell_of_row w g _ cur _ (0, 0) hh, Nat.zero_add, hat _ (by omega)]; exact xcells_at hj 0 (by omega)
    · rw [cell_of_row w g _ cur _ (0, 0) hh, Nat.zero_add, hat _ (by omega)]; exact xcells_at hj 1 (by omega)
    · rw [cell_of_row w g _ cur _ (0, 0) hh, Nat.zero_add, hat _ (by omega)]; exact xcells_at hj 2 (by omega)

/-- 'append(row, x)'. -/
theorem wpList_pushX {w0 w : World} {ops : Array Oper} {rest : List Oper} {o : Oper} {a : Act} {Q : Exit → Act → World → Prop} (f : Ci) (hgd : o.guard = none) (s y : Operand)
    (ho : o.op = .call { callee := .builtin .append, args := #[s, y], argTypes := #[25, 25] })
    {base : Nat} {A : Option Addr} {c : Nat} {fs : List Ci} (hown : OwnX w base A c fs) (n : Nat) (hn : fs.length = n) (hs : a.eval s = .slice A n c)
    {g : Nat} (hy : a.eval y = .slice (some ⟨g, 0, none⟩) 1 1) (hg : w.heap[g]? = some (.cells #[.bool f.nul, .int .i64 f.num, .slice f.A f.txt.length f.c] 63))
    (hlen : n ≤ 4398046511104) (hb : Below base w0 w) (hbase : base ≤ w.heap.size)
    (h : ∀ A' c' w', OwnX w' base A' c' (fs ++ [f]) → w.grownBy w' (Value.slice A fs.length c).ownBlock → Below base w0 w' → base ≤ w'.heap.size → wpList Tryd.prog ops Q rest (a.put o.dst (.slice A' (n + 1) c')) w') :
    wpList Tryd.prog ops Q (o :: rest) a w := by
  subst hn
  obtain ⟨i, hi0, hz, hsz, hbs⟩ := info_parts Tryd.infoCell
  refine wpList_append_own_wide w hgd s y 25 ho base 63 i _ 3 40 Tryd.underlying25 hi0 hz hsz hbs rfl (by decide) _ fs.length (xcells fs) hs hown
    ⟨g, 0, none⟩ 1 1 f.cells hy rfl ?_ ?_ (by unfold maxLen; omega) (by omega) hbase ?_
  · intro j u hj
    have hcr : w.cell? ((⟨g, 0, none⟩ : Addr).add j) = #[Value.bool f.nul, .int .i64 f.num, .slice f.A f.txt.length f.c][j]? := by
      rw [show (⟨g, 0, none⟩ : Addr).add j = ⟨g, j, none⟩ from by unfold Addr.add; split <;> simp_all]
      exact cell_of_row w g j _ _ (0, 0) hg
    rw [hcr, ← hj]
    simp [Ci.cells]
  · intro u hu
    simp [Ci.cells] at hu
    rcases hu with rfl | rfl | rfl <;> rfl
  · intro v' w' hown' hgr _
    have hform : ∃ A' c', v' = .slice A' (fs.length + 1) c' := by
      rcases hown'.2 with ⟨_, h0⟩ | ⟨g, cap, cur, hv, _⟩
      · omega
      · exact ⟨_, _, hv⟩
    obtain ⟨A', c', rfl⟩ := hform
    have hb' : Below base w0 w' := Below.grown hb hgr hbase (fun g hg' => (hown.lt g hg').1)
    refine h A' c' w' ?_ hgr hb' ?_
    · unfold OwnX
      rw [List.length_append, xcells_snoc]
      exact hown'
    · have := hgr.size
      omega

set_option maxHeartbeats 1600000 in
theorem twinRow_any (A : Option Addr) (n c : Nat) (xs : List Ci) (w : World) (hx : RdX w A n xs) (hn : n ≤ 4398046511104) :
    Calls Tryd.prog 11 #[.slice A n c] w fun e w' => ∃ fs A' c', e = .returned (.slice A' n c') ∧ fs.map Ci.val = xs.map Ci.val ∧ OwnX w' w.heap.size A' c' fs ∧ TxtX w' w.heap.size fs ∧ Ext w w' := by
  have Hl := Lib.hid hx.1
  go_enter Tryd.func11, Tryd.ntmps11
  go_wp2
  go_loopw [3, 4] (fun v i wr => ∃ (j : Nat) (A' : Option Addr) (c' : Nat) (fs : List Ci), j ≤ n ∧ i = .int .i64 j ∧ v = .slice A' j c' ∧ fs.length = j ∧ fs.map Ci.val = (xs.take j).map Ci.val ∧ OwnX wr w.heap.size A' c' fs ∧ TxtX wr w.heap.size fs ∧ Below w.heap.size w wr) (fun _ i _ => n - (intOf i).toNat)
  case atStart => exact ⟨0, _, _, [], Nat.zero_le _, rfl, rfl, rfl, rfl, OwnX.made _ (Nat.le_refl _), TxtX.nil _ _, (Ext.refl w).alloc _⟩
  case round =>
    obtain ⟨j, A', c', fs, hj, rfl, rfl, hfl, hfv, hown, htx, hb⟩ := hrel
    have hz := hb.size
    have Hfl := Lib.hid hfl
    have Hfv := Lib.hid hfv
    by_cases hlt : j < n
    · obtain ⟨b, o, f, rfl, hbl, hf, h1, h2, h3, hin⟩ := (hx.ext hb).at_ hlt
      have hnx : (xs.take (j + 1)).map Ci.val = (xs.take j).map Ci.val ++ [f.val] := by
        rw [List.take_add_one, hf, List.map_append]
        rfl
      have Hnx := Lib.hid hnx
      obtain ⟨xn, xi, xA, xc, xt⟩ := f
      simp only at h1 h2 h3
      obtain ⟨xr, xu, x0, x1, xl⟩ := hin
      simp only at xr xu x0 x1 xl
      obtain ⟨n3, hn3⟩ : ∃ n3, n3 = xt.length := ⟨_, rfl⟩
      rw [← hn3] at h3 xr xl
      have Hn3 := Lib.hid hn3
      have i0 : (0 : Int) ≤ (j : Int) := by omega
      have i1 : (j : Int) < (n : Int) := by omega
      clear hnx hf hn3 hfl hfv
      go_wp2_with fail
      refine (twin_any xn xi xA n3 xc xt _ xr (by omega)).mono ?_
      rintro e w1 ⟨A1, c1, rfl, hown1, he1⟩
      have hE1 : Below w.heap.size w w1 := Ext.trans hb he1
      have hown2 := hown.ext he1
      have htx2 := htx.ext he1
      have hlow : ∀ g ∈ fs, ∀ p, g.A = some p → p.block < wr.heap.size := fun g hg p hp => ((htx.1 g hg).block p hp).2
      have hsz1 := he1.size
      have hX : Ext w1 (w1.alloc (.cells #[.bool xn, .int .i64 xi, .slice A1 n3 c1] 63)) := (Ext.refl w1).alloc _
      have hown3 := hown2.ext hX
      go_wp2_with (at_builtin; refine wpList_pushX (w0 := w) ⟨xn, xi, A1, c1, xt⟩ rfl _ _ rfl hown3 j Hfl.out rfl rfl (by rw [← Hn3.out]; exact heap_alloc_new w1 _) (by omega) (Ext.trans hE1 hX) (by simp; omega) ?_; intro A3 c3 w3 hown4 hgr hb3 hz3)
      have htx3 : TxtX w3 w.heap.size (fs ++ [⟨xn, xi, A1, c1, xt⟩]) := TxtX.grown (base' := w.heap.size) (TxtX.snoc (htx2.ext hX) (hown1.ext hX) hz hlow) hown3 hgr
      go_roundw
      case rel => exact ⟨j + 1, A3, c3, _, by omega, by go_num, rfl, by simp [Hfl.out], by rw [Hnx.out, List.map_append, Hfv.out]; rfl, hown4, htx3, hb3⟩
      case measure => simp [intOf]; omega
    · obtain rfl : j = n := by omega
      have hv := Hfv.out
      rw [List.take_of_length_le (Nat.le_of_eq Hl.out)] at hv
      go_wp2
      go_ret
      exact ⟨fs, _, _, rfl, hv, hown, htx, hb⟩

end Go.Proofs.YtnkggopkcjffoaaDoor

/-
  What the second form's bound gives: a slice's length is at most its bulk.
-/
namespace Go.Proofs.YtnkggopkcjffoaaDoor

theorem bulk_pos {H : Type} (d : DataW H) : 1 ≤ Rows.uptoBulk d := by
  cases d with
  | lit l => cases l <;> simp [Rows.uptoBulk]
  | _ => simp [Rows.uptoBulk]

theorem bulk_length {H : Type} (l : List (DataW H)) : l.length ≤ Rows.uptoBulkAll l := by
  induction l with
  | nil => simp
  | cons d r ih => have := bulk_pos d; simp only [List.length_cons, Rows.uptoBulkAll]; omega

theorem bulk_len {H : Type} {d : DataW H} {len : Nat} (h : len = 0 ∨ ∃ elems spare, d = .slice elems spare ∧ elems.length = len) : len ≤ Rows.uptoBulk d := by
  rcases h with rfl | ⟨elems, spare, rfl, rfl⟩
  · exact Nat.zero_le _
  · have := bulk_length elems
    simp only [Rows.uptoBulk]
    omega

theorem upto_bulk {H : Type} {ds : List (DataW H)} (h : Rows.uptoSmall H ds = true) : Rows.uptoBulkAll ds ≤ 1048576 := of_decide_eq_true h

end Go.Proofs.YtnkggopkcjffoaaDoor

/-
  From the row's reading of a cell to the words of our walks.
-/
namespace Go.Proofs.YtnkggopkcjffoaaDoor
open Go.ChangeShapes Go.WideShapes Go.ChangeAt Go.RowKit

/-- Each string, slice and map within it is within the form's own reach. -/
def Sz {H : Type} (P : Program) (t : TypeId) (d : DataW H) : Prop := ∀ n ∈ d.weights P t, n ≤ reachBytes

section
variable {H : Type} {P : Program}
theorem sz_top {ts : List TypeId} {ds : List (DataW H)} (h : (DataW.weightsEach P ts ds).all (· ≤ reachBytes) = true) (j : Nat) {t : TypeId} {d : DataW H} (ht : ts[j]? = some t) (hd : ds[j]? = some d) : Sz P t d := by
  intro n hn
  have := List.all_eq_true.1 h _ (DataW.weights_mem_each ht hd n hn)
  simpa using this
theorem sz_part {t : TypeId} {fs : Array Field} {parts : List (DataW H)} (h : Sz P t (.agg parts)) (hu : P.underlying t = some (.struct fs)) (j : Nat) {f : Field} {d : DataW H} (hf : fs[j]? = some f) (hd : parts[j]? = some d) : Sz P f.type d := by
  intro n hn
  refine h n ?_
  simp only [DataW.weights, hu]
  refine DataW.weights_mem_each (j := j) (t := f.type) ?_ hd n hn
  rw [List.getElem?_map, Array.getElem?_toList, hf]
  rfl
theorem weights_mem_all {e : TypeId} : ∀ {ds : List (DataW H)} {d : DataW H}, d ∈ ds → ∀ n ∈ d.weights P e, n ∈ DataW.weightsAll P e ds
  | d0 :: r, d, hd, n, hn => by
    simp only [DataW.weightsAll, List.mem_append]
    rcases List.mem_cons.1 hd with rfl | hd
    · exact .inl hn
    · exact .inr (weights_mem_all hd n hn)
theorem sz_elem {t e : TypeId} {elems spare : List (DataW H)} (h : Sz P t (.slice elems spare)) (hu : P.underlying t = some (.slice e)) {d : DataW H} (hd : d ∈ elems) : Sz P e d := by
  intro n hn
  refine h n ?_
  simp only [DataW.weights, hu, List.mem_cons, List.mem_append]
  exact .inr (.inl (weights_mem_all hd n hn))
theorem sz_len {t e : TypeId} {elems spare : List (DataW H)} (h : Sz P t (.slice elems spare)) (hu : P.underlying t = some (.slice e)) : (elems.length + spare.length) * P.bytesOf e ≤ reachBytes := by
  refine h _ ?_
  simp [DataW.weights, hu]

theorem open_u8 {enc : TypeId × Value → H} {W : World} {t e : TypeId} {fuel : Nat} {v : Value} {d : DataW H} {p : List MemPlace}
    (ht : P.underlying t = some (.slice e)) (he : P.underlying e = some (.int .u8)) (hc : P.cellsOf e = 1) (hby : P.bytesOf e = 1)
    (h : DataW.trod enc P W 0 (fun _ => true) true fuel t [v] = some (d, p)) (hs : Sz P t d) :
    ∃ (a : Option Addr) (cap : Nat) (xs : List Nat), v = .slice a xs.length cap ∧ Rd .u8 W a xs.length xs ∧ U8 xs ∧ xs.length ≤ cap ∧ xs.length * 1 ≤ 140737488351232 ∧ xs.length ≤ Rows.uptoBulk d := by
  rcases open_ints ht he hc h with ⟨hcs, hx⟩ | ⟨x, l, c, zs, hcs, _, hl, hm, hz, hx, hcell, hwz⟩
  · injection hcs with hcs
    exact ⟨none, 0, [], hcs, Rd.nil .., (by intro v hv; cases hv), Nat.zero_le _, by simp, Nat.zero_le _⟩
  · injection hcs with hcs
    simp only [Prod.mk.injEq] at hx
    obtain ⟨rfl, _⟩ := hx
    have hzl : zs.length = c := by simpa using hz
    have hr := sz_len hs ht
    rw [hby] at hr
    simp only [lits, List.length_map, List.length_take, List.length_drop, reachBytes] at hr
    have hw : ∀ i, i < l → 0 ≤ zs.getD i 0 ∧ zs.getD i 0 < 256 := by
      intro i hi
      have hlt : i < zs.length := by omega
      have := wf_u8 (hwz _ (List.getElem_mem hlt))
      simpa [List.getD, hlt] using this
    have hxl : ((zs.take l).map Int.toNat).length = l := by rw [List.length_map, List.length_take]; omega
    refine ⟨some x, c, (zs.take l).map Int.toNat, by rw [hxl]; exact hcs, ?_, ?_, by omega, by omega, ?_⟩
    · rw [hxl]
      refine ⟨hxl, fun hn => ?_⟩
      have hc0 := hcell 0 (by omega)
      obtain ⟨b, o, spot⟩ := x
      have hspot : spot = none := by simpa [Addr.add] using World.cell?_spot hc0
      subst hspot
      refine ⟨b, o, rfl, ?_, fun i hi => ?_⟩
      · have hb := World.block_lt_of_cell? W _ hc0
        simpa [Addr.add] using hb
      · have h1 := hcell i (by omega)
        rw [add_plain] at h1
        rw [h1]
        have h2 := (hw i hi).1
        have hlt : i < zs.length := by omega
        have h3 : (((zs.take l).map Int.toNat).getD i 0 : Nat) = (zs.getD i 0).toNat := by simp [List.getD, hi, hlt]
        rw [h3, Int.toNat_of_nonneg h2]
    · intro v hv
      obtain ⟨n, hn, rfl⟩ := List.mem_map.1 hv
      have := wf_u8 (hwz _ (List.mem_of_mem_take hn))
      omega
    · rw [hxl]
      exact bulk_len (.inr ⟨_, _, rfl, by simp [lits]; omega⟩)
end


set_option maxRecDepth 100000 in
theorem open_parts {H : Type} {enc : TypeId × Value → H} {W : World} {n0 n1 n2 : Nat} {v0 v1 v2 : Value} {y0 y1 y2 : DataW H × List MemPlace}
    (h0 : DataW.trod enc Tryd.prog W 0 (fun _ => true) true n0 4 [v0] = some y0) (h1 : DataW.trod enc Tryd.prog W 0 (fun _ => true) true n1 2 [v1] = some y1) (h2 : DataW.trod enc Tryd.prog W 0 (fun _ => true) true n2 28 [v2] = some y2) (hs : Sz Tryd.prog 28 y2.1) :
    ∃ x : Ci, Value.agg #[v0, v1, v2] = x.v ∧ v0 = .bool x.nul ∧ v1 = .int .i64 x.num ∧ v2 = .slice x.A x.txt.length x.c ∧ x.In W ∧ x.txt.length ≤ Rows.uptoBulk y2.1 := by
  obtain ⟨b, e0, _⟩ := DataW.trod_bool Tryd.underlying4 h0
  obtain ⟨k, e1, _, wk⟩ := DataW.trod_int Tryd.underlying2 h1
  obtain ⟨a, c, xs, e2, hr, hu, hl, hz, hb⟩ := open_u8 Tryd.underlying28 Tryd.underlying5 (by kernel_rfl) (by kernel_rfl) h2 hs
  injection e0 with e0
  injection e1 with e1
  have wb := wf_i64 wk
  subst e0 e1 e2
  exact ⟨⟨b, k, a, c, xs⟩, rfl, rfl, rfl, rfl, ⟨hr, hu, wb.1, wb.2, hz⟩, hb⟩


set_option maxRecDepth 100000 in
theorem open_cell {H : Type} {enc : TypeId × Value → H} {W : World} {r : Reach} {b0 : Nat} {v : Value} {d : DataW H} {p : List MemPlace}
    (hv : Value.okWide Tryd.prog W r b0 63 v) (h : DataW.Trod enc Tryd.prog W 0 (fun _ => true) true 63 v d p) (hs : Sz Tryd.prog 63 d) :
    ∃ x : Ci, v = x.v ∧ x.In W ∧ x.txt.length ≤ Rows.uptoBulk d := by
  obtain ⟨v0, v1, v2, y0, y1, y2, n, rfl, rfl, _, h0, h1, h2⟩ := Go.Joins.open_agg3 Tryd.underlying63 (by kernel_rfl) (by kernel_rfl) hv h
  have hs2 := sz_part hs Tryd.underlying63 2 rfl rfl
  obtain ⟨x, e, _, _, _, hin, hb⟩ := open_parts h0 h1 h2 hs2
  refine ⟨x, e, hin, ?_⟩
  simp only [Rows.uptoBulk, Rows.uptoBulkAll]
  omega

end Go.Proofs.YtnkggopkcjffoaaDoor

/-
  From the row's reading of rows, columns and schemas to the words of our walks (without sets and operations).
-/
namespace Go.Proofs.YtnkggopkcjffoaaDoor
open Go.ChangeShapes Go.WideShapes Go.ChangeAt Go.RowKit Go.Deep

def Col.cells (x : Col) : List Value := [.string x.name, .int .i64 x.kind, .bool x.null]

theorem nodes3 {H : Type} {enc : TypeId × Value → H} {P : Program} {W : World} {t : TypeId} {f0 f1 f2 : Field} {fuel : Nat} {cs : List Value} {x : DataW H × List MemPlace} (hs : P.underlying t = some (.struct #[f0, f1, f2])) (hone : oneCellFields P #[f0, f1, f2] = true) (hC : P.cellsOf t = 3)
    (h : DataW.trod enc P W 0 (fun _ => true) true fuel t cs = some x) :
    ∃ v0 v1 v2 y0 y1 y2 n, cs = [v0, v1, v2] ∧ x = (.agg [y0.1, y1.1, y2.1], y0.2 ++ (y1.2 ++ y2.2)) ∧ DataW.trod enc P W 0 (fun _ => true) true n f0.type [v0] = some y0 ∧ DataW.trod enc P W 0 (fun _ => true) true n f1.type [v1] = some y1 ∧ DataW.trod enc P W 0 (fun _ => true) true n f2.type [v2] = some y2 := by
  obtain ⟨y0, y1, y2, n, rfl, hl, h0, h1, h2⟩ := trod_struct3 hs h
  rw [hC] at hl
  match cs, hl with
  | [v0, v1, v2], _ =>
    obtain ⟨o0, k0⟩ := hone_of hone 0 f0 rfl
    obtain ⟨o1, k1⟩ := hone_of hone 1 f1 rfl
    obtain ⟨o2, k2⟩ := hone_of hone 2 f2 rfl
    exact ⟨v0, v1, v2, y0, y1, y2, n, rfl, rfl, by simpa [o0, k0] using h0, by simpa [o1, k1] using h1, by simpa [o2, k2] using h2⟩

section
variable {H : Type} {enc : TypeId × Value → H} {W : World}

set_option maxRecDepth 100000 in
/-- A cell out of its three cells. -/
theorem open_cell3 {fuel : Nat} {cs : List Value} {x : DataW H × List MemPlace} (h : DataW.trod enc Tryd.prog W 0 (fun _ => true) true fuel 63 cs = some x) (hs : Sz Tryd.prog 63 x.1) :
    ∃ c : Ci, cs = c.cells ∧ c.In W ∧ c.txt.length ≤ Rows.uptoBulk x.1 := by
  obtain ⟨v0, v1, v2, y0, y1, y2, n, rfl, rfl, h0, h1, h2⟩ := nodes3 Tryd.underlying63 (by kernel_rfl) (by kernel_rfl) h
  have hs2 := sz_part hs Tryd.underlying63 2 rfl rfl
  obtain ⟨c, _, e0, e1, e2, hin, hb⟩ := open_parts h0 h1 h2 hs2
  subst e0 e1 e2
  refine ⟨c, rfl, hin, ?_⟩
  simp only [Rows.uptoBulk, Rows.uptoBulkAll]
  omega

/-- The elements of a slice whose elements are structs of k cells. -/
theorem open_rows {t e : TypeId} {k bytes : Nat} {T : Type} {cells : T → List Value} {Q : T → DataW H → Prop} {fuel : Nat} {v : Value} {d : DataW H} {p : List MemPlace} (ht : Tryd.prog.underlying t = some (.slice e)) (hk : Tryd.prog.cellsOf e = k) (hk0 : 0 < k) (hby : Tryd.prog.bytesOf e = bytes)
    (hone : ∀ {n : Nat} {cs : List Value} {x : DataW H × List MemPlace}, DataW.trod enc Tryd.prog W 0 (fun _ => true) true n e cs = some x → Sz Tryd.prog e x.1 → ∃ c : T, cs = cells c ∧ Q c x.1)
    (h : DataW.trod enc Tryd.prog W 0 (fun _ => true) true fuel t [v] = some (d, p)) (hs : Sz Tryd.prog t d) :
    ∃ (a : Option Addr) (cap : Nat) (xs : List T), v = .slice a xs.length cap ∧ xs.length ≤ cap ∧ cap ≤ 9223372036854775807 ∧ xs.length * bytes ≤ 140737488351232 ∧ xs.length ≤ Rows.uptoBulk d ∧
      (∀ c ∈ xs, ∃ dd, Q c dd) ∧ (0 < xs.length → ∃ b o, a = some ⟨b, o, none⟩ ∧ b < W.heap.size ∧ ∀ j c, xs[j]? = some c → ∀ i u, (cells c)[i]? = some u → W.cell? ⟨b, o + j * k + i, none⟩ = some u) := by
  rcases open_slice ht h with ⟨hcs, hx⟩ | ⟨a, l, c, m, n, D, Pl, hcs, _, hl, hcm, hm, hx, hcell⟩
  · injection hcs with hcs
    exact ⟨none, 0, [], hcs, Nat.zero_le _, by decide, by simp, Nat.zero_le _, (by intro c hc; cases hc), fun hn => absurd hn (by simp)⟩
  · injection hcs with hcs
    simp only [Prod.mk.injEq] at hx
    obtain ⟨rfl, _⟩ := hx
    have hmc : m = c := by simpa using hm
    subst hmc
    have hr := sz_len hs ht
    rw [hby] at hr
    simp only [List.length_map, List.length_range, reachBytes] at hr
    have each : ∀ i, i < l → ∃ q : T, W.cells? 0 (a.add (i * k)) k = some (cells q) ∧ Q q (D i) := by
      intro i hi
      obtain ⟨cs', h1, h2⟩ := hcell i (by omega)
      rw [hk] at h1
      obtain ⟨q, e1, e2⟩ := hone h2 (sz_elem hs ht (List.mem_map.2 ⟨i, List.mem_range.2 hi, rfl⟩))
      exact ⟨q, by rw [h1, e1], e2⟩
    by_cases hl0 : l = 0
    · subst hl0
      exact ⟨some a, m, [], hcs, Nat.zero_le _, hcm, by simp, Nat.zero_le _, (by intro c hc; cases hc), fun hn => absurd hn (by simp)⟩
    · obtain ⟨q0, _⟩ := each 0 (by omega)
      have each' : ∀ i, ∃ q : T, i < l → W.cells? 0 (a.add (i * k)) k = some (cells q) ∧ Q q (D i) := by
        intro i
        by_cases hi : i < l
        · obtain ⟨q, hq⟩ := each i hi
          exact ⟨q, fun _ => hq⟩
        · exact ⟨q0, fun h => absurd h hi⟩
      obtain ⟨q, hq⟩ := Classical.axiomOfChoice each'
      have hxl : ((List.range l).map q).length = l := by simp
      refine ⟨some a, m, (List.range l).map q, by rw [hxl]; exact hcs, by rw [hxl]; exact hl, hcm, ?_, ?_, ?_, fun hn => ?_⟩
      · rw [hxl]
        have : l + (m - l) = m := by omega
        rw [this] at hr
        exact Nat.le_trans (Nat.mul_le_mul_right _ hl) hr
      · rw [hxl]
        exact bulk_len (.inr ⟨_, _, rfl, by simp⟩)
      · intro c hc
        obtain ⟨i, hi, rfl⟩ := List.mem_map.1 hc
        exact ⟨_, (hq i (List.mem_range.1 hi)).2⟩
      · obtain ⟨b, o, spot⟩ := a
        have hall : ∀ i, i < l → ∀ r u, (cells (q i))[r]? = some u → W.cell? ((⟨b, o, spot⟩ : Addr).add (i * k) |>.add r) = some u := by
          intro i hi r u hu
          obtain ⟨_, hlen, hc⟩ := World.cells?_some (hq i hi).1
          have hr := (List.getElem?_eq_some_iff.1 hu).1
          rw [hc r (by omega), hu]
        have hl1 : 0 < l := by omega
        obtain ⟨_, hlen0, hc0⟩ := World.cells?_some (hq 0 hl1).1
        have hu0 : (cells (q 0))[0]? = some (cells (q 0))[0] := List.getElem?_eq_getElem (by omega)
        have hz := hall 0 hl1 0 _ hu0
        have hspot : spot = none := by simpa [Addr.add] using World.cell?_spot hz
        subst hspot
        refine ⟨b, o, rfl, ?_, fun j c hj i u hu => ?_⟩
        · have hb := World.block_lt_of_cell? W _ hz
          simpa [Addr.add] using hb
        · rw [List.getElem?_map, Option.map_eq_some_iff] at hj
          obtain ⟨i', hi', rfl⟩ := hj
          obtain ⟨g1, g2⟩ := List.getElem?_eq_some_iff.1 hi'
          simp at g1 g2
          subst g2
          have := hall j g1 i u hu
          rwa [add_plain, add_plain] at this

set_option maxRecDepth 100000 in
theorem open_row {fuel : Nat} {v : Value} {d : DataW H} {p : List MemPlace} (h : DataW.trod enc Tryd.prog W 0 (fun _ => true) true fuel 25 [v] = some (d, p)) (hs : Sz Tryd.prog 25 d) :
    ∃ (a : Option Addr) (n cap : Nat) (xs : List Ci), v = .slice a n cap ∧ RdX W a n xs ∧ n ≤ cap ∧ cap ≤ 9223372036854775807 ∧ n * 40 ≤ 140737488351232 ∧ n ≤ Rows.uptoBulk d := by
  obtain ⟨a, cap, xs, e, h1, h2, h3, h4, h5, h6⟩ := open_rows (k := 3) (bytes := 40) (cells := Ci.cells) (Q := fun c _ => c.In W) Tryd.underlying25 (by kernel_rfl) (by decide) (by kernel_rfl) (fun h hs => by
    obtain ⟨c, e1, e2, _⟩ := open_cell3 h hs
    exact ⟨c, e1, e2⟩) h hs
  refine ⟨a, xs.length, cap, xs, e, ⟨rfl, fun hn => ?_⟩, h1, h2, h3, h4⟩
  obtain ⟨b, o, ea, hb, hc⟩ := h6 hn
  refine ⟨b, o, ea, hb, fun j x hj => ⟨?_, ?_, ?_, ?_⟩⟩
  · exact hc j x hj 0 _ rfl
  · exact hc j x hj 1 _ rfl
  · exact hc j x hj 2 _ rfl
  · obtain ⟨_, hin⟩ := h5 x (List.mem_of_getElem? hj)
    exact hin

set_option maxRecDepth 100000 in
theorem open_col3 {fuel : Nat} {cs : List Value} {x : DataW H × List MemPlace} (h : DataW.trod enc Tryd.prog W 0 (fun _ => true) true fuel 68 cs = some x) (hs : Sz Tryd.prog 68 x.1) :
    ∃ c : Col, cs = c.cells ∧ c.name.size ≤ 140737488355328 := by
  obtain ⟨v0, v1, v2, y0, y1, y2, n, rfl, rfl, h0, h1, h2⟩ := nodes3 Tryd.underlying68 (by kernel_rfl) (by kernel_rfl) h
  have hs0 := sz_part hs Tryd.underlying68 0 rfl rfl
  obtain ⟨s, e0, hx0, _⟩ := DataW.trod_string Tryd.underlying9 h0
  obtain ⟨k, e1, _, _⟩ := DataW.trod_int Tryd.underlying3 h1
  obtain ⟨b, e2, _⟩ := DataW.trod_bool Tryd.underlying4 h2
  injection e0 with e0
  injection e1 with e1
  injection e2 with e2
  subst e0 e1 e2
  refine ⟨⟨s, k, b⟩, rfl, ?_⟩
  have hy : y0.1 = .lit (.string s.data.toList) := by rw [hx0]
  rw [hy] at hs0
  have := hs0 s.data.toList.length (by simp [DataW.weights])
  simp [reachBytes] at this
  show s.size ≤ _
  have e : s.size = s.data.size := rfl
  omega

set_option maxRecDepth 100000 in
theorem open_cols {fuel : Nat} {v : Value} {d : DataW H} {p : List MemPlace} (h : DataW.trod enc Tryd.prog W 0 (fun _ => true) true fuel 22 [v] = some (d, p)) (hs : Sz Tryd.prog 22 d) :
    ∃ (a : Option Addr) (n cap : Nat) (xs : List Col), v = .slice a n cap ∧ SchIn W a n cap xs ∧ n * 32 ≤ 140737488351232 := by
  obtain ⟨a, cap, xs, e, h1, h2, h3, h4, h5, h6⟩ := open_rows (k := 3) (bytes := 32) (cells := Col.cells) (Q := fun c _ => c.name.size ≤ 140737488355328) Tryd.underlying22 (by kernel_rfl) (by decide) (by kernel_rfl) (fun h hs => by
    obtain ⟨c, e1, e2⟩ := open_col3 h hs
    exact ⟨c, e1, e2⟩) h hs
  refine ⟨a, xs.length, cap, xs, e, ⟨⟨rfl, fun hn => ?_⟩, fun c hc => ?_, by omega, h1, h2⟩, h3⟩
  · obtain ⟨b, o, ea, hb, hc⟩ := h6 hn
    refine ⟨b, o, ea, hb, fun j x hj => ⟨?_, ?_, ?_⟩⟩
    · exact hc j x hj 0 _ rfl
    · exact hc j x hj 1 _ rfl
    · exact hc j x hj 2 _ rfl
  · obtain ⟨_, hq⟩ := h5 c hc
    exact hq

set_option maxRecDepth 100000 in
theorem open_schema {r : Reach} {b0 : Nat} {v : Value} {d : DataW H} {p : List MemPlace} (hv : Value.okWide Tryd.prog W r b0 24 v) (h : DataW.Trod enc Tryd.prog W 0 (fun _ => true) true 24 v d p) (hs : Sz Tryd.prog 24 d) :
    ∃ (A : Option Addr) (n c : Nat) (cs : List Col) (keys : Int), v = .agg #[.slice A n c, .int .i64 keys] ∧ SchIn W A n c cs ∧ n * 32 ≤ 140737488351232 := by
  obtain ⟨v0, v1, y0, y1, n, rfl, rfl, _, h0, h1⟩ := Go.Joins.open_agg2 Tryd.underlying24 (by kernel_rfl) (by kernel_rfl) hv h
  have hs0 := sz_part hs Tryd.underlying24 0 rfl rfl
  obtain ⟨k, e1, _, _⟩ := DataW.trod_int Tryd.underlying3 h1
  injection e1 with e1
  obtain ⟨A, m, c, cs, e, hsc, hz⟩ := open_cols h0 hs0
  subst e e1
  exact ⟨A, m, c, cs, k, rfl, hsc, hz⟩

theorem open_rowT {a : Option Addr} {len cap : Nat} {d : DataW H} {p : List MemPlace} (h : DataW.Trod enc Tryd.prog W 0 (fun _ => true) true 25 (.slice a len cap) d p) (hs : Sz Tryd.prog 25 d) :
    ∃ xs : List Ci, RdX W a len xs ∧ len * 40 ≤ 140737488351232 ∧ len ≤ Rows.uptoBulk d := by
  obtain ⟨fuel, hf⟩ := h
  obtain ⟨a', n', c', xs, e, h1, _, _, h4, h5⟩ := open_row (v := .slice a len cap) hf hs
  injection e with e1 e2 e3
  subst e1 e2 e3
  exact ⟨xs, h1, h4, h5⟩
end

end Go.Proofs.YtnkggopkcjffoaaDoor

/-
  The library's slices.Concat at this program.
-/
namespace Go.Proofs.YtnkggopkcjffoaaDoor
open Go.RowKit

set_option maxRecDepth 100000 in
theorem grow_any (n : Nat) (w : World) (hn : n ≤ 180000000000000) :
    Calls Tryd.prog 70 #[.slice none 0 0, .int .i64 (n : Int)] w fun e w' => ∃ A' c', e = .returned (.slice A' 0 c') ∧ Own .u8 5 w' w.heap.size A' c' [] ∧ Ext w w' := by
  obtain ⟨i, hi0, hz, hsz, hbs⟩ := info_parts Tryd.infoU8
  have hG0 : 0 ≤ grownCap w n 0 5 := Nat.zero_le _
  by_cases h0 : 0 < n
  · have hrz : ∀ ty, (Builtin.append_ #[28, 3] ty #[.slice none 0 0, .int .i64 (n : Int)]).run Tryd.prog w = .ok (.slice (some ⟨w.heap.size, 0, none⟩) n (grownCap w n 0 5)) (w.drew.alloc (.cells (Builtin.zeroCells (Value.int .u8 0).cells n ++ Builtin.zeroCells (Value.int .u8 0).cells (grownCap w n 0 5 - n)) 5)) :=
      fun ty => Lib.run_append_nil_zeros w 28 3 ty 5 i _ .i64 .i64 Tryd.underlying28 Tryd.underlying3 hi0 hz n h0 (by omega) (by omega) (by rw [hbs]; omega)
    have hge := grownCap_ge w n 0 5
    have hle := grownCap_le_maxLen w n 0 5 (by unfold maxLen; omega)
    obtain ⟨G, hG⟩ : ∃ G, G = grownCap w n 0 5 := ⟨_, rfl⟩
    rw [← hG] at hrz hge hle
    have hle2 : G ≤ 9223372036854775807 := by simpa [maxLen] using hle
    clear hG
    have hown : Own .u8 5 (w.drew.alloc (.cells (Builtin.zeroCells (Value.int .u8 0).cells n ++ Builtin.zeroCells (Value.int .u8 0).cells (G - n)) 5)) w.heap.size (some ⟨w.heap.size, 0, none⟩) G [] :=
      ⟨by simp, .inr ⟨w.heap.size, G, _, rfl, Nat.le_refl _, heap_alloc_new w.drew _, Nat.zero_le _, hle, by simp only [Array.size_append, size_zeroCells]; simp [Value.cells]; omega, by simp⟩⟩
    have Hown := Lib.hid hown
    clear hown
    go_enter Tryd.func70, Tryd.ntmps70
    go_wp2_with (at_builtin; refine Lib.wpList_append_run _ rfl _ _ _ _ rfl _ _ rfl rfl _ _ (hrz _) ?_)
    go_ret
    exact ⟨_, _, rfl, Hown.out, (Ext.refl w).drew.alloc _⟩
  · obtain rfl : n = 0 := by omega
    clear hG0
    go_enter Tryd.func70, Tryd.ntmps70
    go_wp2
    go_ret
    exact ⟨_, _, rfl, Own.nil .., Ext.refl w⟩

set_option maxHeartbeats 400000 in
theorem concat_any (A : Option Addr) (n c : Nat) (xss : List (List Nat)) (w : World) (hx : RdSS w A n xss) (hn : xss.flatten.length ≤ 180000000000000) (hm : n ≤ 180000000000000) :
    Calls Tryd.prog 47 #[.slice A n c] w fun e w' => ∃ A' c', e = .returned (.slice A' xss.flatten.length c') ∧ Own .u8 5 w' w.heap.size A' c' xss.flatten ∧ Ext w w' := by
  have Hl := Lib.hid hx.len
  obtain ⟨N, hN⟩ : ∃ N, N = xss.flatten.length := ⟨_, rfl⟩
  rw [← hN] at hn ⊢
  have HN := Lib.hid hN
  clear hN
  go_enter Tryd.func47, Tryd.ntmps47
  go_wp2
  go_loop [3, 5, 11] (fun s _ i => ∃ j : Nat, j ≤ n ∧ i = .int .i64 j ∧ s = .int .i64 ((cat xss j).length : Nat)) (fun _ _ i => n - (intOf i).toNat)
  case atStart => exact ⟨0, Nat.zero_le _, rfl, by rw [cat_zero]; rfl⟩
  case round =>
    obtain ⟨j, hj, rfl, rfl⟩ := hrel
    have hle := cat_le (xss := xss) (j := j)
    rw [← HN.out] at hle
    by_cases hlt : j < n
    · obtain ⟨b, o, a, m, c2, rfl, hbl, hc, hrd⟩ := hx.at_ hlt
      have hjl : j < xss.length := by have := Hl.out; omega
      have hle2 := cat_le (xss := xss) (j := j + 1)
      rw [← HN.out] at hle2
      have hnext := congrArg List.length (cat_succ hjl)
      rw [List.length_append, hrd.len] at hnext
      rw [hnext] at hle2
      obtain ⟨R, hR'⟩ : ∃ R, R = (cat xss j).length := ⟨_, rfl⟩
      rw [← hR'] at hle hle2 hnext ⊢
      have Hn := Lib.hid hnext
      clear hnext hR' hrd
      go_wp2_with fail
      go_round
      case rel => exact ⟨j + 1, by omega, by go_num, by rw [Hn.out]; go_num⟩
      case measure => simp [intOf]; omega
    · obtain rfl : j = n := by omega
      have hfin : (cat xss j).length = N := by rw [HN.out, ← cat_all, Hl.out]
      rw [hfin]
      clear hfin hle
      go_wp2_with fail
      refine (grow_any N _ hn).mono ?_
      rintro e w1 ⟨A1, c1, rfl, hown1, he1⟩
      go_wp2_with fail
      go_loopw [6, 8, 27] (fun v _ i wr => ∃ (q : Nat) (A' : Option Addr) (c' : Nat), q ≤ j ∧ i = .int .i64 q ∧ v = .slice A' (cat xss q).length c' ∧ Own .u8 5 wr w.heap.size A' c' (cat xss q) ∧ Below w.heap.size w wr) (fun _ _ i _ => j - (intOf i).toNat)
      case atStart => exact ⟨0, _, _, Nat.zero_le _, rfl, rfl, hown1, he1⟩
      case round =>
        clear hown1 he1
        obtain ⟨q, A', c', hq, rfl, rfl, hown, hb⟩ := hrel
        have hz := hb.size
        by_cases hlt : q < j
        · obtain ⟨b, o, a, m, c2, rfl, hbl, hc, hrd⟩ := (hx.ext hb).at_ hlt
          have hjl : q < xss.length := by have := Hl.out; omega
          have hle2 := cat_le (xss := xss) (j := q + 1)
          rw [← HN.out] at hle2
          have hcs := cat_succ hjl
          have hnext := congrArg List.length hcs
          rw [List.length_append, hrd.len] at hnext
          rw [hnext] at hle2
          obtain ⟨ys, hys⟩ : ∃ ys, ys = xss.getD q [] := ⟨_, rfl⟩
          rw [← hys] at hrd hcs
          obtain ⟨X, hX⟩ : ∃ X, X = cat xss q := ⟨_, rfl⟩
          rw [← hX] at hown hle2 hnext hcs ⊢
          obtain ⟨R, hR⟩ : ∃ R, X.length = R := ⟨_, rfl⟩
          rw [hR] at hle2 hnext ⊢
          have Hn := Lib.hid hnext
          have Hcs := Lib.hid hcs
          have HR := Lib.hid hR
          clear hnext hcs hys hX hR
          go_wp2_with (at_builtin; refine wpList_pushes .u8 5 rfl _ _ 28 rfl _ 1 Tryd.underlying28 Tryd.infoU8 rfl hown R HR.out rfl rfl hrd (by omega) (by omega) hb hz ?_; intro A1 c1 w1 hown1 hb1 hz1)
          go_roundw
          case rel => exact ⟨q + 1, A1, c1, by omega, by go_num, by rw [Hn.out], by rw [Hcs.out]; exact hown1, hb1⟩
          case measure => simp [intOf]; omega
        · obtain rfl : q = j := by omega
          have hfin : cat xss q = xss.flatten := by rw [← cat_all]; rw [Hl.out]
          rw [hfin, ← HN.out]
          rw [hfin] at hown
          clear hfin
          go_wp2
          go_ret
          exact ⟨_, _, rfl, hown, hb⟩

/-- Bytes that the call has just written out. -/
theorem ownLit (w : World) (xs : List Nat) (hl : xs.length ≤ 9223372036854775807) : Own .u8 5 (w.alloc (.cells (xs.map fun x : Nat => Value.int .u8 (x : Int)).toArray 5)) w.heap.size (some ⟨w.heap.size, 0, none⟩) xs.length xs :=
  ⟨by simp, .inr ⟨w.heap.size, xs.length, _, rfl, Nat.le_refl _, heap_alloc_new w _, Nat.le_refl _, by simpa [maxLen] using hl, by simp, by rw [Nat.mul_one]; exact List.take_of_length_le (by simp)⟩⟩

end Go.Proofs.YtnkggopkcjffoaaDoor

/-
  The document's order of two texts.
-/
namespace Go.Proofs.YtnkggopkcjffoaaDoor
open Go.RowKit

set_option maxHeartbeats 800000 in
theorem order_any (A A2 : Option Addr) (n c n2 c2 : Nat) (xs ys : List Nat) (w : World) (hx : Rd .u8 w A n xs) (hy : Rd .u8 w A2 n2 ys) (hn : n ≤ 140737488355328) (hn2 : n2 ≤ 140737488355328) :
    Calls Tryd.prog 31 #[.slice A n c, .slice A2 n2 c2] w fun e w' => e = .returned (.int .i64 (ordT xs ys)) ∧ ∃ q, w' = w.drewN q := by
  have hl := hx.len
  have hl2 := hy.len
  obtain ⟨R, hR⟩ : ∃ R, R = ordT xs ys := ⟨_, rfl⟩
  rw [← hR]
  have HR := Lib.hid hR
  have Hl := Lib.hid hl
  have Hl2 := Lib.hid hl2
  clear hR hl hl2
  go_enter Tryd.func31, Tryd.ntmps31
  go_wp2
  go_loopw [5] (fun i wr => ∃ j q : Nat, j ≤ n ∧ j ≤ n2 ∧ i = .int .i64 j ∧ wr = w.drewN q ∧ Hid (R = ordT (xs.drop j) (ys.drop j))) (fun i _ => n - (intOf i).toNat)
  case atStart => exact ⟨0, 0, Nat.zero_le _, Nat.zero_le _, rfl, rfl, HR.out⟩
  case round =>
    obtain ⟨j, q, hj, hj2, rfl, hw, Hj⟩ := hrel
    subst hw
    by_cases hlt : j < n ∧ j < n2
    · obtain ⟨hlt1, hlt2⟩ := hlt
      obtain ⟨b, o, rfl, hbl, hc⟩ := hx.at_ hlt1
      obtain ⟨b', o', rfl, hbl', hc'⟩ := hy.at_ hlt2
      have hd1 := drop_cons (bs := xs) (k := j) (by have := Hl.out; omega)
      have hd2 := drop_cons (bs := ys) (k := j) (by have := Hl2.out; omega)
      obtain ⟨u, hu⟩ : ∃ u, u = xs.getD j 0 := ⟨_, rfl⟩
      obtain ⟨v, hv⟩ : ∃ v, v = ys.getD j 0 := ⟨_, rfl⟩
      rw [← hu] at hc hd1
      rw [← hv] at hc' hd2
      have Hd1 := Lib.hid hd1
      have Hd2 := Lib.hid hd2
      clear hu hv hd1 hd2
      have hji : (j : Int) < (n : Int) := by omega
      have hji2 : (j : Int) < (n2 : Int) := by omega
      by_cases h1 : u < v
      · have HE := Lib.hid (show R = -1 by rw [Hj.out, Hd1.out, Hd2.out, ordT_lt h1])
        have d1 : decide (u < v) = true := decide_eq_true h1
        have d1' : decide ((u : Int) < (v : Int)) = true := decide_eq_true (by omega)
        clear h1
        go_wp2_with fail
        go_quiet (fail)
        go_wp2
        go_ret
        exact ⟨by rw [HE.out]; rfl, _, World.drewN_drewN ..⟩
      · by_cases h2 : v < u
        · have HE := Lib.hid (show R = 1 by rw [Hj.out, Hd1.out, Hd2.out, ordT_gt h2])
          have d1 : decide (u < v) = false := decide_eq_false h1
          have d1' : decide ((u : Int) < (v : Int)) = false := decide_eq_false (by omega)
          have d2 : decide (v < u) = true := decide_eq_true h2
          have d2' : decide ((v : Int) < (u : Int)) = true := decide_eq_true (by omega)
          clear h1 h2
          go_wp2_with fail
          go_quiet (fail)
          go_wp2_with fail
          go_quiet (fail)
          go_wp2
          go_ret
          exact ⟨by rw [HE.out]; rfl, _, drew3 ..⟩
        · have HN := Lib.hid (show R = ordT (xs.drop (j + 1)) (ys.drop (j + 1)) by rw [Hj.out, Hd1.out, Hd2.out, ordT_eq (by omega)])
          have d1 : decide (u < v) = false := decide_eq_false h1
          have d1' : decide ((u : Int) < (v : Int)) = false := decide_eq_false (by omega)
          have d2 : decide (v < u) = false := decide_eq_false h2
          have d2' : decide ((v : Int) < (u : Int)) = false := decide_eq_false (by omega)
          clear h1 h2
          go_wp2_with fail
          go_quiet (fail)
          go_wp2_with fail
          go_quiet (fail)
          go_wp2
          go_roundw
          case rel => exact ⟨j + 1, _, by omega, by omega, by go_num, rfl, HN.out⟩
          case measure => simp [intOf]; omega
    · have HE := Lib.hid (show R = if n < n2 then -1 else if n2 < n then 1 else 0 by
        rw [Hj.out, ordT_end (by have := Hl.out; have := Hl2.out; omega) (by have := Hl.out; omega) (by have := Hl2.out; omega), Hl.out, Hl2.out])
      have h3 : ¬ (j : Int) < (n : Int) ∨ ¬ (j : Int) < (n2 : Int) := by omega
      clear hlt
      rcases Nat.lt_trichotomy n n2 with h4 | h4 | h4
      · have e3 := HE.out
        rw [if_pos h4] at e3
        have He3 := Lib.hid e3
        obtain rfl : j = n := by omega
        clear HE e3 h3
        go_wp2
        go_ret
        exact ⟨by rw [He3.out]; rfl, _, rfl⟩
      · subst h4
        obtain rfl : j = n := by omega
        have e3 := HE.out
        rw [if_neg (by omega), if_neg (by omega)] at e3
        have He3 := Lib.hid e3
        clear HE e3 h3
        go_wp2
        go_ret
        exact ⟨by rw [He3.out]; rfl, _, rfl⟩
      · have e3 := HE.out
        rw [if_neg (by omega), if_pos h4] at e3
        have He3 := Lib.hid e3
        obtain rfl : j = n2 := by omega
        clear HE e3 h3
        go_wp2
        go_ret
        exact ⟨by rw [He3.out]; rfl, _, rfl⟩

end Go.Proofs.YtnkggopkcjffoaaDoor

/-
  What a check that finds nothing says; which of two cells stands ahead.
-/
namespace Go.Proofs.YtnkggopkcjffoaaDoor
open Go.RowKit

/-- Which of two cells without error stands ahead. -/
def rnk (nul : Bool) (num : Int) (txt : List Nat) (nul2 : Bool) (num2 : Int) (txt2 : List Nat) : Int :=
  if nul = true then (if nul2 = true then 0 else -1) else if nul2 = true then 1 else if num < num2 then -1 else if num2 < num then 1 else ordT txt txt2

theorem chk_kind {k : Int} {ok nul : Bool} {num : Int} {txt : List Nat} (h : chk k ok nul num txt = 0) : 1 ≤ k ∧ k ≤ 8 := by
  by_cases hk : 1 ≤ k ∧ k ≤ 8
  · exact hk
  · rw [chk_arg hk] at h; exact absurd h (by decide)
theorem chk_num0 {k : Int} {ok : Bool} {num : Int} {txt : List Nat} (hk : 1 ≤ k ∧ k ≤ 6) (h : chk k ok false num txt = 0) : txt = [] ∧ least k ≤ num ∧ num ≤ great k := by
  rw [chk_num hk] at h
  by_cases h1 : 0 < txt.length
  · rw [if_pos h1] at h; exact absurd h (by decide)
  · rw [if_neg h1] at h
    by_cases h2 : least k ≤ num ∧ num ≤ great k
    · exact ⟨List.eq_nil_of_length_eq_zero (by omega), h2⟩
    · rw [if_neg h2] at h; exact absurd h (by decide)
theorem chk_txt0 {k : Int} {ok : Bool} {num : Int} {txt : List Nat} (hk : k = 7 ∨ k = 8) (h : chk k ok false num txt = 0) : num = 0 ∧ txt.length ≤ 200 ∧ (k = 7 → ¬ 0 ∈ txt) := by
  rw [chk_txt hk] at h
  by_cases h1 : num = 0
  · rw [if_neg (fun q => q h1)] at h
    by_cases h2 : 200 < txt.length
    · rw [if_pos h2] at h; exact absurd h (by decide)
    · rw [if_neg h2] at h
      by_cases h3 : k = 7 ∧ 0 ∈ txt
      · rw [if_pos h3] at h; exact absurd h (by decide)
      · exact ⟨h1, by omega, fun q q2 => h3 ⟨q, q2⟩⟩
  · rw [if_pos h1] at h; exact absurd h (by decide)
theorem chk_nul0 {k : Int} {ok : Bool} {num : Int} {txt : List Nat} (h : chk k ok true num txt = 0) : ok = true ∧ num = 0 ∧ txt = [] := by
  rw [chk_null (chk_kind h)] at h
  by_cases h0 : ok = true
  · rw [if_pos h0] at h
    by_cases h1 : num ≠ 0 ∨ 0 < txt.length
    · rw [if_pos h1] at h; exact absurd h (by decide)
    · exact ⟨h0, by omega, List.eq_nil_of_length_eq_zero (by omega)⟩
  · rw [if_neg h0] at h; exact absurd h (by decide)

theorem rnk_ff {num : Int} {txt : List Nat} {num2 : Int} {txt2 : List Nat} : rnk false num txt false num2 txt2 = if num < num2 then -1 else if num2 < num then 1 else ordT txt txt2 := by
  unfold rnk; rw [if_neg (by decide), if_neg (by decide)]

end Go.Proofs.YtnkggopkcjffoaaDoor

/-
  Layer 7's ground: the order of cells, the document's.
-/
namespace Go.Proofs.YtnkggopkcjffoaaDoor
open Go.RowKit

set_option maxHeartbeats 800000 in
theorem rank_any (nul : Bool) (num : Int) (A : Option Addr) (n c : Nat) (txt : List Nat) (nul2 : Bool) (num2 : Int) (A2 : Option Addr) (n2 c2 : Nat) (txt2 : List Nat) (w : World)
    (hx : Rd .u8 w A n txt) (hy : Rd .u8 w A2 n2 txt2) (hn : n ≤ 140737488355328) (hn2 : n2 ≤ 140737488355328) :
    Calls Tryd.prog 51 #[.agg #[.bool nul, .int .i64 num, .slice A n c], .agg #[.bool nul2, .int .i64 num2, .slice A2 n2 c2]] w fun e w' => e = .returned (.int .i64 (rnk nul num txt nul2 num2 txt2)) ∧ Ext w w' := by
  have hE : Ext w ((w.alloc (.cells #[.bool nul, .int .i64 num, .slice A n c] 63)).alloc (.cells #[.bool nul2, .int .i64 num2, .slice A2 n2 c2] 63)) := ((Ext.refl w).alloc _).alloc _
  have hx2 := hx.ext hE
  have hy2 := hy.ext hE
  cases nul <;> cases nul2
  case false.false =>
    by_cases h1 : num < num2
    · rw [show rnk false num txt false num2 txt2 = -1 from by unfold rnk; rw [if_neg (by decide), if_neg (by decide), if_pos h1]]
      go_enter Tryd.func51, Tryd.ntmps51
      go_wp2
      go_ret
      exact ⟨rfl, hE⟩
    · by_cases h2 : num2 < num
      · rw [show rnk false num txt false num2 txt2 = 1 from by unfold rnk; rw [if_neg (by decide), if_neg (by decide), if_neg h1, if_pos h2]]
        go_enter Tryd.func51, Tryd.ntmps51
        go_wp2
        go_ret
        exact ⟨rfl, hE⟩
      · rw [show rnk false num txt false num2 txt2 = ordT txt txt2 from by unfold rnk; rw [if_neg (by decide), if_neg (by decide), if_neg h1, if_neg h2]]
        go_enter Tryd.func51, Tryd.ntmps51
        go_wp2_with fail
        refine (order_any A A2 n c n2 c2 txt txt2 _ hx2 hy2 hn hn2).mono ?_
        rintro e w1 ⟨rfl, q, rfl⟩
        go_wp2
        go_ret
        exact ⟨rfl, hE.drewN q⟩
  all_goals
    go_enter Tryd.func51, Tryd.ntmps51
    go_wp2
    go_ret
    exact ⟨rfl, hE⟩

end Go.Proofs.YtnkggopkcjffoaaDoor

/-
  Layer 7's ground: cells' values.
-/
namespace Go.Proofs.YtnkggopkcjffoaaDoor
open Go.RowKit

abbrev CV := Bool × Int × List Nat

theorem chk_ok {k : Int} {ok ok2 : Bool} {num : Int} {txt : List Nat} : chk k ok false num txt = chk k ok2 false num txt := by
  unfold chk; simp

/-- A value as it may be handed in. -/
def CVok (v : CV) : Prop := U8 v.2.2 ∧ -9223372036854775808 ≤ v.2.1 ∧ v.2.1 ≤ 9223372036854775807

theorem Ci.In.ok {w : World} {x : Ci} (h : x.In w) : CVok x.val := ⟨h.u8, h.lo, h.hi⟩

def chkW (c : Col) (v : CV) : Int := chk c.kind c.null v.1 v.2.1 v.2.2

theorem chkC_val (c : Col) (x : Ci) : chkC c x = chkW c x.val := rfl

def rowW : List Col → List CV → Int
  | c :: r, v :: s => if chkW c v ≠ 0 then chkW c v else rowW r s
  | _, _ => 0

theorem rowF_val : ∀ (cs : List Col) (xs : List Ci), rowF cs xs = rowW cs (xs.map Ci.val)
  | [], xs => by cases xs <;> rfl
  | c :: r, [] => rfl
  | c :: r, x :: s => by
    show (if chkC c x ≠ 0 then chkC c x else rowF r s) = if chkW c x.val ≠ 0 then chkW c x.val else rowW r (s.map Ci.val)
    rw [rowF_val r s, chkC_val]

theorem rowW_iff : ∀ {cs : List Col} {vs : List CV}, rowW cs vs = 0 ↔ ∀ (j : Nat) (c : Col) (v : CV), cs[j]? = some c → vs[j]? = some v → chkW c v = 0
  | [], vs => by simp [rowW]
  | c :: r, [] => by simp [rowW]
  | c :: r, v :: s => by
    have ih := rowW_iff (cs := r) (vs := s)
    show (if chkW c v ≠ 0 then chkW c v else rowW r s) = 0 ↔ _
    constructor
    · intro h j d u hd hu
      by_cases q : chkW c v = 0
      · rw [if_neg (fun e => e q)] at h
        cases j with
        | zero => simp at hd hu; subst hd; subst hu; exact q
        | succ j => exact ih.1 h j d u (by simpa using hd) (by simpa using hu)
      · rw [if_pos q] at h
        exact absurd h q
    · intro h
      rw [if_neg (fun e => e (h 0 c v rfl rfl))]
      exact ih.2 (fun j d u hd hu => h (j + 1) d u (by simpa using hd) (by simpa using hu))

theorem chk_up {k : Int} {ok nul : Bool} {num : Int} {txt : List Nat} (h : chk k ok nul num txt = 0) : chk k true nul num txt = 0 := by
  cases nul with
  | false => rw [chk_ok (ok2 := ok)]; exact h
  | true =>
    obtain ⟨e, _⟩ := chk_nul0 h
    subst e
    exact h

end Go.Proofs.YtnkggopkcjffoaaDoor
