import Derived.Test.YtfghepkojcebfaaGreatG4
import Derived.Test.YtfghepkojcebfaaGreatRows
import Derived.Test.YtfghepkojcebfaaGreatG1
import Derived.JoinedCond
import Derived.Deep.CondSized
import Derived.Lib.SmallJoins
import Derived.Deep.Slices
import Derived.Test.YtfghepkojcebfaaGreatG3
import Derived.Lib.AppendZeros
import Derived.Lib.SliceRun

/-
  Layer 7's ground: rows copied whole.
-/
namespace Go.Proofs.YtfghepkojcebfaaGreat
open Go.RowKit
set_option maxRecDepth 100000

theorem Tryz.infoCell : (Tryz.prog.info? 53).map (fun i => (i.zero, i.size, i.bytes)) = some (some (.agg #[.bool false, .int .i64 0, .slice none 0 0]), 3, 40) := by kernel_rfl

def Ci.cells (x : Ci) : List Value := [.bool x.nul, .int .i64 x.num, .slice x.A x.txt.length x.c]

def xcells (xs : List Ci) : List Value := (xs.map Ci.cells).flatten

theorem xcells_snoc (xs : List Ci) (x : Ci) : xcells (xs ++ [x]) = xcells xs ++ x.cells := by simp [xcells]

theorem xcells_len (xs : List Ci) : (xcells xs).length = xs.length * 3 := by
  induction xs with
  | nil => rfl
  | cons f r ih =>
    have : xcells (f :: r) = f.cells ++ xcells r := by simp [xcells]
    rw [this, List.length_append, ih, List.length_cons]
    show 3 + _ = _
    omega

theorem xcells_at {xs : List Ci} {j : Nat} {x : Ci} (h : xs[j]? = some x) (i : Nat) (hi : i < 3) : (xcells xs)[j * 3 + i]? = x.cells[i]? := by
  induction xs generalizing j with
  | nil => simp at h
  | cons f r ih =>
    have hc : xcells (f :: r) = f.cells ++ xcells r := by simp [xcells]
    have hf : f.cells.length = 3 := rfl
    rw [hc]
    cases j with
    | zero =>
      simp at h
      subst h
      rw [Nat.zero_mul, Nat.zero_add, List.getElem?_append_left (by omega)]
    | succ j =>
      rw [List.getElem?_append_right (by omega), hf, ← ih (j := j) (by simpa using h)]
      congr 1
      omega

/-- A row of cells of the call's own; their texts, each of the call's own, each behind the one ahead. -/
def OwnX (w : World) (base : Nat) (A : Option Addr) (c : Nat) (xs : List Ci) : Prop := w.ownsRow base 53 3 (.slice A xs.length c) xs.length (xcells xs)

def TxtX (w : World) (base : Nat) (xs : List Ci) : Prop :=
  (∀ x ∈ xs, Own .u8 5 w base x.A x.c x.txt) ∧ xs.Pairwise fun f g => ∀ p q, f.A = some p → g.A = some q → p.block < q.block

theorem OwnX.nil (w : World) (base : Nat) : OwnX w base none 0 [] := World.ownsRow_nil w base _ 3

theorem OwnX.made {base : Nat} (w : World) (hb : base ≤ w.heap.size) : OwnX (w.alloc (.cells #[] 53)) base (some ⟨w.heap.size, 0, none⟩) 0 [] :=
  World.ownsRow_made w #[] 0 hb (by simp [maxLen]) (by simp)

theorem OwnX.ext {w w' : World} {base c : Nat} {A : Option Addr} {xs : List Ci} (h : OwnX w base A c xs) (hb : Ext w w') : OwnX w' base A c xs := by
  refine World.ownsRow.kept (row := none) h ⟨hb.os, hb.tape, hb.output, hb.size, fun i hi _ => hb.block i hi⟩ ?_
  cases hv : (Value.slice A xs.length c).ownBlock <;> simp

theorem TxtX.nil (w : World) (base : Nat) : TxtX w base [] := ⟨fun f h => (by cases h), .nil⟩

theorem TxtX.ext {w w' : World} {base : Nat} {xs : List Ci} (h : TxtX w base xs) (hb : Ext w w') : TxtX w' base xs := ⟨fun f hf => (h.1 f hf).ext hb, h.2⟩

theorem own_neX {w : World} {base base' c c' : Nat} {A A' : Option Addr} {fs : List Ci} {xs : List Nat} (h : OwnX w base A c fs) (k : Own .u8 5 w base' A' c' xs) : ∀ a, A' = some a → some a.block ≠ (Value.slice A fs.length c).ownBlock := by
  rintro a rfl e
  rcases h.2 with ⟨hv, _⟩ | ⟨g, cap, cur, hv, hg, hh, _⟩
  · rw [hv] at e; simp [Value.ownBlock] at e
  · rw [hv] at e
    simp [Value.ownBlock] at e
    rcases k.2 with ⟨hv', _⟩ | ⟨g', cap', cur', hv', _, hh', _⟩
    · cases hv'
    · injection hv' with hA
      injection hA with hA
      subst hA
      simp at e
      subst e
      rw [hh] at hh'
      injection hh' with hh'
      injection hh' with h1 h2 h3
      exact absurd h2 (by decide)

theorem TxtX.grown {w w' : World} {base base' c : Nat} {A : Option Addr} {fs gs : List Ci} (h : TxtX w base fs) (k : OwnX w base' A c gs) (hg : w.grownBy w' (Value.slice A gs.length c).ownBlock) : TxtX w' base fs :=
  ⟨fun f hf => (h.1 f hf).grown hg (own_neX k (h.1 f hf)), h.2⟩

theorem TxtX.snoc {w : World} {base base' : Nat} {fs : List Ci} {f : Ci} (h : TxtX w base fs) (hf : Own .u8 5 w base' f.A f.c f.txt) (hb : base ≤ base') (hl : ∀ g ∈ fs, ∀ p, g.A = some p → p.block < base') : TxtX w base (fs ++ [f]) := by
  refine ⟨fun g hg => ?_, ?_⟩
  · rcases List.mem_append.1 hg with h1 | h1
    · exact h.1 g h1
    · simp at h1; subst h1; exact hf.mono hb
  · rw [List.pairwise_append]
    refine ⟨h.2, by simp, fun g hg f' hf' p q hp hq => ?_⟩
    simp at hf'
    subst hf'
    exact Nat.lt_of_lt_of_le (hl g hg p hp) (hf.block q hq).1

/-- Of what is handed in nothing but the place differs. -/
theorem In_of_val {w : World} {x y : Ci} (h : x.val = y.val) {W : World} (hy : y.In W) (hr : Rd .u8 w x.A x.txt.length x.txt) : x.In w := by
  unfold Ci.val at h
  injection h with h1 h2
  injection h2 with h2 h3
  exact ⟨hr, h3 ▸ hy.u8, h2 ▸ hy.lo, h2 ▸ hy.hi, h3 ▸ hy.len⟩

theorem OwnX.rdX {w : World} {base c : Nat} {A : Option Addr} {xs : List Ci} (h : OwnX w base A c xs) (k : ∀ x ∈ xs, x.In w) : RdX w A xs.length xs := by
  refine ⟨rfl, fun hn => ?_⟩
  rcases h.2 with ⟨_, h0⟩ | ⟨g, cap, cur, hv, hg, hh, hnc, hcm, hcs, htake⟩
  · omega
  · injection hv with hA hl hc
    subst hA
    have hlt : g < w.heap.size := (Array.getElem?_eq_some_iff.1 hh).1
    refine ⟨g, 0, rfl, hlt, fun j x hj => ?_⟩
    have hjl : j < xs.length := (List.getElem?_eq_some_iff.1 hj).1
    have hat : ∀ i, i < xs.length * 3 → cur[i]? = (xcells xs)[i]? := fun i hi => by
      rw [← htake, List.getElem?_take, if_pos hi]
      simp
    refine ⟨?_, ?_, ?_, k x (List.mem_of_getElem? hj)⟩
    · rw [cell_of_row w g _ cur _ (0, 0) hh, Nat.zero_add, hat _ (by omega)]; exact xcells_at hj 0 (by omega)
    · rw [cell_of_row w g _ cur _ (0, 0) hh, Nat.zero_add, hat _ (by omega)]; exact xcells_at hj 1 (by omega)
    · rw [cell_of_row w g _ cur _ (0, 0) hh, Nat.zero_add, hat _ (by omega)]; exact xcells_at hj 2 (by omega)

/-- 'append(row, x)'. -/
theorem wpList_pushX {w0 w : World} {ops : Array Oper} {rest : List Oper} {o : Oper} {a : Act} {Q : Exit → Act → World → Prop} (f : Ci) (hgd : o.guard = none) (s y : Operand)
    (ho : o.op = .call { callee := .builtin .append, args := #[s, y], argTypes := #[22, 22] })
    {base : Nat} {A : Option Addr} {c : Nat} {fs : List Ci} (hown : OwnX w base A c fs) (n : Nat) (hn : fs.length = n) (hs : a.eval s = .slice A n c)
    {g : Nat} (hy : a.eval y = .slice (some ⟨g, 0, none⟩) 1 1) (hg : w.heap[g]? = some (.cells #[.bool f.nul, .int .i64 f.num, .slice f.A f.txt.length f.c] 53))
    (hlen : n ≤ 4398046511104) (hb : Below base w0 w) (hbase : base ≤ w.heap.size)
    (h : ∀ A' c' w', OwnX w' base A' c' (fs ++ [f]) → w.grownBy w' (Value.slice A fs.length c).ownBlock → Below base w0 w' → base ≤ w'.heap.size → wpList Tryz.prog ops Q rest (a.put o.dst (.slice A' (n + 1) c')) w') :
    wpList Tryz.prog ops Q (o :: rest) a w := by
  subst hn
  obtain ⟨i, hi0, hz, hsz, hbs⟩ := info_parts Tryz.infoCell
  refine wpList_append_own_wide w hgd s y 22 ho base 53 i _ 3 40 Tryz.underlying22 hi0 hz hsz hbs rfl (by decide) _ fs.length (xcells fs) hs hown
    ⟨g, 0, none⟩ 1 1 f.cells hy rfl ?_ ?_ (by unfold maxLen; omega) (by omega) hbase ?_
  · intro j u hj
    have hcr : w.cell? ((⟨g, 0, none⟩ : Addr).add j) = #[Value.bool f.nul, .int .i64 f.num, .slice f.A f.txt.length f.c][j]? := by
      rw [show (⟨g, 0, none⟩ : Addr).add j = ⟨g, j, none⟩ from by unfold Addr.add; split <;> simp_all]
      exact cell_of_row w g j _ _ (0, 0) hg
    rw [hcr, ← hj]
    simp [Ci.cells]
  · intro u hu
    simp [Ci.cells] at hu
    rcases hu with rfl | rfl | rfl <;> rfl
  · intro v' w' hown' hgr _
    have hform : ∃ A' c', v' = .slice A' (fs.length + 1) c' := by
      rcases hown'.2 with ⟨_, h0⟩ | ⟨g, cap, cur, hv, _⟩
      · omega
      · exact ⟨_, _, hv⟩
    obtain ⟨A', c', rfl⟩ := hform
    have hb' : Below base w0 w' := Below.grown hb hgr hbase (fun g hg' => (hown.lt g hg').1)
    refine h A' c' w' ?_ hgr hb' ?_
    · unfold OwnX
      rw [List.length_append, xcells_snoc]
      exact hown'
    · have := hgr.size
      omega

set_option maxHeartbeats 1600000 in
theorem twinRow_any (A : Option Addr) (n c : Nat) (xs : List Ci) (w : World) (hx : RdX w A n xs) (hn : n ≤ 4398046511104) :
    Calls Tryz.prog 10 #[.slice A n c] w fun e w' => ∃ fs A' c', e = .returned (.slice A' n c') ∧ fs.map Ci.val = xs.map Ci.val ∧ OwnX w' w.heap.size A' c' fs ∧ TxtX w' w.heap.size fs ∧ Ext w w' := by
  have Hl := Lib.hid hx.1
  go_enter Tryz.func10, Tryz.ntmps10
  go_wp2
  go_loopw [3, 4] (fun v i wr => ∃ (j : Nat) (A' : Option Addr) (c' : Nat) (fs : List Ci), j ≤ n ∧ i = .int .i64 j ∧ v = .slice A' j c' ∧ fs.length = j ∧ fs.map Ci.val = (xs.take j).map Ci.val ∧ OwnX wr w.heap.size A' c' fs ∧ TxtX wr w.heap.size fs ∧ Below w.heap.size w wr) (fun _ i _ => n - (intOf i).toNat)
  case atStart => exact ⟨0, _, _, [], Nat.zero_le _, rfl, rfl, rfl, rfl, OwnX.made _ (Nat.le_refl _), TxtX.nil _ _, (Ext.refl w).alloc _⟩
  case round =>
    obtain ⟨j, A', c', fs, hj, rfl, rfl, hfl, hfv, hown, htx, hb⟩ := hrel
    have hz := hb.size
    have Hfl := Lib.hid hfl
    have Hfv := Lib.hid hfv
    by_cases hlt : j < n
    · obtain ⟨b, o, f, rfl, hbl, hf, h1, h2, h3, hin⟩ := (hx.ext hb).at_ hlt
      have hnx : (xs.take (j + 1)).map Ci.val = (xs.take j).map Ci.val ++ [f.val] := by
        rw [List.take_add_one, hf, List.map_append]
        rfl
      have Hnx := Lib.hid hnx
      obtain ⟨xn, xi, xA, xc, xt⟩ := f
      simp only at h1 h2 h3
      obtain ⟨xr, xu, x0, x1, xl⟩ := hin
      simp only at xr xu x0 x1 xl
      obtain ⟨n3, hn3⟩ : ∃ n3, n3 = xt.length := ⟨_, rfl⟩
      rw [← hn3] at h3 xr xl
      have Hn3 := Lib.hid hn3
      have i0 : (0 : Int) ≤ (j : Int) := by omega
      have i1 : (j : Int) < (n : Int) := by omega
      clear hnx hf hn3 hfl hfv
      go_wp2_with fail
      refine (twin_any xn xi xA n3 xc xt _ xr (by omega)).mono ?_
      rintro e w1 ⟨A1, c1, rfl, hown1, he1⟩
      have hE1 : Below w.heap.size w w1 := Ext.trans hb he1
      have hown2 := hown.ext he1
      have htx2 := htx.ext he1
      have hlow : ∀ g ∈ fs, ∀ p, g.A = some p → p.block < wr.heap.size := fun g hg p hp => ((htx.1 g hg).block p hp).2
      have hsz1 := he1.size
      have hX : Ext w1 (w1.alloc (.cells #[.bool xn, .int .i64 xi, .slice A1 n3 c1] 53)) := (Ext.refl w1).alloc _
      have hown3 := hown2.ext hX
      go_wp2_with (at_builtin; refine wpList_pushX (w0 := w) ⟨xn, xi, A1, c1, xt⟩ rfl _ _ rfl hown3 j Hfl.out rfl rfl (by rw [← Hn3.out]; exact heap_alloc_new w1 _) (by omega) (Ext.trans hE1 hX) (by simp; omega) ?_; intro A3 c3 w3 hown4 hgr hb3 hz3)
      have htx3 : TxtX w3 w.heap.size (fs ++ [⟨xn, xi, A1, c1, xt⟩]) := TxtX.grown (base' := w.heap.size) (TxtX.snoc (htx2.ext hX) (hown1.ext hX) hz hlow) hown3 hgr
      go_roundw
      case rel => exact ⟨j + 1, A3, c3, _, by omega, by go_num, rfl, by simp [Hfl.out], by rw [Hnx.out, List.map_append, Hfv.out]; rfl, hown4, htx3, hb3⟩
      case measure => simp [intOf]; omega
    · obtain rfl : j = n := by omega
      have hv := Hfv.out
      rw [List.take_of_length_le (Nat.le_of_eq Hl.out)] at hv
      go_wp2
      go_ret
      exact ⟨fs, _, _, rfl, hv, hown, htx, hb⟩

end Go.Proofs.YtfghepkojcebfaaGreat

/-
  What the second form's bound gives: a slice's length is at most its bulk.
-/
namespace Go.Proofs.YtfghepkojcebfaaGreat

theorem bulk_pos {H : Type} (d : DataW H) : 1 ≤ Rows.uptoBulk d := by
  cases d with
  | lit l => cases l <;> simp [Rows.uptoBulk]
  | _ => simp [Rows.uptoBulk]

theorem bulk_length {H : Type} (l : List (DataW H)) : l.length ≤ Rows.uptoBulkAll l := by
  induction l with
  | nil => simp
  | cons d r ih => have := bulk_pos d; simp only [List.length_cons, Rows.uptoBulkAll]; omega

theorem bulk_len {H : Type} {d : DataW H} {len : Nat} (h : len = 0 ∨ ∃ elems spare, d = .slice elems spare ∧ elems.length = len) : len ≤ Rows.uptoBulk d := by
  rcases h with rfl | ⟨elems, spare, rfl, rfl⟩
  · exact Nat.zero_le _
  · have := bulk_length elems
    simp only [Rows.uptoBulk]
    omega

theorem upto_bulk {H : Type} {ds : List (DataW H)} (h : Rows.uptoSmall H ds = true) : Rows.uptoBulkAll ds ≤ 1048576 := of_decide_eq_true h

end Go.Proofs.YtfghepkojcebfaaGreat

/-
  From the row's reading of a cell to the words of our walks.
-/
namespace Go.Proofs.YtfghepkojcebfaaGreat
open Go.ChangeShapes Go.WideShapes Go.ChangeAt Go.RowKit

/-- Each string, slice and map within it is within the form's own reach. -/
def Sz {H : Type} (P : Program) (t : TypeId) (d : DataW H) : Prop := ∀ n ∈ d.weights P t, n ≤ reachBytes

section
variable {H : Type} {P : Program}
theorem sz_top {ts : List TypeId} {ds : List (DataW H)} (h : (DataW.weightsEach P ts ds).all (· ≤ reachBytes) = true) (j : Nat) {t : TypeId} {d : DataW H} (ht : ts[j]? = some t) (hd : ds[j]? = some d) : Sz P t d := by
  intro n hn
  have := List.all_eq_true.1 h _ (DataW.weights_mem_each ht hd n hn)
  simpa using this
theorem sz_part {t : TypeId} {fs : Array Field} {parts : List (DataW H)} (h : Sz P t (.agg parts)) (hu : P.underlying t = some (.struct fs)) (j : Nat) {f : Field} {d : DataW H} (hf : fs[j]? = some f) (hd : parts[j]? = some d) : Sz P f.type d := by
  intro n hn
  refine h n ?_
  simp only [DataW.weights, hu]
  refine DataW.weights_mem_each (j := j) (t := f.type) ?_ hd n hn
  rw [List.getElem?_map, Array.getElem?_toList, hf]
  rfl
theorem weights_mem_all {e : TypeId} : ∀ {ds : List (DataW H)} {d : DataW H}, d ∈ ds → ∀ n ∈ d.weights P e, n ∈ DataW.weightsAll P e ds
  | d0 :: r, d, hd, n, hn => by
    simp only [DataW.weightsAll, List.mem_append]
    rcases List.mem_cons.1 hd with rfl | hd
    · exact .inl hn
    · exact .inr (weights_mem_all hd n hn)
theorem sz_elem {t e : TypeId} {elems spare : List (DataW H)} (h : Sz P t (.slice elems spare)) (hu : P.underlying t = some (.slice e)) {d : DataW H} (hd : d ∈ elems) : Sz P e d := by
  intro n hn
  refine h n ?_
  simp only [DataW.weights, hu, List.mem_cons, List.mem_append]
  exact .inr (.inl (weights_mem_all hd n hn))
theorem sz_len {t e : TypeId} {elems spare : List (DataW H)} (h : Sz P t (.slice elems spare)) (hu : P.underlying t = some (.slice e)) : (elems.length + spare.length) * P.bytesOf e ≤ reachBytes := by
  refine h _ ?_
  simp [DataW.weights, hu]

theorem open_u8 {enc : TypeId × Value → H} {W : World} {t e : TypeId} {fuel : Nat} {v : Value} {d : DataW H} {p : List MemPlace}
    (ht : P.underlying t = some (.slice e)) (he : P.underlying e = some (.int .u8)) (hc : P.cellsOf e = 1) (hby : P.bytesOf e = 1)
    (h : DataW.trod enc P W 0 (fun _ => true) true fuel t [v] = some (d, p)) (hs : Sz P t d) :
    ∃ (a : Option Addr) (cap : Nat) (xs : List Nat), v = .slice a xs.length cap ∧ Rd .u8 W a xs.length xs ∧ U8 xs ∧ xs.length ≤ cap ∧ xs.length * 1 ≤ 140737488351232 ∧ xs.length ≤ Rows.uptoBulk d := by
  rcases open_ints ht he hc h with ⟨hcs, hx⟩ | ⟨x, l, c, zs, hcs, _, hl, hm, hz, hx, hcell, hwz⟩
  · injection hcs with hcs
    exact ⟨none, 0, [], hcs, Rd.nil .., (by intro v hv; cases hv), Nat.zero_le _, by simp, Nat.zero_le _⟩
  · injection hcs with hcs
    simp only [Prod.mk.injEq] at hx
    obtain ⟨rfl, _⟩ := hx
    have hzl : zs.length = c := by simpa using hz
    have hr := sz_len hs ht
    rw [hby] at hr
    simp only [lits, List.length_map, List.length_take, List.length_drop, reachBytes] at hr
    have hw : ∀ i, i < l → 0 ≤ zs.getD i 0 ∧ zs.getD i 0 < 256 := by
      intro i hi
      have hlt : i < zs.length := by omega
      have := wf_u8 (hwz _ (List.getElem_mem hlt))
      simpa [List.getD, hlt] using this
    have hxl : ((zs.take l).map Int.toNat).length = l := by rw [List.length_map, List.length_take]; omega
    refine ⟨some x, c, (zs.take l).map Int.toNat, by rw [hxl]; exact hcs, ?_, ?_, by omega, by omega, ?_⟩
    · rw [hxl]
      refine ⟨hxl, fun hn => ?_⟩
      have hc0 := hcell 0 (by omega)
      obtain ⟨b, o, spot⟩ := x
      have hspot : spot = none := by simpa [Addr.add] using World.cell?_spot hc0
      subst hspot
      refine ⟨b, o, rfl, ?_, fun i hi => ?_⟩
      · have hb := World.block_lt_of_cell? W _ hc0
        simpa [Addr.add] using hb
      · have h1 := hcell i (by omega)
        rw [add_plain] at h1
        rw [h1]
        have h2 := (hw i hi).1
        have hlt : i < zs.length := by omega
        have h3 : (((zs.take l).map Int.toNat).getD i 0 : Nat) = (zs.getD i 0).toNat := by simp [List.getD, hi, hlt]
        rw [h3, Int.toNat_of_nonneg h2]
    · intro v hv
      obtain ⟨n, hn, rfl⟩ := List.mem_map.1 hv
      have := wf_u8 (hwz _ (List.mem_of_mem_take hn))
      omega
    · rw [hxl]
      exact bulk_len (.inr ⟨_, _, rfl, by simp [lits]; omega⟩)
end


set_option maxRecDepth 100000 in
theorem open_parts {H : Type} {enc : TypeId × Value → H} {W : World} {n0 n1 n2 : Nat} {v0 v1 v2 : Value} {y0 y1 y2 : DataW H × List MemPlace}
    (h0 : DataW.trod enc Tryz.prog W 0 (fun _ => true) true n0 4 [v0] = some y0) (h1 : DataW.trod enc Tryz.prog W 0 (fun _ => true) true n1 2 [v1] = some y1) (h2 : DataW.trod enc Tryz.prog W 0 (fun _ => true) true n2 25 [v2] = some y2) (hs : Sz Tryz.prog 25 y2.1) :
    ∃ x : Ci, Value.agg #[v0, v1, v2] = x.v ∧ v0 = .bool x.nul ∧ v1 = .int .i64 x.num ∧ v2 = .slice x.A x.txt.length x.c ∧ x.In W ∧ x.txt.length ≤ Rows.uptoBulk y2.1 := by
  obtain ⟨b, e0, _⟩ := DataW.trod_bool Tryz.underlying4 h0
  obtain ⟨k, e1, _, wk⟩ := DataW.trod_int Tryz.underlying2 h1
  obtain ⟨a, c, xs, e2, hr, hu, hl, hz, hb⟩ := open_u8 Tryz.underlying25 Tryz.underlying5 (by kernel_rfl) (by kernel_rfl) h2 hs
  injection e0 with e0
  injection e1 with e1
  have wb := wf_i64 wk
  subst e0 e1 e2
  exact ⟨⟨b, k, a, c, xs⟩, rfl, rfl, rfl, rfl, ⟨hr, hu, wb.1, wb.2, hz⟩, hb⟩


set_option maxRecDepth 100000 in
theorem open_cell {H : Type} {enc : TypeId × Value → H} {W : World} {r : Reach} {b0 : Nat} {v : Value} {d : DataW H} {p : List MemPlace}
    (hv : Value.okWide Tryz.prog W r b0 53 v) (h : DataW.Trod enc Tryz.prog W 0 (fun _ => true) true 53 v d p) (hs : Sz Tryz.prog 53 d) :
    ∃ x : Ci, v = x.v ∧ x.In W ∧ x.txt.length ≤ Rows.uptoBulk d := by
  obtain ⟨v0, v1, v2, y0, y1, y2, n, rfl, rfl, _, h0, h1, h2⟩ := Go.Joins.open_agg3 Tryz.underlying53 (by kernel_rfl) (by kernel_rfl) hv h
  have hs2 := sz_part hs Tryz.underlying53 2 rfl rfl
  obtain ⟨x, e, _, _, _, hin, hb⟩ := open_parts h0 h1 h2 hs2
  refine ⟨x, e, hin, ?_⟩
  simp only [Rows.uptoBulk, Rows.uptoBulkAll]
  omega

end Go.Proofs.YtfghepkojcebfaaGreat

/-
  From the row's reading of rows, columns and schemas to the words of our walks (without sets and operations).
-/
namespace Go.Proofs.YtfghepkojcebfaaGreat
open Go.ChangeShapes Go.WideShapes Go.ChangeAt Go.RowKit Go.Deep


theorem nodes3 {H : Type} {enc : TypeId × Value → H} {P : Program} {W : World} {t : TypeId} {f0 f1 f2 : Field} {fuel : Nat} {cs : List Value} {x : DataW H × List MemPlace} (hs : P.underlying t = some (.struct #[f0, f1, f2])) (hone : oneCellFields P #[f0, f1, f2] = true) (hC : P.cellsOf t = 3)
    (h : DataW.trod enc P W 0 (fun _ => true) true fuel t cs = some x) :
    ∃ v0 v1 v2 y0 y1 y2 n, cs = [v0, v1, v2] ∧ x = (.agg [y0.1, y1.1, y2.1], y0.2 ++ (y1.2 ++ y2.2)) ∧ DataW.trod enc P W 0 (fun _ => true) true n f0.type [v0] = some y0 ∧ DataW.trod enc P W 0 (fun _ => true) true n f1.type [v1] = some y1 ∧ DataW.trod enc P W 0 (fun _ => true) true n f2.type [v2] = some y2 := by
  obtain ⟨y0, y1, y2, n, rfl, hl, h0, h1, h2⟩ := trod_struct3 hs h
  rw [hC] at hl
  match cs, hl with
  | [v0, v1, v2], _ =>
    obtain ⟨o0, k0⟩ := hone_of hone 0 f0 rfl
    obtain ⟨o1, k1⟩ := hone_of hone 1 f1 rfl
    obtain ⟨o2, k2⟩ := hone_of hone 2 f2 rfl
    exact ⟨v0, v1, v2, y0, y1, y2, n, rfl, rfl, by simpa [o0, k0] using h0, by simpa [o1, k1] using h1, by simpa [o2, k2] using h2⟩

section
variable {H : Type} {enc : TypeId × Value → H} {W : World}

set_option maxRecDepth 100000 in
/-- A cell out of its three cells. -/
theorem open_cell3 {fuel : Nat} {cs : List Value} {x : DataW H × List MemPlace} (h : DataW.trod enc Tryz.prog W 0 (fun _ => true) true fuel 53 cs = some x) (hs : Sz Tryz.prog 53 x.1) :
    ∃ c : Ci, cs = c.cells ∧ c.In W ∧ c.txt.length ≤ Rows.uptoBulk x.1 := by
  obtain ⟨v0, v1, v2, y0, y1, y2, n, rfl, rfl, h0, h1, h2⟩ := nodes3 Tryz.underlying53 (by kernel_rfl) (by kernel_rfl) h
  have hs2 := sz_part hs Tryz.underlying53 2 rfl rfl
  obtain ⟨c, _, e0, e1, e2, hin, hb⟩ := open_parts h0 h1 h2 hs2
  subst e0 e1 e2
  refine ⟨c, rfl, hin, ?_⟩
  simp only [Rows.uptoBulk, Rows.uptoBulkAll]
  omega

/-- The elements of a slice whose elements are structs of k cells. -/
theorem open_rows {t e : TypeId} {k bytes : Nat} {T : Type} {cells : T → List Value} {Q : T → DataW H → Prop} {fuel : Nat} {v : Value} {d : DataW H} {p : List MemPlace} (ht : Tryz.prog.underlying t = some (.slice e)) (hk : Tryz.prog.cellsOf e = k) (hk0 : 0 < k) (hby : Tryz.prog.bytesOf e = bytes)
    (hone : ∀ {n : Nat} {cs : List Value} {x : DataW H × List MemPlace}, DataW.trod enc Tryz.prog W 0 (fun _ => true) true n e cs = some x → Sz Tryz.prog e x.1 → ∃ c : T, cs = cells c ∧ Q c x.1)
    (h : DataW.trod enc Tryz.prog W 0 (fun _ => true) true fuel t [v] = some (d, p)) (hs : Sz Tryz.prog t d) :
    ∃ (a : Option Addr) (cap : Nat) (xs : List T), v = .slice a xs.length cap ∧ xs.length ≤ cap ∧ cap ≤ 9223372036854775807 ∧ xs.length * bytes ≤ 140737488351232 ∧ xs.length ≤ Rows.uptoBulk d ∧
      (∀ c ∈ xs, ∃ dd, Q c dd) ∧ (0 < xs.length → ∃ b o, a = some ⟨b, o, none⟩ ∧ b < W.heap.size ∧ ∀ j c, xs[j]? = some c → ∀ i u, (cells c)[i]? = some u → W.cell? ⟨b, o + j * k + i, none⟩ = some u) := by
  rcases open_slice ht h with ⟨hcs, hx⟩ | ⟨a, l, c, m, n, D, Pl, hcs, _, hl, hcm, hm, hx, hcell⟩
  · injection hcs with hcs
    exact ⟨none, 0, [], hcs, Nat.zero_le _, by decide, by simp, Nat.zero_le _, (by intro c hc; cases hc), fun hn => absurd hn (by simp)⟩
  · injection hcs with hcs
    simp only [Prod.mk.injEq] at hx
    obtain ⟨rfl, _⟩ := hx
    have hmc : m = c := by simpa using hm
    subst hmc
    have hr := sz_len hs ht
    rw [hby] at hr
    simp only [List.length_map, List.length_range, reachBytes] at hr
    have each : ∀ i, i < l → ∃ q : T, W.cells? 0 (a.add (i * k)) k = some (cells q) ∧ Q q (D i) := by
      intro i hi
      obtain ⟨cs', h1, h2⟩ := hcell i (by omega)
      rw [hk] at h1
      obtain ⟨q, e1, e2⟩ := hone h2 (sz_elem hs ht (List.mem_map.2 ⟨i, List.mem_range.2 hi, rfl⟩))
      exact ⟨q, by rw [h1, e1], e2⟩
    by_cases hl0 : l = 0
    · subst hl0
      exact ⟨some a, m, [], hcs, Nat.zero_le _, hcm, by simp, Nat.zero_le _, (by intro c hc; cases hc), fun hn => absurd hn (by simp)⟩
    · obtain ⟨q0, _⟩ := each 0 (by omega)
      have each' : ∀ i, ∃ q : T, i < l → W.cells? 0 (a.add (i * k)) k = some (cells q) ∧ Q q (D i) := by
        intro i
        by_cases hi : i < l
        · obtain ⟨q, hq⟩ := each i hi
          exact ⟨q, fun _ => hq⟩
        · exact ⟨q0, fun h => absurd h hi⟩
      obtain ⟨q, hq⟩ := Classical.axiomOfChoice each'
      have hxl : ((List.range l).map q).length = l := by simp
      refine ⟨some a, m, (List.range l).map q, by rw [hxl]; exact hcs, by rw [hxl]; exact hl, hcm, ?_, ?_, ?_, fun hn => ?_⟩
      · rw [hxl]
        have : l + (m - l) = m := by omega
        rw [this] at hr
        exact Nat.le_trans (Nat.mul_le_mul_right _ hl) hr
      · rw [hxl]
        exact bulk_len (.inr ⟨_, _, rfl, by simp⟩)
      · intro c hc
        obtain ⟨i, hi, rfl⟩ := List.mem_map.1 hc
        exact ⟨_, (hq i (List.mem_range.1 hi)).2⟩
      · obtain ⟨b, o, spot⟩ := a
        have hall : ∀ i, i < l → ∀ r u, (cells (q i))[r]? = some u → W.cell? ((⟨b, o, spot⟩ : Addr).add (i * k) |>.add r) = some u := by
          intro i hi r u hu
          obtain ⟨_, hlen, hc⟩ := World.cells?_some (hq i hi).1
          have hr := (List.getElem?_eq_some_iff.1 hu).1
          rw [hc r (by omega), hu]
        have hl1 : 0 < l := by omega
        obtain ⟨_, hlen0, hc0⟩ := World.cells?_some (hq 0 hl1).1
        have hu0 : (cells (q 0))[0]? = some (cells (q 0))[0] := List.getElem?_eq_getElem (by omega)
        have hz := hall 0 hl1 0 _ hu0
        have hspot : spot = none := by simpa [Addr.add] using World.cell?_spot hz
        subst hspot
        refine ⟨b, o, rfl, ?_, fun j c hj i u hu => ?_⟩
        · have hb := World.block_lt_of_cell? W _ hz
          simpa [Addr.add] using hb
        · rw [List.getElem?_map, Option.map_eq_some_iff] at hj
          obtain ⟨i', hi', rfl⟩ := hj
          obtain ⟨g1, g2⟩ := List.getElem?_eq_some_iff.1 hi'
          simp at g1 g2
          subst g2
          have := hall j g1 i u hu
          rwa [add_plain, add_plain] at this

set_option maxRecDepth 100000 in
theorem open_row {fuel : Nat} {v : Value} {d : DataW H} {p : List MemPlace} (h : DataW.trod enc Tryz.prog W 0 (fun _ => true) true fuel 22 [v] = some (d, p)) (hs : Sz Tryz.prog 22 d) :
    ∃ (a : Option Addr) (n cap : Nat) (xs : List Ci), v = .slice a n cap ∧ RdX W a n xs ∧ n ≤ cap ∧ cap ≤ 9223372036854775807 ∧ n * 40 ≤ 140737488351232 ∧ n ≤ Rows.uptoBulk d := by
  obtain ⟨a, cap, xs, e, h1, h2, h3, h4, h5, h6⟩ := open_rows (k := 3) (bytes := 40) (cells := Ci.cells) (Q := fun c _ => c.In W) Tryz.underlying22 (by kernel_rfl) (by decide) (by kernel_rfl) (fun h hs => by
    obtain ⟨c, e1, e2, _⟩ := open_cell3 h hs
    exact ⟨c, e1, e2⟩) h hs
  refine ⟨a, xs.length, cap, xs, e, ⟨rfl, fun hn => ?_⟩, h1, h2, h3, h4⟩
  obtain ⟨b, o, ea, hb, hc⟩ := h6 hn
  refine ⟨b, o, ea, hb, fun j x hj => ⟨?_, ?_, ?_, ?_⟩⟩
  · exact hc j x hj 0 _ rfl
  · exact hc j x hj 1 _ rfl
  · exact hc j x hj 2 _ rfl
  · obtain ⟨_, hin⟩ := h5 x (List.mem_of_getElem? hj)
    exact hin

theorem open_rowT {a : Option Addr} {len cap : Nat} {d : DataW H} {p : List MemPlace} (h : DataW.Trod enc Tryz.prog W 0 (fun _ => true) true 22 (.slice a len cap) d p) (hs : Sz Tryz.prog 22 d) :
    ∃ xs : List Ci, RdX W a len xs ∧ len * 40 ≤ 140737488351232 ∧ len ≤ Rows.uptoBulk d := by
  obtain ⟨fuel, hf⟩ := h
  obtain ⟨a', n', c', xs, e, h1, _, _, h4, h5⟩ := open_row (v := .slice a len cap) hf hs
  injection e with e1 e2 e3
  subst e1 e2 e3
  exact ⟨xs, h1, h4, h5⟩
end

end Go.Proofs.YtfghepkojcebfaaGreat

/-
  A row of cells that is handed in: each text within its spare room.
-/
namespace Go.Proofs.YtfghepkojcebfaaGreat
open Go.ChangeShapes Go.WideShapes Go.ChangeAt Go.RowKit Go.Deep

theorem u8_cap {H : Type} {enc : TypeId × Value → H} {P : Program} {W : World} {t e : TypeId} {fuel : Nat} {a : Option Addr} {n cap : Nat} {y : DataW H × List MemPlace}
    (ht : P.underlying t = some (.slice e)) (he : P.underlying e = some (.int .u8)) (hc : P.cellsOf e = 1)
    (h : DataW.trod enc P W 0 (fun _ => true) true fuel t [.slice a n cap] = some y) : n ≤ cap ∧ cap ≤ 9223372036854775807 := by
  rcases open_ints ht he hc h with ⟨hcs, hx⟩ | ⟨x, l, c, zs, hcs, _, hl, hm, hz, hx, hcell, hwz⟩
  · simp at hcs
    obtain ⟨_, rfl, rfl⟩ := hcs
    exact ⟨Nat.le_refl _, by decide⟩
  · simp at hcs
    obtain ⟨_, rfl, rfl⟩ := hcs
    exact ⟨hl, hm⟩

section
variable {H : Type} {enc : TypeId × Value → H} {W : World}

set_option maxRecDepth 100000 in
theorem open_cell3c {fuel : Nat} {cs : List Value} {x : DataW H × List MemPlace} (h : DataW.trod enc Tryz.prog W 0 (fun _ => true) true fuel 53 cs = some x) (hs : Sz Tryz.prog 53 x.1) :
    ∃ c : Ci, cs = c.cells ∧ c.In W ∧ c.txt.length ≤ c.c ∧ c.c ≤ 9223372036854775807 := by
  obtain ⟨v0, v1, v2, y0, y1, y2, n, rfl, rfl, h0, h1, h2⟩ := nodes3 Tryz.underlying53 (by kernel_rfl) (by kernel_rfl) h
  have hs2 := sz_part hs Tryz.underlying53 2 rfl rfl
  obtain ⟨c, _, e0, e1, e2, hin, hb⟩ := open_parts h0 h1 h2 hs2
  subst e0 e1 e2
  exact ⟨c, rfl, hin, u8_cap Tryz.underlying25 Tryz.underlying5 (by kernel_rfl) h2⟩

set_option maxRecDepth 100000 in
theorem open_rowC {a : Option Addr} {len cap : Nat} {d : DataW H} {p : List MemPlace} (h : DataW.Trod enc Tryz.prog W 0 (fun _ => true) true 22 (.slice a len cap) d p) (hs : Sz Tryz.prog 22 d) :
    ∃ xs : List Ci, RdX W a len xs ∧ len * 40 ≤ 140737488351232 ∧ (∀ x ∈ xs, x.txt.length ≤ x.c ∧ x.c ≤ 9223372036854775807) ∧ len ≤ cap ∧ cap ≤ 9223372036854775807 := by
  obtain ⟨fuel, hf⟩ := h
  obtain ⟨a', cap', xs, e, h1, h2, h3, h4, h5, h6⟩ := open_rows (k := 3) (bytes := 40) (cells := Ci.cells) (Q := fun c _ => c.In W ∧ c.txt.length ≤ c.c ∧ c.c ≤ 9223372036854775807) Tryz.underlying22 (by kernel_rfl) (by decide) (by kernel_rfl) (fun h hs => open_cell3c h hs) hf hs
  injection e with e1 e2 e3
  subst e1 e2 e3
  refine ⟨xs, ⟨rfl, fun hn => ?_⟩, h3, fun x hx => (h5 x hx).elim fun _ q => q.2, h1, h2⟩
  obtain ⟨b, o, ea, hb, hc⟩ := h6 hn
  refine ⟨b, o, ea, hb, fun j x hj => ⟨?_, ?_, ?_, ?_⟩⟩
  · exact hc j x hj 0 _ rfl
  · exact hc j x hj 1 _ rfl
  · exact hc j x hj 2 _ rfl
  · obtain ⟨_, hin⟩ := h5 x (List.mem_of_getElem? hj)
    exact hin.1
end

end Go.Proofs.YtfghepkojcebfaaGreat

/-
  Plain mathematics of the check sum: a register of 32 bits as a natural number, one step of it, so many steps, bytes laid into it; that it adds bit by bit, joins, and that a run of at most 32 turned bits never comes out as nothing.
-/
namespace Go.Proofs.YtfghepkojcebfaaGreat

/-- One step: to the right by one, and the polynomial added where a 1 fell out. -/
def cb (s : Nat) : Nat := if s % 2 = 1 then s / 2 ^^^ 2197175160 else s / 2

/-- So many steps. -/
def cN : Nat → Nat → Nat
  | 0, s => s
  | k + 1, s => cN k (cb s)

theorem cb_odd {s : Nat} (h : s % 2 = 1) : cb s = s / 2 ^^^ 2197175160 := by simp [cb, h]
theorem cb_even {s : Nat} (h : s % 2 = 0) : cb s = s / 2 := by simp [cb, h]
theorem xor4 (a b c d : Nat) : (a ^^^ b) ^^^ (c ^^^ d) = (a ^^^ c) ^^^ (b ^^^ d) := by
  rw [Nat.xor_assoc, Nat.xor_assoc, ← Nat.xor_assoc b, Nat.xor_comm b c, Nat.xor_assoc c]
theorem xor_can (a b : Nat) : (a ^^^ b) ^^^ b = a := by rw [Nat.xor_assoc, Nat.xor_self, Nat.xor_zero]
theorem xor_can' (a b : Nat) : b ^^^ (b ^^^ a) = a := by rw [← Nat.xor_assoc, Nat.xor_self, Nat.zero_xor]
theorem xor_inj {a b c : Nat} (h : a ^^^ c = b ^^^ c) : a = b := by rw [← xor_can a c, h, xor_can]
theorem xor_eq0 {a b : Nat} (h : a ^^^ b = 0) : a = b := by rw [← xor_can a b, h, Nat.zero_xor]
theorem xor_half (a b : Nat) : (a ^^^ b) / 2 = a / 2 ^^^ b / 2 := Nat.xor_div_two_pow (n := 1)
theorem xor_par (a b : Nat) : (a ^^^ b) % 2 = (a % 2 ^^^ b % 2) := by have := Nat.xor_mod_two_pow (a := a) (b := b) (n := 1); simpa using this

theorem cb_xor (a b : Nat) : cb (a ^^^ b) = cb a ^^^ cb b := by
  have hp := xor_par a b
  have hh := xor_half a b
  rcases Nat.mod_two_eq_zero_or_one a with h1 | h1 <;> rcases Nat.mod_two_eq_zero_or_one b with h2 | h2 <;> rw [h1, h2] at hp
  · rw [cb_even hp, cb_even h1, cb_even h2, hh]
  · rw [cb_odd hp, cb_even h1, cb_odd h2, hh, Nat.xor_assoc]
  · rw [cb_odd hp, cb_odd h1, cb_even h2, hh, Nat.xor_assoc, Nat.xor_assoc, Nat.xor_comm (b / 2)]
  · rw [cb_even hp, cb_odd h1, cb_odd h2, hh, xor4, Nat.xor_self, Nat.xor_zero]

theorem cN_xor (k a b : Nat) : cN k (a ^^^ b) = cN k a ^^^ cN k b := by
  induction k generalizing a b with
  | zero => rfl
  | succ k ih => simp only [cN]; rw [cb_xor, ih]

theorem cN_zero (k : Nat) : cN k 0 = 0 := by
  induction k with
  | zero => rfl
  | succ k ih => simpa [cN, cb] using ih

theorem cb_dbl (x : Nat) : cb (2 * x) = x := by rw [cb_even (by omega)]; omega

theorem cN_shift (k x : Nat) : cN k (2 ^ k * x) = x := by
  induction k with
  | zero => simp [cN]
  | succ k ih => rw [cN, Nat.pow_succ, Nat.mul_comm (2 ^ k) 2, Nat.mul_assoc, cb_dbl, ih]

theorem cN_add (j k s : Nat) : cN (j + k) s = cN k (cN j s) := by
  induction j generalizing s with
  | zero => simp [cN]
  | succ j ih => rw [Nat.succ_add, cN, ih, cN]

theorem cN_succ (k s : Nat) : cN (k + 1) s = cb (cN k s) := by rw [cN_add]; rfl

theorem cb_lt {s : Nat} (h : s < 4294967296) : cb s < 4294967296 := by
  unfold cb
  split
  · exact Nat.xor_lt_two_pow (n := 32) (by omega) (by omega)
  · omega

theorem cN_lt (k : Nat) {s : Nat} (h : s < 4294967296) : cN k s < 4294967296 := by
  induction k generalizing s with
  | zero => exact h
  | succ k ih => exact ih (cb_lt h)

theorem cb_inj0 {s : Nat} (h : s < 4294967296) (h0 : cb s = 0) : s = 0 := by
  rcases Nat.mod_two_eq_zero_or_one s with h1 | h1
  · rw [cb_even h1] at h0; omega
  · rw [cb_odd h1] at h0
    have := xor_eq0 h0
    omega

theorem cN_inj0 (k : Nat) {s : Nat} (h : s < 4294967296) (h0 : cN k s = 0) : s = 0 := by
  induction k generalizing s with
  | zero => exact h0
  | succ k ih => exact cb_inj0 h (ih (cb_lt h) h0)

theorem xor_lt32 {a b : Nat} (ha : a < 4294967296) (hb : b < 4294967296) : a ^^^ b < 4294967296 := Nat.xor_lt_two_pow (n := 32) ha hb

theorem cN_inj (k : Nat) {a b : Nat} (ha : a < 4294967296) (hb : b < 4294967296) (h : cN k a = cN k b) : a = b := by
  refine xor_eq0 (cN_inj0 k (xor_lt32 ha hb) ?_)
  rw [cN_xor, h, Nat.xor_self]

/-- A low part and a high part: the sum is the bitwise one. -/
theorem lowhigh {w v x : Nat} (h : v < 2 ^ w) : v + 2 ^ w * x = v ^^^ 2 ^ w * x := by
  have h1 : (v ^^^ 2 ^ w * x) % 2 ^ w = v := by rw [Nat.xor_mod_two_pow, Nat.mul_mod_right, Nat.xor_zero, Nat.mod_eq_of_lt h]
  have h2 : (v ^^^ 2 ^ w * x) / 2 ^ w = x := by rw [Nat.xor_div_two_pow, Nat.div_eq_of_lt h, Nat.zero_xor, Nat.mul_div_cancel_left _ (Nat.two_pow_pos w)]
  have := Nat.mod_add_div (v ^^^ 2 ^ w * x) (2 ^ w)
  rw [h1, h2] at this
  exact this

/-- The register s behind the bytes bs. -/
def creg (s : Nat) (bs : List Nat) : Nat := cN (8 * bs.length) (s ^^^ pk 8 bs)

theorem creg_nil (s : Nat) : creg s [] = s := by simp [creg, pk, cN]

theorem creg_cons (s : Nat) {v : Nat} {r : List Nat} (hv : v < 256) : creg s (v :: r) = creg (cN 8 (s ^^^ v)) r := by
  unfold creg
  rw [List.length_cons, Nat.mul_succ, Nat.add_comm, cN_add, pk, lowhigh (w := 8) (by simpa using hv), ← Nat.xor_assoc, cN_xor 8, cN_shift]

theorem creg_append {a : List Nat} (ha : U8 a) (s : Nat) (b : List Nat) : creg s (a ++ b) = creg (creg s a) b := by
  induction a generalizing s with
  | nil => rw [creg_nil]; rfl
  | cons v r ih =>
    have hv : v < 256 := ha v List.mem_cons_self
    rw [List.cons_append, creg_cons s hv, creg_cons s hv, ih (fun x hx => ha x (List.mem_cons_of_mem _ hx))]

theorem creg_snoc {a : List Nat} (ha : U8 a) (s : Nat) {v : Nat} (hv : v < 256) : creg s (a ++ [v]) = cN 8 (creg s a ^^^ v) := by
  rw [creg_append ha, creg_cons _ hv, creg_nil]

theorem creg_lt {a : List Nat} (ha : U8 a) {s : Nat} (hs : s < 4294967296) : creg s a < 4294967296 := by
  induction a generalizing s with
  | nil => rw [creg_nil]; exact hs
  | cons v r ih =>
    have hv : v < 256 := ha v List.mem_cons_self
    rw [creg_cons s hv]
    exact ih (fun x hx => ha x (List.mem_cons_of_mem _ hx)) (cN_lt 8 (xor_lt32 hs (by omega)))

/-- The sum of the bytes. -/
def crc (bs : List Nat) : Nat := creg 4294967295 bs ^^^ 4294967295

theorem crc_lt {a : List Nat} (ha : U8 a) : crc a < 4294967296 := xor_lt32 (creg_lt ha (by decide)) (by decide)
theorem crc_nil : crc [] = 0 := by rw [crc, creg_nil, Nat.xor_self]
theorem crc_reg (a : List Nat) : crc a ^^^ 4294967295 = creg 4294967295 a := by rw [crc, xor_can]

/-- What Join says. -/
def joined (x y n : Nat) : Nat := cN (8 * n) x ^^^ y

theorem creg_xor_left (s t : Nat) (b : List Nat) : creg (s ^^^ t) b = cN (8 * b.length) s ^^^ creg t b := by
  unfold creg
  rw [Nat.xor_assoc, cN_xor]

theorem crc_append {a : List Nat} (ha : U8 a) (b : List Nat) : crc (a ++ b) = joined (crc a) (crc b) b.length := by
  rw [crc, creg_append ha, ← crc_reg a, creg_xor_left, Nat.xor_assoc]
  rfl

/-- Three lists of one length, bit by bit. -/
def xor3 : List Nat → List Nat → List Nat → List Nat
  | a :: x, b :: y, c :: z => (a ^^^ b ^^^ c) :: xor3 x y z
  | _, _, _ => []

theorem creg_xor3 {x y z : List Nat} (hx : U8 x) (hy : U8 y) (hz : U8 z) (h1 : y.length = x.length) (h2 : z.length = x.length) (s t u : Nat) :
    creg (s ^^^ t ^^^ u) (xor3 x y z) = creg s x ^^^ creg t y ^^^ creg u z := by
  induction x generalizing y z s t u with
  | nil =>
    obtain rfl : y = [] := List.eq_nil_of_length_eq_zero h1
    obtain rfl : z = [] := List.eq_nil_of_length_eq_zero h2
    simp only [xor3, creg_nil]
  | cons a x ih =>
    match y, z, h1, h2 with
    | b :: y, c :: z, h1, h2 =>
      have ha : a < 256 := hx a List.mem_cons_self
      have hb : b < 256 := hy b List.mem_cons_self
      have hc : c < 256 := hz c List.mem_cons_self
      have hab : a ^^^ b ^^^ c < 256 := Nat.xor_lt_two_pow (n := 8) (Nat.xor_lt_two_pow (n := 8) ha hb) hc
      rw [xor3, creg_cons _ hab, creg_cons _ ha, creg_cons _ hb, creg_cons _ hc, ← ih (fun v hv => hx v (List.mem_cons_of_mem _ hv)) (fun v hv => hy v (List.mem_cons_of_mem _ hv)) (fun v hv => hz v (List.mem_cons_of_mem _ hv)) (by simpa using h1) (by simpa using h2),
        ← cN_xor, ← cN_xor, xor4 s a t b, xor4 (s ^^^ t) (a ^^^ b) u c]

theorem crc_xor3 {x y z : List Nat} (hx : U8 x) (hy : U8 y) (hz : U8 z) (h1 : y.length = x.length) (h2 : z.length = x.length) :
    crc (xor3 x y z) = crc x ^^^ crc y ^^^ crc z := by
  have h := creg_xor3 hx hy hz h1 h2 4294967295 4294967295 4294967295
  rw [Nat.xor_self, Nat.zero_xor] at h
  unfold crc
  rw [h, xor4 (creg 4294967295 x) 4294967295 (creg 4294967295 y), Nat.xor_self, Nat.xor_zero, ← Nat.xor_assoc]

end Go.Proofs.YtfghepkojcebfaaGreat

/-
  Plain mathematics of sealed bytes: what is sealed is what leaves one register; turned bits as a number added bit by bit; a run of at most 32 of them is told.
-/
namespace Go.Proofs.YtfghepkojcebfaaGreat

theorem pk_append (w : Nat) (a b : List Nat) : pk w (a ++ b) = pk w a + 2 ^ (w * a.length) * pk w b := by
  induction a with
  | nil => simp [pk]
  | cons v r ih => rw [List.cons_append, pk, ih, pk, List.length_cons, two_pow_mul_succ, Nat.mul_add, Nat.mul_assoc, Nat.add_assoc]

/-- Are the last four bytes the sum of those ahead? -/
def sld (bs : List Nat) : Prop := 4 ≤ bs.length ∧ pk 8 (bs.drop (bs.length - 4)) = crc (bs.take (bs.length - 4))

instance (bs : List Nat) : Decidable (sld bs) := by unfold sld; infer_instance

theorem u8_append {a b : List Nat} (h : U8 a) (k : U8 b) : U8 (a ++ b) := fun v hv => (List.mem_append.1 hv).elim (h v) (k v)

theorem creg_four (s : Nat) {q : List Nat} (h : q.length = 4) : creg s q = cN 32 (s ^^^ pk 8 q) := by rw [creg, h]

theorem sld_split {t q : List Nat} (hq : q.length = 4) : sld (t ++ q) ↔ pk 8 q = crc t := by
  unfold sld
  rw [List.length_append, hq, Nat.add_sub_cancel, List.drop_left, List.take_left]
  exact ⟨fun h => h.2, fun h => ⟨by omega, h⟩⟩

theorem sld_reg {bs : List Nat} (h : U8 bs) (hl : 4 ≤ bs.length) : sld bs ↔ creg 4294967295 bs = cN 32 4294967295 := by
  have hs : bs = bs.take (bs.length - 4) ++ bs.drop (bs.length - 4) := (List.take_append_drop _ _).symm
  have hq : (bs.drop (bs.length - 4)).length = 4 := by rw [List.length_drop]; omega
  have ht := u8_take h (bs.length - 4)
  have hu := u8_drop h (bs.length - 4)
  generalize bs.take (bs.length - 4) = t at *
  generalize bs.drop (bs.length - 4) = q at *
  subst hs
  rw [sld_split hq, creg_append ht, creg_four _ hq, crc]
  have hr := creg_lt ht (s := 4294967295) (by decide)
  have hv : pk 8 q < 4294967296 := by have := pk_lt (U8_wd.1 hu); rw [hq] at this; exact this
  constructor
  · intro e
    rw [e, xor_can']
  · intro e
    have := cN_inj 32 (xor_lt32 hr hv) (by decide) e
    rw [← xor_can' (pk 8 q) (creg 4294967295 t), this]

/-- The number's four bytes behind the text. -/
theorem sld_seal {t : List Nat} (ht : U8 t) : sld (t ++ upk 8 4 (crc t)) := by
  rw [sld_split (upk_len 8 4 _), pk_upk]
  exact Nat.mod_eq_of_lt (crc_lt ht)

/-- The bytes with the bits of e turned. -/
def tn (bs : List Nat) (e : Nat) : List Nat := upk 8 bs.length (pk 8 bs ^^^ e)

theorem tn_len (bs : List Nat) (e : Nat) : (tn bs e).length = bs.length := upk_len _ _ _
theorem tn_u8 (bs : List Nat) (e : Nat) : U8 (tn bs e) := U8_wd.2 (upk_wd _ _ _)
theorem tn_zero {bs : List Nat} (h : U8 bs) : tn bs 0 = bs := by rw [tn, Nat.xor_zero, upk_pk (U8_wd.1 h)]

theorem pk_tn {bs : List Nat} (h : U8 bs) {e : Nat} (he : e < 2 ^ (8 * bs.length)) : pk 8 (tn bs e) = pk 8 bs ^^^ e := by
  rw [tn, pk_upk, Nat.mod_eq_of_lt (Nat.xor_lt_two_pow (pk_lt (U8_wd.1 h)) he)]

theorem tn_eq {bs : List Nat} (h : U8 bs) {e : Nat} (he : e < 2 ^ (8 * bs.length)) : tn bs e = bs ↔ e = 0 := by
  constructor
  · intro q
    have := pk_tn h he
    rw [q] at this
    have h2 := xor_can' e (pk 8 bs)
    rw [← this, Nat.xor_self] at h2
    exact h2.symm
  · rintro rfl
    exact tn_zero h

theorem creg_tn {bs : List Nat} (h : U8 bs) {e : Nat} (he : e < 2 ^ (8 * bs.length)) (s : Nat) : creg s (tn bs e) = creg s bs ^^^ cN (8 * bs.length) e := by
  rw [creg, tn_len, pk_tn h he, ← Nat.xor_assoc, cN_xor]
  rfl

/-- A run of at most 32 bits, p, from bit k on, leaves something in the register. -/
theorem run_left {p k m : Nat} (hp : p < 4294967296) (h : p * 2 ^ k < 2 ^ m) (h0 : cN m (p * 2 ^ k) = 0) : p = 0 := by
  by_cases hk : k ≤ m
  · obtain ⟨j, rfl⟩ : ∃ j, m = k + j := ⟨m - k, by omega⟩
    rw [cN_add, Nat.mul_comm, cN_shift] at h0
    exact cN_inj0 j hp h0
  · rcases Nat.eq_zero_or_pos p with h1 | h1
    · exact h1
    · have h2 : 2 ^ m ≤ 2 ^ k := Nat.pow_le_pow_right (by omega) (by omega)
      have h3 : 2 ^ k ≤ p * 2 ^ k := Nat.le_mul_of_pos_left _ h1
      omega

/-- Sealed bytes with a run turned are sealed only where nothing was turned. -/
theorem sld_tn {bs : List Nat} (h : U8 bs) (hs : sld bs) {p k : Nat} (hp : p < 4294967296) (he : p * 2 ^ k < 2 ^ (8 * bs.length)) : sld (tn bs (p * 2 ^ k)) ↔ p = 0 := by
  have hl := hs.1
  rw [sld_reg (tn_u8 _ _) (by rw [tn_len]; exact hl), creg_tn h he, (sld_reg h hl).1 hs]
  constructor
  · intro q
    have h2 := xor_can' (cN (8 * bs.length) (p * 2 ^ k)) (cN 32 4294967295)
    rw [q, Nat.xor_self] at h2
    exact run_left hp he h2.symm
  · rintro rfl
    rw [Nat.zero_mul, cN_zero, Nat.xor_zero]

/-- One bit more is turned: the byte in which it lies is another one. -/
theorem upk_bit {n N k : Nat} (h : k < 8 * n) : upk 8 n (N ^^^ 2 ^ k) = (upk 8 n N).set (k / 8) ((upk 8 n N).getD (k / 8) 0 ^^^ 2 ^ (k % 8)) := by
  induction n generalizing N k with
  | zero => omega
  | succ n ih =>
    by_cases hk : k < 8
    · have e1 : k / 8 = 0 := by omega
      have e2 : k % 8 = k := by omega
      have hlt : 2 ^ k < 2 ^ 8 := Nat.pow_lt_pow_right (by omega) hk
      rw [e1, e2, upk, upk, List.set_cons_zero, List.getD_cons_zero, Nat.xor_mod_two_pow, Nat.xor_div_two_pow, Nat.mod_eq_of_lt hlt, Nat.div_eq_of_lt hlt, Nat.xor_zero]
    · obtain ⟨j, rfl⟩ : ∃ j, k = j + 8 := ⟨k - 8, by omega⟩
      have e1 : (j + 8) / 8 = j / 8 + 1 := by omega
      have e2 : (j + 8) % 8 = j % 8 := by omega
      rw [e1, e2, upk, upk, List.set_cons_succ, List.getD_cons_succ, Nat.xor_mod_two_pow, Nat.xor_div_two_pow, Nat.pow_add, Nat.mul_mod_left, Nat.xor_zero, Nat.mul_div_cancel _ (by decide), ih (by omega)]

/-- The first bytes and the rest of turned bytes. -/
theorem tn_take {bs : List Nat} (h : U8 bs) {n : Nat} (hn : n ≤ bs.length) (e : Nat) : (tn bs e).take n = tn (bs.take n) (e % 2 ^ (8 * n)) := by
  have hl : (bs.take n).length = n := by rw [List.length_take]; omega
  have hp : pk 8 (bs.take n) = pk 8 bs % 2 ^ (8 * n) := by
    have := congrArg (pk 8) (upk_take 8 bs.length (pk 8 bs) n hn)
    rw [upk_pk (U8_wd.1 h), pk_upk] at this
    exact this
  rw [tn, tn, upk_take _ _ _ _ hn, hl, hp, ← Nat.xor_mod_two_pow, upk_mod _ _ _ _ (Nat.le_refl _)]

theorem upk_drop (w n N i : Nat) (h : i ≤ n) : (upk w n N).drop i = upk w (n - i) (N / 2 ^ (w * i)) := by
  induction n generalizing N i with
  | zero => obtain rfl : i = 0 := by omega
            simp
  | succ n ih =>
    cases i with
    | zero => simp
    | succ i => rw [upk, List.drop_succ_cons, ih _ _ (by omega), Nat.div_div_eq_div_mul, ← two_pow_mul_succ, Nat.succ_sub_succ]

theorem tn_drop {bs : List Nat} (h : U8 bs) {n : Nat} (hn : n ≤ bs.length) (e : Nat) : (tn bs e).drop n = tn (bs.drop n) (e / 2 ^ (8 * n)) := by
  have hp : pk 8 (bs.drop n) = pk 8 bs / 2 ^ (8 * n) := by
    have h1 := pk_append 8 (bs.take n) (bs.drop n)
    have hl : (bs.take n).length = n := by rw [List.length_take]; omega
    rw [List.take_append_drop, hl] at h1
    have h2 := pk_lt (U8_wd.1 (u8_take h n))
    rw [hl] at h2
    rw [h1, Nat.add_mul_div_left _ _ (Nat.two_pow_pos _), Nat.div_eq_of_lt h2, Nat.zero_add]
  rw [tn, tn, upk_drop _ _ _ _ hn, List.length_drop, hp, Nat.xor_div_two_pow]

/-- A run cut at bit m: its beginning and its rest are runs. -/
theorem turn_cut (p k m : Nat) : (p * 2 ^ k) % 2 ^ m = (p % 2 ^ (m - k)) * 2 ^ k ∨ (p * 2 ^ k) % 2 ^ m = 0 ∧ m ≤ k := by
  by_cases h : k ≤ m
  · left
    obtain ⟨j, rfl⟩ : ∃ j, m = k + j := ⟨m - k, by omega⟩
    rw [Nat.add_sub_cancel_left, Nat.pow_add, Nat.mul_comm p, Nat.mul_mod_mul_left, Nat.mul_comm]
  · right
    obtain ⟨j, rfl⟩ : ∃ j, k = m + j := ⟨k - m, by omega⟩
    refine ⟨?_, by omega⟩
    rw [Nat.pow_add, ← Nat.mul_assoc, Nat.mul_comm p, Nat.mul_assoc, Nat.mul_mod_right]

theorem run_rest (p k m : Nat) : (p * 2 ^ k) / 2 ^ m = (if k ≤ m then p / 2 ^ (m - k) else p * 2 ^ (k - m)) := by
  split
  · obtain ⟨j, rfl⟩ : ∃ j, m = k + j := ⟨m - k, by omega⟩
    rw [Nat.add_sub_cancel_left, Nat.pow_add, Nat.mul_comm p, Nat.mul_div_mul_left _ _ (Nat.two_pow_pos k)]
  · obtain ⟨j, rfl⟩ : ∃ j, k = m + j := ⟨k - m, by omega⟩
    rw [Nat.add_sub_cancel_left, Nat.pow_add, ← Nat.mul_assoc, Nat.mul_comm p, Nat.mul_assoc, Nat.mul_div_cancel_left _ (Nat.two_pow_pos m)]

end Go.Proofs.YtfghepkojcebfaaGreat

/-
  Plain mathematics of the program's check sum: going on from a sum; the product of two registers, bit by bit; a length's power by squaring.
-/
namespace Go.Proofs.YtfghepkojcebfaaGreat

/-- What Extend says: the sum of what had the sum s, with b behind. -/
def ext (s : Nat) (b : List Nat) : Nat := creg (s ^^^ 4294967295) b ^^^ 4294967295
theorem ext_zero (b : List Nat) : ext 0 b = crc b := by rw [ext, Nat.zero_xor]; rfl
theorem ext_crc {a : List Nat} (ha : U8 a) (b : List Nat) : ext (crc a) b = crc (a ++ b) := by rw [ext, crc_reg, ← creg_append ha]; rfl
theorem ext_lt {s : Nat} (hs : s < 4294967296) {b : List Nat} (hb : U8 b) : ext s b < 4294967296 := xor_lt32 (creg_lt hb (xor_lt32 hs (by decide))) (by decide)

/-- The product's first k steps: for each bit of a, from the highest on, b moved on so often. -/
def pr (a b : Nat) : Nat → Nat
  | 0 => 0
  | k + 1 => pr a b k ^^^ (if a / 2 ^ (31 - k) % 2 = 1 then cN k b else 0)

theorem pr_lt {b : Nat} (hb : b < 4294967296) (a k : Nat) : pr a b k < 4294967296 := by
  induction k with
  | zero => show 0 < 4294967296; decide
  | succ k ih =>
    refine xor_lt32 ih ?_
    split
    · exact cN_lt k hb
    · decide

theorem pr_cN (a b m k : Nat) : pr a (cN m b) k = cN m (pr a b k) := by
  induction k with
  | zero => exact (cN_zero m).symm
  | succ k ih =>
    rw [pr, pr, ih, cN_xor]
    congr 1
    split
    · rw [← cN_add, Nat.add_comm, cN_add]
    · exact (cN_zero m).symm

theorem pr_one {a k : Nat} (hk : k ≤ 32) (ha : a < 4294967296) : pr a 2147483648 k = 2 ^ (32 - k) * (a / 2 ^ (32 - k)) := by
  induction k with
  | zero =>
    have : a / 2 ^ (32 - 0) = 0 := Nat.div_eq_of_lt (by simpa using ha)
    rw [this]
    rfl
  | succ k ih =>
    obtain ⟨j, hj⟩ : ∃ j, 31 - k = j := ⟨_, rfl⟩
    have h1 : 32 - k = j + 1 := by omega
    have h2 : 32 - (k + 1) = j := by omega
    have hs : cN k 2147483648 = 2 ^ j := by
      have : (2147483648 : Nat) = 2 ^ k * 2 ^ j := by rw [← Nat.pow_add, show k + j = 31 from by omega]
      rw [this, cN_shift]
    rw [pr, ih (by omega), hs, hj, h1, h2]
    have hd : a / 2 ^ (j + 1) = a / 2 ^ j / 2 := by rw [Nat.pow_succ, Nat.div_div_eq_div_mul]
    rw [hd]
    obtain ⟨q, hq⟩ : ∃ q, q = a / 2 ^ j := ⟨_, rfl⟩
    rw [← hq]
    by_cases ho : q % 2 = 1
    · rw [if_pos ho, Nat.xor_comm, ← lowhigh (w := j + 1) (v := 2 ^ j) (Nat.pow_lt_pow_right (by omega) (by omega))]
      have : q = 2 * (q / 2) + 1 := by omega
      calc 2 ^ j + 2 ^ (j + 1) * (q / 2) = 2 ^ j * (2 * (q / 2) + 1) := by rw [Nat.pow_succ, Nat.mul_add, Nat.mul_one, Nat.mul_assoc, Nat.add_comm]
        _ = 2 ^ j * q := by rw [← this]
    · rw [if_neg ho, Nat.xor_zero]
      have : q = 2 * (q / 2) := by omega
      calc 2 ^ (j + 1) * (q / 2) = 2 ^ j * (2 * (q / 2)) := by rw [Nat.pow_succ, Nat.mul_assoc]
        _ = 2 ^ j * q := by rw [← this]

/-- The product with the power of a length moves on by that length. -/
theorem pr_pow {a : Nat} (ha : a < 4294967296) (E : Nat) : pr a (cN E 2147483648) 32 = cN E a := by
  rw [pr_cN, pr_one (Nat.le_refl _) ha]
  simp

theorem pow_twice (E : Nat) : pr (cN E 2147483648) (cN E 2147483648) 32 = cN (E + E) 2147483648 := by
  rw [pr_pow (cN_lt E (by decide)), ← cN_add]

theorem join_odd (E m F : Nat) : cN ((E + E) * m) (cN E F) = cN (E * (2 * m + 1)) F := by
  rw [← cN_add]
  congr 1
  rw [Nat.mul_add, Nat.mul_one, Nat.add_mul, ← Nat.mul_assoc, Nat.mul_comm E 2, Nat.mul_assoc, Nat.two_mul]
  omega
theorem join_even (E m F : Nat) : cN ((E + E) * m) F = cN (E * (2 * m)) F := by
  congr 1
  rw [← Nat.mul_assoc, Nat.mul_comm E 2, Nat.two_mul]

/-- The power that stands for one byte. -/
theorem pow_byte : cN 8 2147483648 = 8388608 := by decide

/-- One step, in Go's words. -/
theorem moved_bits {r : Nat} (hr : r < 4294967296) : bits .xor .u32 ((r : Int) / 2) (bits .and .u32 2197175160 (IntKind.u32.wrap (-(bits .and .u32 (r : Int) 1)))) = ((cb r : Nat) : Int) := by
  have h1 : bits .and .u32 (r : Int) 1 = ((r % 2 : Nat) : Int) := by
    rw [show (1 : Int) = ((1 : Nat) : Int) from rfl, u32_and_nat _ _ hr (by decide), Nat.and_one_is_mod]
  rw [h1, show (r : Int) / 2 = ((r / 2 : Nat) : Int) from rfl]
  rcases Nat.mod_two_eq_zero_or_one r with h | h
  · rw [h, cb_even h, show IntKind.u32.wrap (-((0 : Nat) : Int)) = ((0 : Nat) : Int) from by decide, show (2197175160 : Int) = ((2197175160 : Nat) : Int) from rfl, u32_and_nat _ _ (by decide) (by decide), Nat.and_zero, u32_xor_nat _ _ (by omega) (by decide), Nat.xor_zero]
  · rw [h, cb_odd h, show IntKind.u32.wrap (-((1 : Nat) : Int)) = ((4294967295 : Nat) : Int) from by decide, show (2197175160 : Int) = ((2197175160 : Nat) : Int) from rfl, u32_and_nat _ _ (by decide) (by decide), show 2197175160 &&& 4294967295 = 2197175160 from by decide, u32_xor_nat _ _ (by omega) (by decide)]

theorem not_bits {s : Nat} (hs : s < 4294967296) : bits .xor .u32 IntKind.u32.max (s : Int) = ((s ^^^ 4294967295 : Nat) : Int) := by
  rw [show IntKind.u32.max = ((4294967295 : Nat) : Int) from rfl, u32_xor_nat _ _ (by decide) hs, Nat.xor_comm]

end Go.Proofs.YtfghepkojcebfaaGreat

/-
  The document's answers of layer 3, by definition: the bytes of a number and back, the sum, sealed bytes.
-/
namespace Go.Proofs.YtfghepkojcebfaaGreat
open Go.RowKit
set_option maxRecDepth 100000

theorem ret_int' {k : IntKind} {a b : Int} (h : a = b) : Ending.returned (.int k a) = .returned (.int k b) := by rw [h]

/-- One bit's step, in Go's words. -/
theorem step_bits {s : Nat} (hs : s < 4294967296) : bits .xor .u32 ((s : Int) / 2) 2197175160 = ((s / 2 ^^^ 2197175160 : Nat) : Int) := by
  rw [show (s : Int) / 2 = ((s / 2 : Nat) : Int) from rfl, show (2197175160 : Int) = ((2197175160 : Nat) : Int) from rfl, u32_xor_nat _ _ (by omega) (by omega)]

set_option maxHeartbeats 400000 in
theorem refSum_any (A : Option Addr) (n c : Nat) (bs : List Nat) (w : World) (hx : Rd .u8 w A n bs) (hu : U8 bs) (hn : n ≤ 180000000000000) :
    Calls Tryz.prog 49 #[.slice A n c] w fun e w' => e = .returned (.int .u32 (crc bs : Nat)) ∧ w = w' := by
  have hl := hx.len
  obtain ⟨M, hM⟩ : ∃ M : Nat, M = 4294967295 := ⟨_, rfl⟩
  have hfin : crc bs = creg M bs ^^^ M := by rw [hM]; rfl
  have hMl : M < 4294967296 := by omega
  have Hl := Lib.hid hl
  have Hf := Lib.hid hfin
  clear hl hfin
  go_enter Tryz.func49, Tryz.ntmps49
  go_wp2
  go_loop [3, 4, 5] (fun s i _ => ∃ j : Nat, j ≤ n ∧ i = .int .i64 j ∧ s = .int .u32 (creg M (bs.take j) : Nat)) (fun _ i _ => n - (intOf i).toNat)
  case atStart => exact ⟨0, Nat.zero_le _, rfl, by rw [hM, List.take_zero, creg_nil]; rfl⟩
  case round =>
    obtain ⟨j, hj, rfl, rfl⟩ := hrel
    have hR : creg M (bs.take j) < 4294967296 := creg_lt (u8_take hu j) hMl
    by_cases hlt : j < n
    · obtain ⟨b, o, rfl, hbl, hc⟩ := hx.at_ hlt
      have hv := hu.at_ j
      have hnext : creg M (bs.take (j + 1)) = cN 8 (creg M (bs.take j) ^^^ bs.getD j 0) := by
        rw [take_next _ _ (by have := Hl.out; omega), creg_snoc (u8_take hu j) _ hv]
      obtain ⟨x, hx'⟩ : ∃ x, x = bs.getD j 0 := ⟨_, rfl⟩
      obtain ⟨R, hR'⟩ : ∃ R, R = creg M (bs.take j) := ⟨_, rfl⟩
      rw [← hx'] at hc hv hnext
      rw [← hR'] at hR hnext ⊢
      have hxo : bits .xor .u32 (R : Int) (x : Int) = ((R ^^^ x : Nat) : Int) := u32_xor_nat _ _ hR (by omega)
      have hlt2 : R ^^^ x < 4294967296 := xor_lt32 hR (by omega)
      obtain ⟨T, hT⟩ : ∃ T, T = R ^^^ x := ⟨_, rfl⟩
      rw [← hT] at hxo hlt2 hnext
      have Hn := Lib.hid hnext
      clear hnext hT hR' hx'
      go_wp2
      go_loop [3, 5] (fun s k => ∃ t : Nat, t ≤ 8 ∧ k = .int .i64 t ∧ s = .int .u32 (cN t T : Nat)) (fun _ k => 8 - (intOf k).toNat)
      case atStart => exact ⟨0, by omega, rfl, rfl⟩
      case round =>
        obtain ⟨t, ht, rfl, rfl⟩ := hrel
        have hS := cN_lt t hlt2
        have hN := cN_succ t T
        obtain ⟨S, hS'⟩ : ∃ S, S = cN t T := ⟨_, rfl⟩
        rw [← hS'] at hS hN ⊢
        have HS := Lib.hid hS'
        clear hS'
        by_cases ht8 : t < 8
        · have hst := step_bits hS
          by_cases hodd : S % 2 = 1
          · rw [cb_odd hodd] at hN
            have HN := Lib.hid hN
            clear hN
            go_wp2
            go_round
            case rel => exact ⟨t + 1, by omega, by go_num, by rw [HN.out]⟩
            case measure => simp [intOf]; omega
          · rw [cb_even (by omega)] at hN
            have HN := Lib.hid hN
            clear hN
            go_wp2
            go_round
            case rel => exact ⟨t + 1, by omega, by go_num, by rw [HN.out]; go_num⟩
            case measure => simp [intOf]; omega
        · obtain rfl : t = 8 := by omega
          go_wp2
          go_round
          case rel => exact ⟨j + 1, by omega, by go_num, by rw [Hn.out, HS.out]⟩
          case measure => simp [intOf]; omega
    · obtain rfl : j = n := by omega
      rw [List.take_of_length_le (Nat.le_of_eq Hl.out)] at hR ⊢
      have hxo : bits .xor .u32 (creg M bs : Int) (M : Int) = ((creg M bs ^^^ M : Nat) : Int) := u32_xor_nat _ _ hR hMl
      rw [← Hf.out, hM] at hxo
      rw [hM]
      go_wp2
      go_ret
      exact ⟨ret_int' hxo, rfl⟩

set_option maxHeartbeats 400000 in
theorem low_any (v m : Nat) (w : World) (hv : v < 18446744073709551616) (hm : m ≤ 64) :
    Calls Tryz.prog 48 #[.int .u64 v, .int .i64 m] w fun e w' => ∃ A' c', e = .returned (.slice A' m c') ∧ Own .u8 5 w' w.heap.size A' c' (upk 8 m v) ∧ Ext w w' := by
  have Hs := Lib.hid (fun j => upk_snoc 8 j v)
  have Hv := Lib.hid hv
  clear hv
  go_enter Tryz.func48, Tryz.ntmps48
  go_wp2
  go_loopw [0, 5, 6] (fun y o i wr => ∃ (j : Nat) (A' : Option Addr) (c' : Nat), j ≤ m ∧ i = .int .i64 j ∧ y = .int .u64 (v / 2 ^ (8 * j) : Nat) ∧ o = .slice A' j c' ∧ Own .u8 5 wr w.heap.size A' c' (upk 8 j v) ∧ Below w.heap.size w wr) (fun _ _ i _ => m - (intOf i).toNat)
  case atStart => exact ⟨0, _, _, Nat.zero_le _, rfl, by rw [Nat.mul_zero, Nat.pow_zero, Nat.div_one], rfl, Own.made _ _ _ (Nat.le_refl _), (Ext.refl w).alloc _⟩
  case round =>
    obtain ⟨j, A', c', hj, rfl, rfl, rfl, hown, hb⟩ := hrel
    have hz := hb.size
    have hs := Hs.out j
    have hd : v / 2 ^ (8 * (j + 1)) = v / 2 ^ (8 * j) / 256 := by rw [Nat.mul_succ, Nat.pow_add, Nat.div_div_eq_div_mul]
    have hy : v / 2 ^ (8 * j) < 18446744073709551616 := Nat.lt_of_le_of_lt (Nat.div_le_self _ _) Hv.out
    obtain ⟨y, hy'⟩ : ∃ y, y = v / 2 ^ (8 * j) := ⟨_, rfl⟩
    rw [← hy'] at hs hd hy ⊢
    have HS := Lib.hid hs
    have HD := Lib.hid hd
    have Htl := Lib.hid (upk_len 8 j v)
    clear hs hd hy'
    by_cases hlt : j < m
    · have hmm : IntKind.u8.wrap ((y : Int) % 256) = (y : Int) % 256 := IntWalk.u8_in _ (by omega)
      go_wp2_with (at_builtin; refine wpList_push .u8 (y % 2 ^ 8) 5 rfl _ _ 25 rfl _ 1 Tryz.underlying25 Tryz.infoU8 rfl hown j Htl.out rfl rfl (by omega) (by omega) (by omega) hb hz ?_; intro A1 c1 w1 hown1 hb1 hz1)
      go_roundw
      case rel => exact ⟨j + 1, A1, c1, by omega, by go_num, by rw [HD.out]; go_num, rfl, by rw [HS.out]; exact hown1, hb1⟩
      case measure => simp [intOf]; omega
    · obtain rfl : j = m := by omega
      go_wp2
      go_ret
      exact ⟨_, _, rfl, hown, hb⟩

end Go.Proofs.YtfghepkojcebfaaGreat

/-
  The program's layer 3: one step, going on from a sum, the sum of parts, the product, two sums joined.
-/
namespace Go.Proofs.YtfghepkojcebfaaGreat
open Go.RowKit
set_option maxRecDepth 100000

theorem moved_any (r : Nat) (w : World) (hr : r < 4294967296) :
    Calls Tryz.prog 144 #[.int .u32 (r : Int)] w fun e w' => e = .returned (.int .u32 (cb r : Nat)) ∧ w = w' := by
  have H := Lib.hid (moved_bits hr)
  go_enter Tryz.func144, Tryz.ntmps144
  go_wp2
  go_ret
  exact ⟨ret_int' H.out, rfl⟩

set_option maxHeartbeats 400000 in
theorem extend_any (s : Nat) (A : Option Addr) (n c : Nat) (bs : List Nat) (w : World) (hs : s < 4294967296) (hx : Rd .u8 w A n bs) (hu : U8 bs) (hn : n ≤ 180000000000000) :
    Calls Tryz.prog 105 #[.int .u32 (s : Int), .slice A n c] w fun e w' => e = .returned (.int .u32 (ext s bs : Nat)) ∧ w = w' := by
  have hl := hx.len
  have hno := not_bits hs
  obtain ⟨M, hM⟩ : ∃ M : Nat, M = s ^^^ 4294967295 := ⟨_, rfl⟩
  rw [← hM] at hno
  have hfin : ext s bs = creg M bs ^^^ 4294967295 := by rw [hM]; rfl
  have hMl : M < 4294967296 := by rw [hM]; exact xor_lt32 hs (by decide)
  have Hl := Lib.hid hl
  have Hf := Lib.hid hfin
  clear hl hfin hM
  go_enter Tryz.func105, Tryz.ntmps105
  go_wp2
  go_loop [5, 7, 12] (fun s _ i => ∃ j : Nat, j ≤ n ∧ i = .int .i64 j ∧ s = .int .u32 (creg M (bs.take j) : Nat)) (fun _ _ i => n - (intOf i).toNat)
  case atStart => exact ⟨0, Nat.zero_le _, rfl, by rw [List.take_zero, creg_nil]⟩
  case round =>
    clear hno
    obtain ⟨j, hj, rfl, rfl⟩ := hrel
    have hR : creg M (bs.take j) < 4294967296 := creg_lt (u8_take hu j) hMl
    by_cases hlt : j < n
    · obtain ⟨b, o, rfl, hbl, hc⟩ := hx.at_ hlt
      have hv := hu.at_ j
      have hnext : creg M (bs.take (j + 1)) = cN 8 (creg M (bs.take j) ^^^ bs.getD j 0) := by
        rw [take_next _ _ (by have := Hl.out; omega), creg_snoc (u8_take hu j) _ hv]
      obtain ⟨x, hx'⟩ : ∃ x, x = bs.getD j 0 := ⟨_, rfl⟩
      obtain ⟨R, hR'⟩ : ∃ R, R = creg M (bs.take j) := ⟨_, rfl⟩
      rw [← hx'] at hc hv hnext
      rw [← hR'] at hR hnext ⊢
      have hxo : bits .xor .u32 (R : Int) (x : Int) = ((R ^^^ x : Nat) : Int) := u32_xor_nat _ _ hR (by omega)
      have hlt2 : R ^^^ x < 4294967296 := xor_lt32 hR (by omega)
      obtain ⟨T, hT⟩ : ∃ T, T = R ^^^ x := ⟨_, rfl⟩
      rw [← hT] at hxo hlt2 hnext
      have Hn := Lib.hid hnext
      clear hnext hT hR' hx'
      go_wp2
      go_loop [5, 20] (fun s k => ∃ t : Nat, t ≤ 8 ∧ k = .int .i64 t ∧ s = .int .u32 (cN t T : Nat)) (fun _ k => 8 - (intOf k).toNat)
      case atStart => exact ⟨0, by omega, rfl, rfl⟩
      case round =>
        obtain ⟨t, ht, rfl, rfl⟩ := hrel
        have hS := cN_lt t hlt2
        have hN := cN_succ t T
        obtain ⟨S, hS'⟩ : ∃ S, S = cN t T := ⟨_, rfl⟩
        rw [← hS'] at hS hN ⊢
        have HS := Lib.hid hS'
        have HN := Lib.hid hN
        clear hS' hN
        by_cases ht8 : t < 8
        · go_wp2_with fail
          refine (moved_any S _ hS).mono ?_
          rintro e w1 ⟨rfl, rfl⟩
          go_wp2_with fail
          go_round
          case rel => exact ⟨t + 1, by omega, by go_num, by rw [HN.out]⟩
          case measure => simp [intOf]; omega
        · obtain rfl : t = 8 := by omega
          go_wp2
          go_round
          case rel => exact ⟨j + 1, by omega, by go_num, by rw [Hn.out, HS.out]⟩
          case measure => simp [intOf]; omega
    · obtain rfl : j = n := by omega
      rw [List.take_of_length_le (Nat.le_of_eq Hl.out)] at hR ⊢
      have hxo := not_bits hR
      rw [← Hf.out] at hxo
      have Hxo := Lib.hid hxo
      clear hxo
      go_wp2
      go_ret
      exact ⟨ret_int' Hxo.out, rfl⟩

set_option maxHeartbeats 400000 in
theorem sum_any (A : Option Addr) (n c : Nat) (xss : List (List Nat)) (w : World) (hx : RdSS w A n xss) (hu : U8s xss) (hn : ∀ xs ∈ xss, xs.length ≤ 180000000000000) (hm : n ≤ 180000000000000) :
    Calls Tryz.prog 65 #[.slice A n c] w fun e w' => e = .returned (.int .u32 (crc xss.flatten : Nat)) ∧ w = w' := by
  have Hl := Lib.hid hx.len
  go_enter Tryz.func65, Tryz.ntmps65
  go_wp2
  go_loop [3, 5, 8] (fun s _ i => ∃ j : Nat, j ≤ n ∧ i = .int .i64 j ∧ s = .int .u32 (crc (cat xss j) : Nat)) (fun _ _ i => n - (intOf i).toNat)
  case atStart => exact ⟨0, Nat.zero_le _, rfl, by rw [cat_zero, crc_nil]; rfl⟩
  case round =>
    obtain ⟨j, hj, rfl, rfl⟩ := hrel
    have hR : crc (cat xss j) < 4294967296 := crc_lt (hu.cat j)
    by_cases hlt : j < n
    · obtain ⟨b, o, a, m, c2, rfl, hbl, hc, hrd⟩ := hx.at_ hlt
      have hjl : j < xss.length := by have := Hl.out; omega
      have hnext : ext (crc (cat xss j)) (xss.getD j []) = crc (cat xss (j + 1)) := by rw [ext_crc (hu.cat j), cat_succ hjl]
      have hle : m ≤ 180000000000000 := by
        have h1 := hn _ (List.getElem_mem hjl)
        have h2 := hrd.len
        rw [show xss.getD j [] = xss[j] from by simp [List.getD, hjl]] at h2
        omega
      have huj := hu.at_ j
      obtain ⟨R, hR'⟩ : ∃ R, R = crc (cat xss j) := ⟨_, rfl⟩
      obtain ⟨ys, hys⟩ : ∃ ys, ys = xss.getD j [] := ⟨_, rfl⟩
      rw [← hR'] at hR hnext ⊢
      rw [← hys] at hnext hrd huj
      have Hn := Lib.hid hnext
      clear hnext hR' hys
      go_wp2_with fail
      refine (extend_any R _ _ _ _ _ hR hrd huj hle).mono ?_
      rintro e w1 ⟨rfl, rfl⟩
      go_wp2_with fail
      go_round
      case rel => exact ⟨j + 1, by omega, by go_num, by rw [Hn.out]⟩
      case measure => simp [intOf]; omega
    · obtain rfl : j = n := by omega
      have hfin : cat xss j = xss.flatten := by rw [← cat_all]; rw [Hl.out]
      rw [hfin] at hR ⊢
      clear hfin
      go_wp2
      go_ret
      exact ⟨rfl, rfl⟩

end Go.Proofs.YtfghepkojcebfaaGreat

/-
  The library's slices.Concat at this program.
-/
namespace Go.Proofs.YtfghepkojcebfaaGreat
open Go.RowKit
set_option maxRecDepth 100000

set_option maxRecDepth 100000 in
theorem grow_any (n : Nat) (w : World) (hn : n ≤ 180000000000000) :
    Calls Tryz.prog 94 #[.slice none 0 0, .int .i64 (n : Int)] w fun e w' => ∃ A' c', e = .returned (.slice A' 0 c') ∧ Own .u8 5 w' w.heap.size A' c' [] ∧ Ext w w' := by
  obtain ⟨i, hi0, hz, hsz, hbs⟩ := info_parts Tryz.infoU8
  have hG0 : 0 ≤ grownCap w n 0 5 := Nat.zero_le _
  by_cases h0 : 0 < n
  · have hrz : ∀ ty, (Builtin.append_ #[25, 3] ty #[.slice none 0 0, .int .i64 (n : Int)]).run Tryz.prog w = .ok (.slice (some ⟨w.heap.size, 0, none⟩) n (grownCap w n 0 5)) (w.drew.alloc (.cells (Builtin.zeroCells (Value.int .u8 0).cells n ++ Builtin.zeroCells (Value.int .u8 0).cells (grownCap w n 0 5 - n)) 5)) :=
      fun ty => Lib.run_append_nil_zeros w 25 3 ty 5 i _ .i64 .i64 Tryz.underlying25 Tryz.underlying3 hi0 hz n h0 (by omega) (by omega) (by rw [hbs]; omega)
    have hge := grownCap_ge w n 0 5
    have hle := grownCap_le_maxLen w n 0 5 (by unfold maxLen; omega)
    obtain ⟨G, hG⟩ : ∃ G, G = grownCap w n 0 5 := ⟨_, rfl⟩
    rw [← hG] at hrz hge hle
    have hle2 : G ≤ 9223372036854775807 := by simpa [maxLen] using hle
    clear hG
    have hown : Own .u8 5 (w.drew.alloc (.cells (Builtin.zeroCells (Value.int .u8 0).cells n ++ Builtin.zeroCells (Value.int .u8 0).cells (G - n)) 5)) w.heap.size (some ⟨w.heap.size, 0, none⟩) G [] :=
      ⟨by simp, .inr ⟨w.heap.size, G, _, rfl, Nat.le_refl _, heap_alloc_new w.drew _, Nat.zero_le _, hle, by simp only [Array.size_append, size_zeroCells]; simp [Value.cells]; omega, by simp⟩⟩
    have Hown := Lib.hid hown
    clear hown
    go_enter Tryz.func94, Tryz.ntmps94
    go_wp2_with (at_builtin; refine Lib.wpList_append_run _ rfl _ _ _ _ rfl _ _ rfl rfl _ _ (hrz _) ?_)
    go_ret
    exact ⟨_, _, rfl, Hown.out, (Ext.refl w).drew.alloc _⟩
  · obtain rfl : n = 0 := by omega
    clear hG0
    go_enter Tryz.func94, Tryz.ntmps94
    go_wp2
    go_ret
    exact ⟨_, _, rfl, Own.nil .., Ext.refl w⟩

set_option maxHeartbeats 400000 in
theorem concat_any (A : Option Addr) (n c : Nat) (xss : List (List Nat)) (w : World) (hx : RdSS w A n xss) (hn : xss.flatten.length ≤ 180000000000000) (hm : n ≤ 180000000000000) :
    Calls Tryz.prog 56 #[.slice A n c] w fun e w' => ∃ A' c', e = .returned (.slice A' xss.flatten.length c') ∧ Own .u8 5 w' w.heap.size A' c' xss.flatten ∧ Ext w w' := by
  have Hl := Lib.hid hx.len
  obtain ⟨N, hN⟩ : ∃ N, N = xss.flatten.length := ⟨_, rfl⟩
  rw [← hN] at hn ⊢
  have HN := Lib.hid hN
  clear hN
  go_enter Tryz.func56, Tryz.ntmps56
  go_wp2
  go_loop [3, 5, 11] (fun s _ i => ∃ j : Nat, j ≤ n ∧ i = .int .i64 j ∧ s = .int .i64 ((cat xss j).length : Nat)) (fun _ _ i => n - (intOf i).toNat)
  case atStart => exact ⟨0, Nat.zero_le _, rfl, by rw [cat_zero]; rfl⟩
  case round =>
    obtain ⟨j, hj, rfl, rfl⟩ := hrel
    have hle := cat_le (xss := xss) (j := j)
    rw [← HN.out] at hle
    by_cases hlt : j < n
    · obtain ⟨b, o, a, m, c2, rfl, hbl, hc, hrd⟩ := hx.at_ hlt
      have hjl : j < xss.length := by have := Hl.out; omega
      have hle2 := cat_le (xss := xss) (j := j + 1)
      rw [← HN.out] at hle2
      have hnext := congrArg List.length (cat_succ hjl)
      rw [List.length_append, hrd.len] at hnext
      rw [hnext] at hle2
      obtain ⟨R, hR'⟩ : ∃ R, R = (cat xss j).length := ⟨_, rfl⟩
      rw [← hR'] at hle hle2 hnext ⊢
      have Hn := Lib.hid hnext
      clear hnext hR' hrd
      go_wp2_with fail
      go_round
      case rel => exact ⟨j + 1, by omega, by go_num, by rw [Hn.out]; go_num⟩
      case measure => simp [intOf]; omega
    · obtain rfl : j = n := by omega
      have hfin : (cat xss j).length = N := by rw [HN.out, ← cat_all, Hl.out]
      rw [hfin]
      clear hfin hle
      go_wp2_with fail
      refine (grow_any N _ hn).mono ?_
      rintro e w1 ⟨A1, c1, rfl, hown1, he1⟩
      go_wp2_with fail
      go_loopw [6, 8, 27] (fun v _ i wr => ∃ (q : Nat) (A' : Option Addr) (c' : Nat), q ≤ j ∧ i = .int .i64 q ∧ v = .slice A' (cat xss q).length c' ∧ Own .u8 5 wr w.heap.size A' c' (cat xss q) ∧ Below w.heap.size w wr) (fun _ _ i _ => j - (intOf i).toNat)
      case atStart => exact ⟨0, _, _, Nat.zero_le _, rfl, rfl, hown1, he1⟩
      case round =>
        clear hown1 he1
        obtain ⟨q, A', c', hq, rfl, rfl, hown, hb⟩ := hrel
        have hz := hb.size
        by_cases hlt : q < j
        · obtain ⟨b, o, a, m, c2, rfl, hbl, hc, hrd⟩ := (hx.ext hb).at_ hlt
          have hjl : q < xss.length := by have := Hl.out; omega
          have hle2 := cat_le (xss := xss) (j := q + 1)
          rw [← HN.out] at hle2
          have hcs := cat_succ hjl
          have hnext := congrArg List.length hcs
          rw [List.length_append, hrd.len] at hnext
          rw [hnext] at hle2
          obtain ⟨ys, hys⟩ : ∃ ys, ys = xss.getD q [] := ⟨_, rfl⟩
          rw [← hys] at hrd hcs
          obtain ⟨X, hX⟩ : ∃ X, X = cat xss q := ⟨_, rfl⟩
          rw [← hX] at hown hle2 hnext hcs ⊢
          obtain ⟨R, hR⟩ : ∃ R, X.length = R := ⟨_, rfl⟩
          rw [hR] at hle2 hnext ⊢
          have Hn := Lib.hid hnext
          have Hcs := Lib.hid hcs
          have HR := Lib.hid hR
          clear hnext hcs hys hX hR
          go_wp2_with (at_builtin; refine wpList_pushes .u8 5 rfl _ _ 25 rfl _ 1 Tryz.underlying25 Tryz.infoU8 rfl hown R HR.out rfl rfl hrd (by omega) (by omega) hb hz ?_; intro A1 c1 w1 hown1 hb1 hz1)
          go_roundw
          case rel => exact ⟨q + 1, A1, c1, by omega, by go_num, by rw [Hn.out], by rw [Hcs.out]; exact hown1, hb1⟩
          case measure => simp [intOf]; omega
        · obtain rfl : q = j := by omega
          have hfin : cat xss q = xss.flatten := by rw [← cat_all]; rw [Hl.out]
          rw [hfin, ← HN.out]
          rw [hfin] at hown
          clear hfin
          go_wp2
          go_ret
          exact ⟨_, _, rfl, hown, hb⟩

/-- Bytes that the call has just written out. -/
theorem ownLit (w : World) (xs : List Nat) (hl : xs.length ≤ 9223372036854775807) : Own .u8 5 (w.alloc (.cells (xs.map fun x : Nat => Value.int .u8 (x : Int)).toArray 5)) w.heap.size (some ⟨w.heap.size, 0, none⟩) xs.length xs :=
  ⟨by simp, .inr ⟨w.heap.size, xs.length, _, rfl, Nat.le_refl _, heap_alloc_new w _, Nat.le_refl _, by simpa [maxLen] using hl, by simp, by rw [Nat.mul_one]; exact List.take_of_length_le (by simp)⟩⟩

end Go.Proofs.YtfghepkojcebfaaGreat
