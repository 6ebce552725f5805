import Derived.Test.YtpjichclpnebjaaZ3
import Derived.Deep.RegionHeld3
import Derived.Deep.RegionLaw

-- part H16
/-
  Sets as new memory.
-/
namespace Go.Proofs.Ytpjichclpnebjaa
open Go.RowKit

theorem Try.infoSet : (Try.prog.info? 84).map (fun i => (i.zero, i.size, i.bytes)) = some (some (.agg #[.int .i64 0, .bool false, .int .i64 0, .slice none 0 0]), 4, 48) := by kernel_rfl

def Si.cells (x : Si) : List Value := [.int .i64 x.col, .bool x.cell.nul, .int .i64 x.cell.num, .slice x.cell.A x.cell.txt.length x.cell.c]
def tcells (xs : List Si) : List Value := (xs.map Si.cells).flatten
theorem tcells_snoc (xs : List Si) (x : Si) : tcells (xs ++ [x]) = tcells xs ++ x.cells := by simp [tcells]
theorem tcells_len (xs : List Si) : (tcells xs).length = xs.length * 4 := by
  induction xs with
  | nil => rfl
  | cons f r ih =>
    have : tcells (f :: r) = f.cells ++ tcells r := by simp [tcells]
    rw [this, List.length_append, ih, List.length_cons]
    show 4 + _ = _
    omega
theorem tcells_at {xs : List Si} {j : Nat} {x : Si} (h : xs[j]? = some x) (i : Nat) (hi : i < 4) : (tcells xs)[j * 4 + i]? = x.cells[i]? := by
  induction xs generalizing j with
  | nil => simp at h
  | cons f r ih =>
    have hc : tcells (f :: r) = f.cells ++ tcells r := by simp [tcells]
    have hf : f.cells.length = 4 := rfl
    rw [hc]
    cases j with
    | zero =>
      simp at h
      subst h
      rw [Nat.zero_mul, Nat.zero_add, List.getElem?_append_left (by omega)]
    | succ j =>
      rw [List.getElem?_append_right (by omega), hf, ← ih (j := j) (by simpa using h)]
      congr 1
      omega

/-- A row of cells of the call's own; their texts, each of the call's own, each behind the one ahead. -/
def OwnT (w : World) (base : Nat) (A : Option Addr) (c : Nat) (xs : List Si) : Prop := w.ownsRow base 84 4 (.slice A xs.length c) xs.length (tcells xs)
def TxtT (w : World) (base : Nat) (xs : List Si) : Prop :=
  (∀ x ∈ xs, Own .u8 5 w base x.cell.A x.cell.c x.cell.txt) ∧ xs.Pairwise fun f g => ∀ p q, f.cell.A = some p → g.cell.A = some q → p.block < q.block

theorem OwnT.nil (w : World) (base : Nat) : OwnT w base none 0 [] := World.ownsRow_nil w base _ 4
theorem OwnT.made {base : Nat} (w : World) (hb : base ≤ w.heap.size) : OwnT (w.alloc (.cells #[] 84)) base (some ⟨w.heap.size, 0, none⟩) 0 [] :=
  World.ownsRow_made w #[] 0 hb (by simp [maxLen]) (by simp)
theorem OwnT.ext {w w' : World} {base c : Nat} {A : Option Addr} {xs : List Si} (h : OwnT w base A c xs) (hb : Ext w w') : OwnT w' base A c xs := by
  refine World.ownsRow.kept (row := none) h ⟨hb.os, hb.tape, hb.output, hb.size, fun i hi _ => hb.block i hi⟩ ?_
  cases hv : (Value.slice A xs.length c).ownBlock <;> simp
theorem TxtT.nil (w : World) (base : Nat) : TxtT w base [] := ⟨fun f h => (by cases h), .nil⟩
theorem TxtT.ext {w w' : World} {base : Nat} {xs : List Si} (h : TxtT w base xs) (hb : Ext w w') : TxtT w' base xs := ⟨fun f hf => (h.1 f hf).ext hb, h.2⟩

theorem own_neT {w : World} {base base' c c' : Nat} {A A' : Option Addr} {fs : List Si} {xs : List Nat} (h : OwnT w base A c fs) (k : Own .u8 5 w base' A' c' xs) : ∀ a, A' = some a → some a.block ≠ (Value.slice A fs.length c).ownBlock := by
  rintro a rfl e
  rcases h.2 with ⟨hv, _⟩ | ⟨g, cap, cur, hv, hg, hh, _⟩
  · rw [hv] at e; simp [Value.ownBlock] at e
  · rw [hv] at e
    simp [Value.ownBlock] at e
    rcases k.2 with ⟨hv', _⟩ | ⟨g', cap', cur', hv', _, hh', _⟩
    · cases hv'
    · injection hv' with hA
      injection hA with hA
      subst hA
      simp at e
      subst e
      rw [hh] at hh'
      injection hh' with hh'
      injection hh' with h1 h2 h3
      exact absurd h2 (by decide)

theorem TxtT.grown {w w' : World} {base base' c : Nat} {A : Option Addr} {fs gs : List Si} (h : TxtT w base fs) (k : OwnT w base' A c gs) (hg : w.grownBy w' (Value.slice A gs.length c).ownBlock) : TxtT w' base fs :=
  ⟨fun f hf => (h.1 f hf).grown hg (own_neT k (h.1 f hf)), h.2⟩

theorem TxtT.snoc {w : World} {base base' : Nat} {fs : List Si} {f : Si} (h : TxtT w base fs) (hf : Own .u8 5 w base' f.cell.A f.cell.c f.cell.txt) (hb : base ≤ base') (hl : ∀ g ∈ fs, ∀ p, g.cell.A = some p → p.block < base') : TxtT w base (fs ++ [f]) := by
  refine ⟨fun g hg => ?_, ?_⟩
  · rcases List.mem_append.1 hg with h1 | h1
    · exact h.1 g h1
    · simp at h1; subst h1; exact hf.mono hb
  · rw [List.pairwise_append]
    refine ⟨h.2, by simp, fun g hg f' hf' p q hp hq => ?_⟩
    simp at hf'
    subst hf'
    exact Nat.lt_of_lt_of_le (hl g hg p hp) (hf.block q hq).1

theorem OwnT.rdT {w : World} {base c : Nat} {A : Option Addr} {xs : List Si} (h : OwnT w base A c xs) (k : ∀ x ∈ xs, x.cell.In w) : RdT w A xs.length xs := by
  refine ⟨rfl, fun hn => ?_⟩
  rcases h.2 with ⟨_, h0⟩ | ⟨g, cap, cur, hv, hg, hh, hnc, hcm, hcs, htake⟩
  · omega
  · injection hv with hA hl hc
    subst hA
    have hlt : g < w.heap.size := (Array.getElem?_eq_some_iff.1 hh).1
    refine ⟨g, 0, rfl, hlt, fun j x hj => ?_⟩
    have hjl : j < xs.length := (List.getElem?_eq_some_iff.1 hj).1
    have hat : ∀ i, i < xs.length * 4 → cur[i]? = (tcells xs)[i]? := fun i hi => by
      rw [← htake, List.getElem?_take, if_pos hi]
      simp
    refine ⟨?_, ?_, ?_, ?_, k x (List.mem_of_getElem? hj)⟩
    · rw [cell_of_row w g _ cur _ (0, 0) hh, Nat.zero_add, hat _ (by omega)]; exact tcells_at hj 0 (by omega)
    · rw [cell_of_row w g _ cur _ (0, 0) hh, Nat.zero_add, hat _ (by omega)]; exact tcells_at hj 1 (by omega)
    · rw [cell_of_row w g _ cur _ (0, 0) hh, Nat.zero_add, hat _ (by omega)]; exact tcells_at hj 2 (by omega)
    · rw [cell_of_row w g _ cur _ (0, 0) hh, Nat.zero_add, hat _ (by omega)]; exact tcells_at hj 3 (by omega)

/-- 'append(row, x)'. -/
theorem step_pushT {w0 w : World} {ops : Array Oper} {o : Oper} {a : Act} {K : Act → World → Prop} {Q : Exit → Act → World → Prop} {E : Prop} (f : Si) (hgd : o.guard = none) (s y : Operand)
    (ho : o.op = .call { callee := .builtin .append, args := #[s, y], argTypes := #[26, 26] })
    {base : Nat} {A : Option Addr} {c : Nat} {fs : List Si} (hown : OwnT w base A c fs) (n : Nat) (hn : fs.length = n) (hs : a.eval s = .slice A n c)
    {g : Nat} (hy : a.eval y = .slice (some ⟨g, 0, none⟩) 1 1) (hg : w.heap[g]? = some (.cells #[.int .i64 f.col, .bool f.cell.nul, .int .i64 f.cell.num, .slice f.cell.A f.cell.txt.length f.cell.c] 84))
    (hlen : n ≤ 4398046511104) (hb : Below base w0 w) (hbase : base ≤ w.heap.size)
    (h : ∀ A' c' w', OwnT w' base A' c' (fs ++ [f]) → w.grownBy w' (Value.slice A fs.length c).ownBlock → Below base w0 w' → base ≤ w'.heap.size → K (a.put o.dst (.slice A' (n + 1) c')) w') :
    if Region.wanted o (yielded ops a.tmps) = true then Oper.wp Try.prog o a w K Q else E := by
  have hw : Region.wanted o (yielded ops a.tmps) = true := by simp [Region.wanted, hgd]
  rw [if_pos hw]
  subst hn
  obtain ⟨i, hi0, hz, hsz, hbs⟩ := info_parts Try.infoSet
  refine wp_append_own_wide w s y 26 ho base 84 i _ 4 48 Try.underlying26 hi0 hz hsz hbs rfl (by decide) _ fs.length (tcells fs) hs hown
    ⟨g, 0, none⟩ 1 1 f.cells hy rfl ?_ ?_ (by unfold maxLen; omega) (by omega) hbase ?_
  · intro j u hj
    have hcr : w.cell? ((⟨g, 0, none⟩ : Addr).add j) = #[Value.int .i64 f.col, .bool f.cell.nul, .int .i64 f.cell.num, .slice f.cell.A f.cell.txt.length f.cell.c][j]? := by
      rw [show (⟨g, 0, none⟩ : Addr).add j = ⟨g, j, none⟩ from by unfold Addr.add; split <;> simp_all]
      exact cell_of_row w g j _ _ (0, 0) hg
    rw [hcr, ← hj]
    simp [Si.cells]
  · intro u hu
    simp [Si.cells] at hu
    rcases hu with rfl | rfl | rfl | rfl <;> rfl
  · intro v' w' hown' hgr _
    have hform : ∃ A' c', v' = .slice A' (fs.length + 1) c' := by
      rcases hown'.2 with ⟨_, h0⟩ | ⟨g, cap, cur, hv, _⟩
      · omega
      · exact ⟨_, _, hv⟩
    obtain ⟨A', c', rfl⟩ := hform
    have hb' : Below base w0 w' := Below.grown hb hgr hbase (fun g hg' => (hown.lt g hg').1)
    refine h A' c' w' ?_ hgr hb' ?_
    · unfold OwnT
      rw [List.length_append, tcells_snoc]
      exact hown'
    · have := hgr.size
      omega

set_option maxHeartbeats 3200000 in
set_option maxRecDepth 100000 in
theorem twinSets_any (A : Option Addr) (n c : Nat) (xs : List Si) (w : World) (hx : RdT w A n xs) (hn : n ≤ 4398046511104) :
    Calls Try.prog 25 #[.slice A n c] w fun e w' => ∃ fs A' c', e = .returned (.slice A' n c') ∧ fs.map Si.val = xs.map Si.val ∧ OwnT w' w.heap.size A' c' fs ∧ TxtT w' w.heap.size fs ∧ Ext w w' := by
  have Hl := Lib.hid hx.1
  go_enter Try.func25, Try.ntmps25
  go_wp2
  go_loopw [3, 4] (fun v i wr => ∃ (j : Nat) (A' : Option Addr) (c' : Nat) (fs : List Si), j ≤ n ∧ i = .int .i64 j ∧ v = .slice A' j c' ∧ fs.length = j ∧ fs.map Si.val = (xs.take j).map Si.val ∧ OwnT wr w.heap.size A' c' fs ∧ TxtT wr w.heap.size fs ∧ Below w.heap.size w wr) (fun _ i _ => n - (intOf i).toNat)
  case atStart => exact ⟨0, _, _, [], Nat.zero_le _, rfl, rfl, rfl, rfl, OwnT.made _ (Nat.le_refl _), TxtT.nil _ _, (Ext.refl w).alloc _⟩
  case round =>
    obtain ⟨j, A', c', fs, hj, rfl, rfl, hfl, hfv, hown, htx, hb⟩ := hrel
    have hz := hb.size
    have Hfl := Lib.hid hfl
    have Hfv := Lib.hid hfv
    by_cases hlt : j < n
    · obtain ⟨b, o, f, rfl, hbl, hf, h0, h1, h2, h3, hin⟩ := hx.at_ hlt
      have hnx : (xs.take (j + 1)).map Si.val = (xs.take j).map Si.val ++ [f.val] := by
        rw [List.take_add_one, hf, List.map_append]
        rfl
      have Hnx := Lib.hid hnx
      obtain ⟨p, xn, xi, xA, xc, xt⟩ := f
      simp only at h0 h1 h2 h3
      obtain ⟨xr, xu, x0, x1, xl⟩ := hin
      simp only at xr xu x0 x1 xl
      obtain ⟨n3, hn3⟩ : ∃ n3, n3 = xt.length := ⟨_, rfl⟩
      rw [← hn3] at h3 xr xl
      have Hn3 := Lib.hid hn3
      have i0 : (0 : Int) ≤ (j : Int) := by omega
      have i1 : (j : Int) < (n : Int) := by omega
      have HC : Hid (∀ W, Ext wr W → Calls Try.prog 59 #[.agg #[.bool xn, .int .i64 xi, .slice xA n3 xc]] W fun e w' => ∃ A' c', e = .returned (.agg #[.bool xn, .int .i64 xi, .slice A' n3 c']) ∧ Own .u8 5 w' W.heap.size A' c' xt ∧ Ext W w') := Lib.hid (fun W hW => twin_any xn xi xA n3 xc xt W ((xr.ext hb).ext hW) (by omega))
      have K : Hid (∀ w', Ext w w' → w'.cell? ⟨b, o + j * 4, none⟩ = some (.int .i64 p) ∧ w'.cell? ⟨b, o + j * 4 + 1, none⟩ = some (.bool xn) ∧ w'.cell? ⟨b, o + j * 4 + 2, none⟩ = some (.int .i64 xi) ∧ w'.cell? ⟨b, o + j * 4 + 3, none⟩ = some (.slice xA n3 xc)) := Lib.hid (fun w' he =>
        ⟨(he.cells b _ hbl).trans h0, (he.cells b _ hbl).trans h1, (he.cells b _ hbl).trans h2, (he.cells b _ hbl).trans h3⟩)
      have Hown : Hid (∀ W, Ext wr W → OwnT W w.heap.size A' c' fs) := Lib.hid (fun W hW => hown.ext hW)
      have HB : Hid (∀ W, Ext wr W → Below w.heap.size w W ∧ w.heap.size ≤ W.heap.size) := Lib.hid (fun W hW => ⟨Ext.trans hb hW, Nat.le_trans hz hW.size⟩)
      have hlow : Hid (∀ g ∈ fs, ∀ p, g.cell.A = some p → p.block < wr.heap.size) := Lib.hid (fun g hg p hp => ((htx.1 g hg).block p hp).2)
      have Htx := Lib.hid htx
      have g8 := K.out _ hb
      clear hnx hf hn3 hfl hfv h0 h1 h2 h3 hown htx xr
      go_wp2_with fail
      go_region_held3 (fun w' => w'.cell? ⟨b, o + j * 4, none⟩ = some (.int .i64 p) ∧ w'.cell? ⟨b, o + j * 4 + 1, none⟩ = some (.bool xn) ∧ w'.cell? ⟨b, o + j * 4 + 2, none⟩ = some (.int .i64 xi) ∧ w'.cell? ⟨b, o + j * 4 + 3, none⟩ = some (.slice xA n3 xc))
        (first | exact g8 | exact K.out _ hb4 | (refine K.out _ (Ext.trans hb ?_); (repeat (first | exact Ext.refl _ | (with_reducible refine Ext.trans ?_ he3) | apply Ext.drew | apply Ext.alloc | fail))) | fail)
        (first
          | (go_at_call 59; (with_reducible refine (HC.out _ ?_).mono ?_); (focus ((repeat (first | exact Ext.refl _ | (with_reducible refine Ext.trans ?_ he3) | apply Ext.drew | apply Ext.alloc | fail)); done)); rintro e w3 ⟨A3, c3, rfl, hown3, he3⟩)
          | (refine step_pushT (w0 := w) ⟨p, xn, xi, A3, c3, xt⟩ (by rfl) _ _ (by rfl) (Hown.out _ (by (repeat (first | exact Ext.refl _ | (with_reducible refine Ext.trans ?_ he3) | apply Ext.drew | apply Ext.alloc | fail)))) j Hfl.out (by rfl) (by rfl) (by rw [← Hn3.out]; exact heap_alloc_new w3 _) (by omega) (HB.out _ (by (repeat (first | exact Ext.refl _ | (with_reducible refine Ext.trans ?_ he3) | apply Ext.drew | apply Ext.alloc | fail)))).1 (HB.out _ (by (repeat (first | exact Ext.refl _ | (with_reducible refine Ext.trans ?_ he3) | apply Ext.drew | apply Ext.alloc | fail)))).2 ?_; intro A4 c4 w4 hown4 hgr hb4 hz4)
          | fail)
      have hX : Ext w3 (w3.alloc (.cells #[.int .i64 p, .bool xn, .int .i64 xi, .slice A3 n3 c3] 84)) := (Ext.refl w3).alloc _
      have he3' : Ext wr w3 := he3.undrew'
      have hown3' : Own .u8 5 w3 wr.heap.size A3 c3 xt := hown3
      have htx3 : TxtT w4 w.heap.size (fs ++ [⟨p, xn, xi, A3, c3, xt⟩]) := TxtT.grown (base' := w.heap.size) (TxtT.snoc ((Htx.out.ext he3').ext hX) (hown3'.ext hX) hz hlow.out) (Hown.out _ (he3'.trans hX)) hgr
      go_wp2
      go_roundw
      case rel => exact ⟨j + 1, A4, c4, _, by omega, by go_num, rfl, by simp [Hfl.out], by rw [Hnx.out, List.map_append, Hfv.out]; rfl, hown4, htx3, hb4⟩
      case measure => simp [intOf]; omega
    · obtain rfl : j = n := by omega
      have hv := Hfv.out
      rw [List.take_of_length_le (Nat.le_of_eq Hl.out)] at hv
      go_wp2
      go_ret
      exact ⟨fs, _, _, rfl, hv, hown, htx, hb⟩

end Go.Proofs.Ytpjichclpnebjaa

-- part H17
/-
  Operations as new memory.
-/
namespace Go.Proofs.Ytpjichclpnebjaa
open Go.RowKit

theorem OwnX.mono {w : World} {base base' c : Nat} {A : Option Addr} {xs : List Ci} (h : OwnX w base A c xs) (hb : base' ≤ base) : OwnX w base' A c xs := by
  refine ⟨h.1, ?_⟩
  rcases h.2 with hn | ⟨g, cap, cur, hv, hg, r⟩
  · exact Or.inl hn
  · exact Or.inr ⟨g, cap, cur, hv, Nat.le_trans hb hg, r⟩
theorem OwnT.mono {w : World} {base base' c : Nat} {A : Option Addr} {xs : List Si} (h : OwnT w base A c xs) (hb : base' ≤ base) : OwnT w base' A c xs := by
  refine ⟨h.1, ?_⟩
  rcases h.2 with hn | ⟨g, cap, cur, hv, hg, r⟩
  · exact Or.inl hn
  · exact Or.inr ⟨g, cap, cur, hv, Nat.le_trans hb hg, r⟩
theorem TxtX.mono {w : World} {base base' : Nat} {xs : List Ci} (h : TxtX w base xs) (hb : base' ≤ base) : TxtX w base' xs := ⟨fun f hf => (h.1 f hf).mono hb, h.2⟩
theorem TxtT.mono {w : World} {base base' : Nat} {xs : List Si} (h : TxtT w base xs) (hb : base' ≤ base) : TxtT w base' xs := ⟨fun f hf => (h.1 f hf).mono hb, h.2⟩
theorem OwnX.far {w w' : World} {base c b : Nat} {A : Option Addr} {xs : List Ci} (h : OwnX w base A c xs) (hg : w.grownBy w' (some b)) (hb : b < base) : OwnX w' base A c xs := by
  refine World.ownsRow.kept h hg ?_
  cases A with
  | none => exact Or.inl rfl
  | some a =>
    refine Or.inr (fun e => ?_)
    have h1 := (World.ownsRow.lt h a.block rfl).1
    simp [Value.ownBlock] at e
    omega
theorem OwnT.far {w w' : World} {base c b : Nat} {A : Option Addr} {xs : List Si} (h : OwnT w base A c xs) (hg : w.grownBy w' (some b)) (hb : b < base) : OwnT w' base A c xs := by
  refine World.ownsRow.kept h hg ?_
  cases A with
  | none => exact Or.inl rfl
  | some a =>
    refine Or.inr (fun e => ?_)
    have h1 := (World.ownsRow.lt h a.block rfl).1
    simp [Value.ownBlock] at e
    omega
theorem TxtX.far {w w' : World} {base b : Nat} {xs : List Ci} (h : TxtX w base xs) (hg : w.grownBy w' (some b)) (hb : b < base) : TxtX w' base xs := ⟨fun f hf => (h.1 f hf).far hg hb, h.2⟩
theorem TxtT.far {w w' : World} {base b : Nat} {xs : List Si} (h : TxtT w base xs) (hg : w.grownBy w' (some b)) (hb : b < base) : TxtT w' base xs := ⟨fun f hf => (h.1 f hf).far hg hb, h.2⟩

set_option maxHeartbeats 3200000 in
set_option maxRecDepth 100000 in
theorem twinOp_any (k : Int) (A : Option Addr) (n c : Nat) (xs : List Ci) (B : Option Addr) (m d : Nat) (ss : List Si) (w : World) (hx : RdX w A n xs) (hs : RdT w B m ss) (hn : n ≤ 4398046511104) (hm : m ≤ 4398046511104) :
    Calls Try.prog 11 #[.agg #[.int .i64 k, .slice A n c, .slice B m d]] w fun e w' => ∃ ys A' c' ts B' d', e = .returned (.agg #[.int .i64 k, .slice A' n c', .slice B' m d']) ∧ ys.map Ci.val = xs.map Ci.val ∧ ts.map Si.val = ss.map Si.val ∧ OwnX w' w.heap.size A' c' ys ∧ TxtX w' w.heap.size ys ∧ OwnT w' w.heap.size B' d' ts ∧ TxtT w' w.heap.size ts ∧ Ext w w' := by
  obtain ⟨W7, hW7⟩ : ∃ W7, W7 = w.alloc (.cells #[.int .i64 k, .slice A n c, .slice B m d] 28) := ⟨_, rfl⟩
  obtain ⟨W8, hW8⟩ : ∃ W8, W8 = (w.alloc (.cells #[.int .i64 k, .slice A n c, .slice B m d] 28)).alloc (.cells #[.int .i64 0, .slice none 0 0, .slice none 0 0] 28) := ⟨_, rfl⟩
  have hE : Ext w W8 := by rw [hW8]; exact ((Ext.refl w).alloc _).alloc _
  have hM : Ext W7 W8 := by rw [hW8, hW7]; exact (Ext.refl _).alloc _
  have hs7 : W7.heap.size = w.heap.size + 1 := by rw [hW7]; simp
  have hs8 : W8.heap.size = w.heap.size + 2 := by rw [hW8]; simp
  have a1 : AtO W7 w.heap.size k A n c B m d := by
    rw [hW7]
    exact ⟨cell_of_row _ _ 0 _ _ (0, 0) (heap_alloc_new w _), cell_of_row _ _ 1 _ _ (0, 0) (heap_alloc_new w _), cell_of_row _ _ 2 _ _ (0, 0) (heap_alloc_new w _), by simp⟩
  have hres : W8.heap[w.heap.size + 1]? = some (.cells #[.int .i64 0, .slice none 0 0, .slice none 0 0] 28) := by
    rw [hW8, ← hs7, hW7]; exact heap_alloc_new _ _
  have K : Hid (∀ w', Ext W7 w' → w'.cell? ⟨w.heap.size, 0, none⟩ = some (.int .i64 k) ∧ w'.cell? ⟨w.heap.size, 1, none⟩ = some (.slice A n c) ∧ w'.cell? ⟨w.heap.size, 2, none⟩ = some (.slice B m d)) := Lib.hid (fun w' he =>
    ⟨(a1.ext he).c0, (a1.ext he).c1, (a1.ext he).c2⟩)
  have K1 : Hid (∀ w', Ext W8 w' → w'.heap[w.heap.size + 1]? = some (.cells #[.int .i64 0, .slice none 0 0, .slice none 0 0] 28)) := Lib.hid (fun w' he => by
    rw [he.block (w.heap.size + 1) (by omega)]; exact hres)
  have HC : Hid (∀ W, Ext W8 W → Calls Try.prog 24 #[.slice A n c] W fun e w' => ∃ fs A' c', e = .returned (.slice A' n c') ∧ fs.map Ci.val = xs.map Ci.val ∧ OwnX w' W.heap.size A' c' fs ∧ TxtX w' W.heap.size fs ∧ Ext W w') := Lib.hid (fun W hW => twinRow_any A n c xs W ((hx.ext hE).ext hW) hn)
  have HD : Hid (∀ W, Ext W8 W → Calls Try.prog 25 #[.slice B m d] W fun e w' => ∃ fs A' c', e = .returned (.slice A' m c') ∧ fs.map Si.val = ss.map Si.val ∧ OwnT w' W.heap.size A' c' fs ∧ TxtT w' W.heap.size fs ∧ Ext W w') := Lib.hid (fun W hW => twinSets_any B m d ss W ((hs.ext hE).ext hW) hm)
  have HM := Lib.hid hM
  have HE := Lib.hid hE
  have Hs7 := Lib.hid (Nat.le_of_eq hs7)
  have Hs8 := Lib.hid hs8
  have g8 := K.out _ hM
  clear hW7 a1 hres hs7 hs8 hM hE
  go_enter Try.func11, Try.ntmps11
  go_wp2_with fail
  rw [← hW8]
  clear hW8
  go_region_held3 (fun w' => w'.cell? ⟨w.heap.size, 0, none⟩ = some (.int .i64 k) ∧ w'.cell? ⟨w.heap.size, 1, none⟩ = some (.slice A n c) ∧ w'.cell? ⟨w.heap.size, 2, none⟩ = some (.slice B m d))
    (first | exact g8 | exact K.out _ ((((HM.out.trans (he3.undrew'.trans he4)).setCell Hs7.out _).setCell Hs7.out _).setCell Hs7.out _) | (refine K.out _ ((Ext.trans HM.out (b := W8) ?_)); (repeat (first | exact Ext.refl _ | (with_reducible refine Ext.trans ?_ he4) | (with_reducible refine Ext.trans ?_ he3) | apply Ext.drew | apply Ext.alloc | fail))) | fail)
    (first
      | (go_at_call 24; (with_reducible refine (HC.out _ ?_).mono ?_); (focus ((repeat (first | exact Ext.refl _ | (with_reducible refine Ext.trans ?_ he3) | apply Ext.drew | apply Ext.alloc | fail)); done)); rintro e w3 ⟨ys, A3, c3, rfl, hv3, ho3, hx3, he3⟩)
      | (go_at_call 25; (with_reducible refine (HD.out _ ?_).mono ?_); (focus ((repeat (first | exact Ext.refl _ | (with_reducible refine Ext.trans ?_ he3) | apply Ext.drew | apply Ext.alloc | fail)); done)); rintro e w4 ⟨ts, A4, c4, rfl, hv4, ho4, hx4, he4⟩; have hK6 := K1.out w4 ((he3.undrew').trans he4); have kc0 := cell_of_row w4 (w.heap.size + 1) 0 _ _ (0, 0) hK6; have kc1 := cell_of_row w4 (w.heap.size + 1) 1 _ _ (0, 0) hK6; have kc2 := cell_of_row w4 (w.heap.size + 1) 2 _ _ (0, 0) hK6; have kf0 := frozen_of_row w4 (w.heap.size + 1) 0 _ _ hK6; have kf1 := frozen_of_row w4 (w.heap.size + 1) 1 _ _ hK6; have kf2 := frozen_of_row w4 (w.heap.size + 1) 2 _ _ hK6; simp only [List.getElem?_toArray, List.getElem?_cons_zero, List.getElem?_cons_succ] at kc0 kc1 kc2; have HK6 := Lib.hid hK6; clear hK6)
      | fail)
  have e1 : w4.heap[w.heap.size + 1]? = some (.cells #[.int .i64 0, .slice none 0 0, .slice none 0 0] 28) := HK6.out
  have e2 := heap_setCell_same _ (w.heap.size + 1) 0 _ _ (.int .i64 k) e1
  have e3 := heap_setCell_same _ (w.heap.size + 1) 1 _ _ (.slice A3 n c3) e2
  have e4 := heap_setCell_same _ (w.heap.size + 1) 2 _ _ (.slice A4 m c4) e3
  have h8 := Hs8.out
  have hle3 : w.heap.size + 2 ≤ W8.drew.heap.size := Nat.le_of_eq h8.symm
  have hle4 : w.heap.size + 2 ≤ w3.heap.size := Nat.le_trans hle3 he3.size
  have g1 := grown_setCell w4 (w.heap.size + 1) 0 (.int .i64 k)
  have g2 := grown_setCell (w4.setCell ⟨w.heap.size + 1, 0, none⟩ (.int .i64 k)) (w.heap.size + 1) 1 (.slice A3 n c3)
  have g3 := grown_setCell ((w4.setCell ⟨w.heap.size + 1, 0, none⟩ (.int .i64 k)).setCell ⟨w.heap.size + 1, 1, none⟩ (.slice A3 n c3)) (w.heap.size + 1) 2 (.slice A4 m c4)
  have o3 := ((((ho3.ext he4).mono hle3).far g1 (by omega)).far g2 (by omega)).far g3 (by omega)
  have x3 := ((((hx3.ext he4).mono hle3).far g1 (by omega)).far g2 (by omega)).far g3 (by omega)
  have o4 := (((ho4.mono hle4).far g1 (by omega)).far g2 (by omega)).far g3 (by omega)
  have x4 := (((hx4.mono hle4).far g1 (by omega)).far g2 (by omega)).far g3 (by omega)
  have hE9 := ((((HE.out.trans he3.undrew').trans he4).setCell (p := ⟨w.heap.size + 1, 0, none⟩) (Nat.le_succ _) (.int .i64 k)).setCell (p := ⟨w.heap.size + 1, 1, none⟩) (Nat.le_succ _) (.slice A3 n c3)).setCell (p := ⟨w.heap.size + 1, 2, none⟩) (Nat.le_succ _) (.slice A4 m c4)
  go_wp2_with fail
  apply bodyPost_ret
  · exact results_cell1 rfl _ _ (w.heap.size + 1) 28 #[.int .i64 k, .slice A3 n c3, .slice A4 m c4] (0, 0) _ rfl e4 Try.underlying28 rfl (by kernel_rfl)
  · rfl
  · exact ⟨ys, A3, c3, ts, A4, c4, rfl, hv3, hv4, o3.mono (by omega), x3.mono (by omega), o4.mono (by omega), x4.mono (by omega), hE9⟩

end Go.Proofs.Ytpjichclpnebjaa

-- part H18
/-
  A row of columns of the call's own.
-/
namespace Go.Proofs.Ytpjichclpnebjaa
open Go.RowKit

theorem Try.infoCol : (Try.prog.info? 89).map (fun i => (i.zero, i.size, i.bytes)) = some (some (.agg #[.string ByteArray.empty, .int .i64 0, .bool false]), 3, 32) := by kernel_rfl

def Col.cells (x : Col) : List Value := [.string x.name, .int .i64 x.kind, .bool x.null]
def ccells (xs : List Col) : List Value := (xs.map Col.cells).flatten
theorem ccells_snoc (xs : List Col) (x : Col) : ccells (xs ++ [x]) = ccells xs ++ x.cells := by simp [ccells]
theorem ccells_len (xs : List Col) : (ccells xs).length = xs.length * 3 := by
  induction xs with
  | nil => rfl
  | cons f r ih =>
    have : ccells (f :: r) = f.cells ++ ccells r := by simp [ccells]
    rw [this, List.length_append, ih, List.length_cons]
    show 3 + _ = _
    omega
theorem ccells_at {xs : List Col} {j : Nat} {x : Col} (h : xs[j]? = some x) (i : Nat) (hi : i < 3) : (ccells xs)[j * 3 + i]? = x.cells[i]? := by
  induction xs generalizing j with
  | nil => simp at h
  | cons f r ih =>
    have hc : ccells (f :: r) = f.cells ++ ccells r := by simp [ccells]
    have hf : f.cells.length = 3 := rfl
    rw [hc]
    cases j with
    | zero =>
      simp at h
      subst h
      rw [Nat.zero_mul, Nat.zero_add, List.getElem?_append_left (by omega)]
    | succ j =>
      rw [List.getElem?_append_right (by omega), hf, ← ih (j := j) (by simpa using h)]
      congr 1
      omega

/-- A row of cells of the call's own; their texts, each of the call's own, each behind the one ahead. -/
def OwnC (w : World) (base : Nat) (A : Option Addr) (c : Nat) (xs : List Col) : Prop := w.ownsRow base 89 3 (.slice A xs.length c) xs.length (ccells xs)
theorem OwnC.nil (w : World) (base : Nat) : OwnC w base none 0 [] := World.ownsRow_nil w base _ 3
theorem OwnC.made {base : Nat} (w : World) (hb : base ≤ w.heap.size) : OwnC (w.alloc (.cells #[] 89)) base (some ⟨w.heap.size, 0, none⟩) 0 [] :=
  World.ownsRow_made w #[] 0 hb (by simp [maxLen]) (by simp)
theorem OwnC.ext {w w' : World} {base c : Nat} {A : Option Addr} {xs : List Col} (h : OwnC w base A c xs) (hb : Ext w w') : OwnC w' base A c xs := by
  refine World.ownsRow.kept (row := none) h ⟨hb.os, hb.tape, hb.output, hb.size, fun i hi _ => hb.block i hi⟩ ?_
  cases hv : (Value.slice A xs.length c).ownBlock <;> simp
theorem OwnC.rdC {w : World} {base c : Nat} {A : Option Addr} {xs : List Col} (h : OwnC w base A c xs) : RdC w A xs.length xs := by
  refine ⟨rfl, fun hn => ?_⟩
  rcases h.2 with ⟨_, h0⟩ | ⟨g, cap, cur, hv, hg, hh, hnc, hcm, hcs, htake⟩
  · omega
  · injection hv with hA hl hc
    subst hA
    have hlt : g < w.heap.size := (Array.getElem?_eq_some_iff.1 hh).1
    refine ⟨g, 0, rfl, hlt, fun j x hj => ?_⟩
    have hjl : j < xs.length := (List.getElem?_eq_some_iff.1 hj).1
    have hat : ∀ i, i < xs.length * 3 → cur[i]? = (ccells xs)[i]? := fun i hi => by
      rw [← htake, List.getElem?_take, if_pos hi]
      simp
    refine ⟨?_, ?_, ?_⟩
    · rw [cell_of_row w g _ cur _ (0, 0) hh, Nat.zero_add, hat _ (by omega)]; exact ccells_at hj 0 (by omega)
    · rw [cell_of_row w g _ cur _ (0, 0) hh, Nat.zero_add, hat _ (by omega)]; exact ccells_at hj 1 (by omega)
    · rw [cell_of_row w g _ cur _ (0, 0) hh, Nat.zero_add, hat _ (by omega)]; exact ccells_at hj 2 (by omega)

/-- 'append(row, x)'. -/
theorem step_pushC {w0 w : World} {ops : Array Oper} {o : Oper} {a : Act} {K : Act → World → Prop} {Q : Exit → Act → World → Prop} {E : Prop} (f : Col) (hgd : o.guard = none) (s y : Operand)
    (ho : o.op = .call { callee := .builtin .append, args := #[s, y], argTypes := #[22, 22] })
    {base : Nat} {A : Option Addr} {c : Nat} {fs : List Col} (hown : OwnC w base A c fs) (n : Nat) (hn : fs.length = n) (hs : a.eval s = .slice A n c)
    {g : Nat} (hy : a.eval y = .slice (some ⟨g, 0, none⟩) 1 1) (hg : w.heap[g]? = some (.cells #[.string f.name, .int .i64 f.kind, .bool f.null] 89))
    (hlen : n ≤ 4398046511104) (hb : Below base w0 w) (hbase : base ≤ w.heap.size)
    (h : ∀ A' c' w', OwnC w' base A' c' (fs ++ [f]) → w.grownBy w' (Value.slice A fs.length c).ownBlock → Below base w0 w' → base ≤ w'.heap.size → K (a.put o.dst (.slice A' (n + 1) c')) w') :
    if Region.wanted o (yielded ops a.tmps) = true then Oper.wp Try.prog o a w K Q else E := by
  have hw : Region.wanted o (yielded ops a.tmps) = true := by simp [Region.wanted, hgd]
  rw [if_pos hw]
  subst hn
  obtain ⟨i, hi0, hz, hsz, hbs⟩ := info_parts Try.infoCol
  refine wp_append_own_wide w s y 22 ho base 89 i _ 3 32 Try.underlying22 hi0 hz hsz hbs rfl (by decide) _ fs.length (ccells fs) hs hown
    ⟨g, 0, none⟩ 1 1 f.cells hy rfl ?_ ?_ (by unfold maxLen; omega) (by omega) hbase ?_
  · intro j u hj
    have hcr : w.cell? ((⟨g, 0, none⟩ : Addr).add j) = #[Value.string f.name, .int .i64 f.kind, .bool f.null][j]? := by
      rw [show (⟨g, 0, none⟩ : Addr).add j = ⟨g, j, none⟩ from by unfold Addr.add; split <;> simp_all]
      exact cell_of_row w g j _ _ (0, 0) hg
    rw [hcr, ← hj]
    simp [Col.cells]
  · intro u hu
    simp [Col.cells] at hu
    rcases hu with rfl | rfl | rfl <;> rfl
  · intro v' w' hown' hgr _
    have hform : ∃ A' c', v' = .slice A' (fs.length + 1) c' := by
      rcases hown'.2 with ⟨_, h0⟩ | ⟨g, cap, cur, hv, _⟩
      · omega
      · exact ⟨_, _, hv⟩
    obtain ⟨A', c', rfl⟩ := hform
    have hb' : Below base w0 w' := Below.grown hb hgr hbase (fun g hg' => (hown.lt g hg').1)
    refine h A' c' w' ?_ hgr hb' ?_
    · unfold OwnC
      rw [List.length_append, ccells_snoc]
      exact hown'
    · have := hgr.size
      omega

theorem OwnC.far {w w' : World} {base c b : Nat} {A : Option Addr} {xs : List Col} (h : OwnC w base A c xs) (hg : w.grownBy w' (some b)) (hb : b < base) : OwnC w' base A c xs := by
  refine World.ownsRow.kept h hg ?_
  cases A with
  | none => exact Or.inl rfl
  | some a =>
    refine Or.inr (fun e => ?_)
    have h1 := (World.ownsRow.lt h a.block rfl).1
    simp [Value.ownBlock] at e
    omega

end Go.Proofs.Ytpjichclpnebjaa

-- part H19
/-
  A schema as new memory.
-/
namespace Go.Proofs.Ytpjichclpnebjaa
open Go.RowKit

set_option maxHeartbeats 3200000 in
set_option maxRecDepth 100000 in
theorem twinSchema_any (keys : Int) (A : Option Addr) (n c : Nat) (cs : List Col) (w : World) (hx : RdC w A n cs) (hn : n ≤ 4398046511104) :
    Calls Try.prog 10 #[.agg #[.slice A n c, .int .i64 keys]] w fun e w' => ∃ A' c', e = .returned (.agg #[.slice A' n c', .int .i64 keys]) ∧ OwnC w' w.heap.size A' c' cs ∧ Ext w w' := by
  have Hl := Lib.hid hx.1
  go_enter Try.func10, Try.ntmps10
  go_wp2
  go_loopw [4] (fun i wr => ∃ (j : Nat) (A' : Option Addr) (c' : Nat), j ≤ n ∧ i = .int .i64 j ∧ Ext w wr ∧ w.heap.size + 3 ≤ wr.heap.size ∧ OwnC wr (w.heap.size + 3) A' c' (cs.take j) ∧ wr.heap[w.heap.size + 1]? = some (.cells #[.slice none 0 0, .int .i64 0] 24) ∧ wr.heap[w.heap.size + 2]? = some (.cells #[.slice A' j c', .int .i64 keys] 24) ∧ AtS wr w.heap.size A n c keys) (fun i _ => n - (intOf i).toNat)
  case atStart =>
    refine ⟨0, none, 0, Nat.zero_le _, rfl, (((Ext.refl w).alloc _).alloc _).alloc _, by simp, OwnC.nil _ _, ?_, ?_, (AtS.box w A n c keys).ext (((Ext.refl _).alloc _).alloc _)⟩
    · refine (Go.heap_alloc_old _ _ (by simp)).trans ?_
      have h := heap_alloc_new (w.alloc (.cells #[.slice A n c, .int .i64 keys] 24)) (.cells #[.slice none 0 0, .int .i64 0] 24)
      simpa using h
    · have h := heap_alloc_new ((w.alloc (.cells #[.slice A n c, .int .i64 keys] 24)).alloc (.cells #[.slice none 0 0, .int .i64 0] 24)) (.cells #[.slice none 0 0, .int .i64 keys] 24)
      simpa using h
  case round =>
    obtain ⟨j, A', c', hj, rfl, hE, hz, hown, hr1, hr2, s0⟩ := hrel
    obtain ⟨k0, k1, z0⟩ := s0
    have q0 := cell_of_row wr (w.heap.size + 2) 0 _ _ (0, 0) hr2
    have q1 := cell_of_row wr (w.heap.size + 2) 1 _ _ (0, 0) hr2
    simp only [List.getElem?_toArray, List.getElem?_cons_zero, List.getElem?_cons_succ] at q0 q1
    by_cases hlt : j < n
    · obtain ⟨b, o, f, rfl, hbl, hf, h0, h1, h2⟩ := (hx.ext hE).at_ hlt
      have htl : (cs.take j).length = j := by rw [List.length_take, Hl.out]; omega
      have hnx : cs.take (j + 1) = cs.take j ++ [f] := by
        rw [List.take_add_one, hf]
        rfl
      have Htl := Lib.hid htl
      have Hnx := Lib.hid hnx
      obtain ⟨nm, kd, nl⟩ := f
      simp only at h0 h1 h2
      have i0 : (0 : Int) ≤ (j : Int) := by omega
      have i1 : (j : Int) < (n : Int) := by omega
      have Hown : Hid (∀ W, Ext wr W → OwnC W (w.heap.size + 3) A' c' (cs.take j)) := Lib.hid (fun W hW => hown.ext hW)
      have HB : Hid (∀ W, Ext wr W → Below (w.heap.size + 3) wr W ∧ w.heap.size + 3 ≤ W.heap.size) := Lib.hid (fun W hW => ⟨Below.mono hW hz, Nat.le_trans hz hW.size⟩)
      have q0a := (((Ext.refl wr).alloc (.cells #[.string nm, .int .i64 kd, .bool nl] 89)).drew.cells (w.heap.size + 2) 0 (by omega)).trans q0
      have q0b := ((Ext.refl wr).drew.cells (w.heap.size + 2) 0 (by omega)).trans q0
      have q0c := (((Ext.refl wr).alloc (.cells #[.string nm, .int .i64 kd, .bool nl] 89)).cells (w.heap.size + 2) 0 (by omega)).trans q0
      have q0d := (((Ext.refl wr).drew.alloc (.cells #[.string nm, .int .i64 kd, .bool nl] 89)).cells (w.heap.size + 2) 0 (by omega)).trans q0
      have hlt2 : w.heap.size + 2 < wr.heap.size := by omega
      have Hr1 := Lib.hid hr1
      have Hr2 := Lib.hid hr2
      clear htl hnx hf hown hr1 hr2
      go_wp2_with fail
      go_region_law (first
          | (refine step_pushC (w0 := wr) ⟨nm, kd, nl⟩ (by rfl) _ _ (by rfl) (Hown.out _ (by (repeat (first | exact Ext.refl _ | apply Ext.drew | apply Ext.alloc | fail)))) j Htl.out (by rfl) (by rfl) (heap_alloc_new _ _) (by omega) (HB.out _ (by (repeat (first | exact Ext.refl _ | apply Ext.drew | apply Ext.alloc | fail)))).1 (HB.out _ (by (repeat (first | exact Ext.refl _ | apply Ext.drew | apply Ext.alloc | fail)))).2 ?_; intro A4 c4 w4 hown4 hgr hb4 hz4; have hk2 := (hb4.block (w.heap.size + 2) (by omega)).trans Hr2.out; have kc0 := cell_of_row w4 (w.heap.size + 2) 0 _ _ (0, 0) hk2; have kf0 := frozen_of_row w4 (w.heap.size + 2) 0 _ _ hk2; simp only [List.getElem?_toArray, List.getElem?_cons_zero] at kc0; have Hk2 := Lib.hid hk2; clear hk2)
          | fail)
      all_goals
        have e2 := heap_setCell_same _ (w.heap.size + 2) 0 _ _ (.slice A4 (j + 1) c4) Hk2.out
        have gw := grown_setCell w4 (w.heap.size + 2) 0 (.slice A4 (j + 1) c4)
        have hE4 : Ext w (w4.setCell ⟨w.heap.size + 2, 0, none⟩ (.slice A4 (j + 1) c4)) := Ext.setCell (Below.trans hE (Below.mono hb4 (show w.heap.size ≤ w.heap.size + 3 from Nat.le_add_right _ _))) (p := ⟨w.heap.size + 2, 0, none⟩) (by show w.heap.size ≤ w.heap.size + 2; omega) _
        have hB2 : Below (w.heap.size + 2) wr (w4.setCell ⟨w.heap.size + 2, 0, none⟩ (.slice A4 (j + 1) c4)) := Below.setCell (Below.mono hb4 (show w.heap.size + 2 ≤ w.heap.size + 3 from Nat.le_succ _)) (p := ⟨w.heap.size + 2, 0, none⟩) (Nat.le_refl _) _
        have r1 := (hB2.block (w.heap.size + 1) (by omega)).trans Hr1.out
        have hzz : w.heap.size + 3 ≤ (w4.setCell ⟨w.heap.size + 2, 0, none⟩ (.slice A4 (j + 1) c4)).heap.size := by have := gw.size; omega
        have s4 : AtS (w4.setCell ⟨w.heap.size + 2, 0, none⟩ (.slice A4 (j + 1) c4)) w.heap.size (some ⟨b, o, none⟩) n c keys := ⟨(Below.cell hB2 (p := ⟨w.heap.size, 0, none⟩) (by show w.heap.size < w.heap.size + 2; omega)).trans k0, (Below.cell hB2 (p := ⟨w.heap.size, 1, none⟩) (by show w.heap.size < w.heap.size + 2; omega)).trans k1, by omega⟩
        have ow := hown4.far gw (by omega)
        rw [← Hnx.out] at ow
        go_wp2
        go_roundw
        case rel => exact ⟨j + 1, A4, c4, by omega, by go_num, hE4, hzz, ow, r1, e2, s4⟩
        case measure => simp [intOf]; omega
    · obtain rfl : j = n := by omega
      rw [List.take_of_length_le (Nat.le_of_eq Hl.out)] at hown
      go_wp2_with (refine wpList_store_row rfl 24 (.tmp 2) (.tmp 25) rfl (w.heap.size + 1) #[.slice A' j c', .int .i64 keys] rfl rfl 24 #[.slice none 0 0, .int .i64 0] hr1 (by kernel_rfl) rfl (by simp; exact ⟨rfl, rfl⟩) ?_)
      apply bodyPost_ret
      · exact results_cell1 rfl _ _ (w.heap.size + 1) 24 #[.slice A' j c', .int .i64 keys] (0, 0) _ rfl (setRow_heap wr (w.heap.size + 1) _ _ 24 (0, 0) hr1) Try.underlying24 rfl (by kernel_rfl)
      · rfl
      · have ho := hown.far (grown_setRow wr (w.heap.size + 1) #[.slice A' j c', .int .i64 keys]) (by omega)
        refine ⟨A', c', rfl, ?_, hE.setRow (Nat.le_succ _) _⟩
        refine ⟨ho.1, ?_⟩
        rcases ho.2 with hn | ⟨g, cap, cur, hv, hg, r⟩
        · exact Or.inl hn
        · exact Or.inr ⟨g, cap, cur, hv, by omega, r⟩

end Go.Proofs.Ytpjichclpnebjaa
