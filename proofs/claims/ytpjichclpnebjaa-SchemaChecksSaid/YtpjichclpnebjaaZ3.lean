import Derived.Test.YtpjichclpnebjaaZ2
import Derived.BigQuiet

-- part H12
/-
  A row of cells as new memory.
-/
namespace Go.Proofs.Ytpjichclpnebjaa
open Go.RowKit

theorem Try.infoCell : (Try.prog.info? 82).map (fun i => (i.zero, i.size, i.bytes)) = some (some (.agg #[.bool false, .int .i64 0, .slice none 0 0]), 3, 40) := by kernel_rfl

def Ci.cells (x : Ci) : List Value := [.bool x.nul, .int .i64 x.num, .slice x.A x.txt.length x.c]
def xcells (xs : List Ci) : List Value := (xs.map Ci.cells).flatten
theorem xcells_snoc (xs : List Ci) (x : Ci) : xcells (xs ++ [x]) = xcells xs ++ x.cells := by simp [xcells]
theorem xcells_len (xs : List Ci) : (xcells xs).length = xs.length * 3 := by
  induction xs with
  | nil => rfl
  | cons f r ih =>
    have : xcells (f :: r) = f.cells ++ xcells r := by simp [xcells]
    rw [this, List.length_append, ih, List.length_cons]
    show 3 + _ = _
    omega
theorem xcells_at {xs : List Ci} {j : Nat} {x : Ci} (h : xs[j]? = some x) (i : Nat) (hi : i < 3) : (xcells xs)[j * 3 + i]? = x.cells[i]? := by
  induction xs generalizing j with
  | nil => simp at h
  | cons f r ih =>
    have hc : xcells (f :: r) = f.cells ++ xcells r := by simp [xcells]
    have hf : f.cells.length = 3 := rfl
    rw [hc]
    cases j with
    | zero =>
      simp at h
      subst h
      rw [Nat.zero_mul, Nat.zero_add, List.getElem?_append_left (by omega)]
    | succ j =>
      rw [List.getElem?_append_right (by omega), hf, ← ih (j := j) (by simpa using h)]
      congr 1
      omega

/-- A row of cells of the call's own; their texts, each of the call's own, each behind the one ahead. -/
def OwnX (w : World) (base : Nat) (A : Option Addr) (c : Nat) (xs : List Ci) : Prop := w.ownsRow base 82 3 (.slice A xs.length c) xs.length (xcells xs)
def TxtX (w : World) (base : Nat) (xs : List Ci) : Prop :=
  (∀ x ∈ xs, Own .u8 5 w base x.A x.c x.txt) ∧ xs.Pairwise fun f g => ∀ p q, f.A = some p → g.A = some q → p.block < q.block

theorem OwnX.nil (w : World) (base : Nat) : OwnX w base none 0 [] := World.ownsRow_nil w base _ 3
theorem OwnX.made {base : Nat} (w : World) (hb : base ≤ w.heap.size) : OwnX (w.alloc (.cells #[] 82)) base (some ⟨w.heap.size, 0, none⟩) 0 [] :=
  World.ownsRow_made w #[] 0 hb (by simp [maxLen]) (by simp)
theorem OwnX.ext {w w' : World} {base c : Nat} {A : Option Addr} {xs : List Ci} (h : OwnX w base A c xs) (hb : Ext w w') : OwnX w' base A c xs := by
  refine World.ownsRow.kept (row := none) h ⟨hb.os, hb.tape, hb.output, hb.size, fun i hi _ => hb.block i hi⟩ ?_
  cases hv : (Value.slice A xs.length c).ownBlock <;> simp
theorem TxtX.nil (w : World) (base : Nat) : TxtX w base [] := ⟨fun f h => (by cases h), .nil⟩
theorem TxtX.ext {w w' : World} {base : Nat} {xs : List Ci} (h : TxtX w base xs) (hb : Ext w w') : TxtX w' base xs := ⟨fun f hf => (h.1 f hf).ext hb, h.2⟩

theorem own_neX {w : World} {base base' c c' : Nat} {A A' : Option Addr} {fs : List Ci} {xs : List Nat} (h : OwnX w base A c fs) (k : Own .u8 5 w base' A' c' xs) : ∀ a, A' = some a → some a.block ≠ (Value.slice A fs.length c).ownBlock := by
  rintro a rfl e
  rcases h.2 with ⟨hv, _⟩ | ⟨g, cap, cur, hv, hg, hh, _⟩
  · rw [hv] at e; simp [Value.ownBlock] at e
  · rw [hv] at e
    simp [Value.ownBlock] at e
    rcases k.2 with ⟨hv', _⟩ | ⟨g', cap', cur', hv', _, hh', _⟩
    · cases hv'
    · injection hv' with hA
      injection hA with hA
      subst hA
      simp at e
      subst e
      rw [hh] at hh'
      injection hh' with hh'
      injection hh' with h1 h2 h3
      exact absurd h2 (by decide)

theorem TxtX.grown {w w' : World} {base base' c : Nat} {A : Option Addr} {fs gs : List Ci} (h : TxtX w base fs) (k : OwnX w base' A c gs) (hg : w.grownBy w' (Value.slice A gs.length c).ownBlock) : TxtX w' base fs :=
  ⟨fun f hf => (h.1 f hf).grown hg (own_neX k (h.1 f hf)), h.2⟩

theorem TxtX.snoc {w : World} {base base' : Nat} {fs : List Ci} {f : Ci} (h : TxtX w base fs) (hf : Own .u8 5 w base' f.A f.c f.txt) (hb : base ≤ base') (hl : ∀ g ∈ fs, ∀ p, g.A = some p → p.block < base') : TxtX w base (fs ++ [f]) := by
  refine ⟨fun g hg => ?_, ?_⟩
  · rcases List.mem_append.1 hg with h1 | h1
    · exact h.1 g h1
    · simp at h1; subst h1; exact hf.mono hb
  · rw [List.pairwise_append]
    refine ⟨h.2, by simp, fun g hg f' hf' p q hp hq => ?_⟩
    simp at hf'
    subst hf'
    exact Nat.lt_of_lt_of_le (hl g hg p hp) (hf.block q hq).1

/-- Of what is handed in nothing but the place differs. -/
theorem In_of_val {w : World} {x y : Ci} (h : x.val = y.val) {W : World} (hy : y.In W) (hr : Rd .u8 w x.A x.txt.length x.txt) : x.In w := by
  unfold Ci.val at h
  injection h with h1 h2
  injection h2 with h2 h3
  exact ⟨hr, h3 ▸ hy.u8, h2 ▸ hy.lo, h2 ▸ hy.hi, h3 ▸ hy.len⟩

theorem OwnX.rdX {w : World} {base c : Nat} {A : Option Addr} {xs : List Ci} (h : OwnX w base A c xs) (k : ∀ x ∈ xs, x.In w) : RdX w A xs.length xs := by
  refine ⟨rfl, fun hn => ?_⟩
  rcases h.2 with ⟨_, h0⟩ | ⟨g, cap, cur, hv, hg, hh, hnc, hcm, hcs, htake⟩
  · omega
  · injection hv with hA hl hc
    subst hA
    have hlt : g < w.heap.size := (Array.getElem?_eq_some_iff.1 hh).1
    refine ⟨g, 0, rfl, hlt, fun j x hj => ?_⟩
    have hjl : j < xs.length := (List.getElem?_eq_some_iff.1 hj).1
    have hat : ∀ i, i < xs.length * 3 → cur[i]? = (xcells xs)[i]? := fun i hi => by
      rw [← htake, List.getElem?_take, if_pos hi]
      simp
    refine ⟨?_, ?_, ?_, k x (List.mem_of_getElem? hj)⟩
    · rw [cell_of_row w g _ cur _ (0, 0) hh, Nat.zero_add, hat _ (by omega)]; exact xcells_at hj 0 (by omega)
    · rw [cell_of_row w g _ cur _ (0, 0) hh, Nat.zero_add, hat _ (by omega)]; exact xcells_at hj 1 (by omega)
    · rw [cell_of_row w g _ cur _ (0, 0) hh, Nat.zero_add, hat _ (by omega)]; exact xcells_at hj 2 (by omega)

/-- 'append(row, x)'. -/
theorem wpList_pushX {w0 w : World} {ops : Array Oper} {rest : List Oper} {o : Oper} {a : Act} {Q : Exit → Act → World → Prop} (f : Ci) (hgd : o.guard = none) (s y : Operand)
    (ho : o.op = .call { callee := .builtin .append, args := #[s, y], argTypes := #[25, 25] })
    {base : Nat} {A : Option Addr} {c : Nat} {fs : List Ci} (hown : OwnX w base A c fs) (n : Nat) (hn : fs.length = n) (hs : a.eval s = .slice A n c)
    {g : Nat} (hy : a.eval y = .slice (some ⟨g, 0, none⟩) 1 1) (hg : w.heap[g]? = some (.cells #[.bool f.nul, .int .i64 f.num, .slice f.A f.txt.length f.c] 82))
    (hlen : n ≤ 4398046511104) (hb : Below base w0 w) (hbase : base ≤ w.heap.size)
    (h : ∀ A' c' w', OwnX w' base A' c' (fs ++ [f]) → w.grownBy w' (Value.slice A fs.length c).ownBlock → Below base w0 w' → base ≤ w'.heap.size → wpList Try.prog ops Q rest (a.put o.dst (.slice A' (n + 1) c')) w') :
    wpList Try.prog ops Q (o :: rest) a w := by
  subst hn
  obtain ⟨i, hi0, hz, hsz, hbs⟩ := info_parts Try.infoCell
  refine wpList_append_own_wide w hgd s y 25 ho base 82 i _ 3 40 Try.underlying25 hi0 hz hsz hbs rfl (by decide) _ fs.length (xcells fs) hs hown
    ⟨g, 0, none⟩ 1 1 f.cells hy rfl ?_ ?_ (by unfold maxLen; omega) (by omega) hbase ?_
  · intro j u hj
    have hcr : w.cell? ((⟨g, 0, none⟩ : Addr).add j) = #[Value.bool f.nul, .int .i64 f.num, .slice f.A f.txt.length f.c][j]? := by
      rw [show (⟨g, 0, none⟩ : Addr).add j = ⟨g, j, none⟩ from by unfold Addr.add; split <;> simp_all]
      exact cell_of_row w g j _ _ (0, 0) hg
    rw [hcr, ← hj]
    simp [Ci.cells]
  · intro u hu
    simp [Ci.cells] at hu
    rcases hu with rfl | rfl | rfl <;> rfl
  · intro v' w' hown' hgr _
    have hform : ∃ A' c', v' = .slice A' (fs.length + 1) c' := by
      rcases hown'.2 with ⟨_, h0⟩ | ⟨g, cap, cur, hv, _⟩
      · omega
      · exact ⟨_, _, hv⟩
    obtain ⟨A', c', rfl⟩ := hform
    have hb' : Below base w0 w' := Below.grown hb hgr hbase (fun g hg' => (hown.lt g hg').1)
    refine h A' c' w' ?_ hgr hb' ?_
    · unfold OwnX
      rw [List.length_append, xcells_snoc]
      exact hown'
    · have := hgr.size
      omega

set_option maxHeartbeats 1600000 in
theorem twinRow_any (A : Option Addr) (n c : Nat) (xs : List Ci) (w : World) (hx : RdX w A n xs) (hn : n ≤ 4398046511104) :
    Calls Try.prog 24 #[.slice A n c] w fun e w' => ∃ fs A' c', e = .returned (.slice A' n c') ∧ fs.map Ci.val = xs.map Ci.val ∧ OwnX w' w.heap.size A' c' fs ∧ TxtX w' w.heap.size fs ∧ Ext w w' := by
  have Hl := Lib.hid hx.1
  go_enter Try.func24, Try.ntmps24
  go_wp2
  go_loopw [3, 4] (fun v i wr => ∃ (j : Nat) (A' : Option Addr) (c' : Nat) (fs : List Ci), j ≤ n ∧ i = .int .i64 j ∧ v = .slice A' j c' ∧ fs.length = j ∧ fs.map Ci.val = (xs.take j).map Ci.val ∧ OwnX wr w.heap.size A' c' fs ∧ TxtX wr w.heap.size fs ∧ Below w.heap.size w wr) (fun _ i _ => n - (intOf i).toNat)
  case atStart => exact ⟨0, _, _, [], Nat.zero_le _, rfl, rfl, rfl, rfl, OwnX.made _ (Nat.le_refl _), TxtX.nil _ _, (Ext.refl w).alloc _⟩
  case round =>
    obtain ⟨j, A', c', fs, hj, rfl, rfl, hfl, hfv, hown, htx, hb⟩ := hrel
    have hz := hb.size
    have Hfl := Lib.hid hfl
    have Hfv := Lib.hid hfv
    by_cases hlt : j < n
    · obtain ⟨b, o, f, rfl, hbl, hf, h1, h2, h3, hin⟩ := (hx.ext hb).at_ hlt
      have hnx : (xs.take (j + 1)).map Ci.val = (xs.take j).map Ci.val ++ [f.val] := by
        rw [List.take_add_one, hf, List.map_append]
        rfl
      have Hnx := Lib.hid hnx
      obtain ⟨xn, xi, xA, xc, xt⟩ := f
      simp only at h1 h2 h3
      obtain ⟨xr, xu, x0, x1, xl⟩ := hin
      simp only at xr xu x0 x1 xl
      obtain ⟨n3, hn3⟩ : ∃ n3, n3 = xt.length := ⟨_, rfl⟩
      rw [← hn3] at h3 xr xl
      have Hn3 := Lib.hid hn3
      have i0 : (0 : Int) ≤ (j : Int) := by omega
      have i1 : (j : Int) < (n : Int) := by omega
      clear hnx hf hn3 hfl hfv
      go_wp2_with fail
      refine (twin_any xn xi xA n3 xc xt _ xr (by omega)).mono ?_
      rintro e w1 ⟨A1, c1, rfl, hown1, he1⟩
      have hE1 : Below w.heap.size w w1 := Ext.trans hb he1
      have hown2 := hown.ext he1
      have htx2 := htx.ext he1
      have hlow : ∀ g ∈ fs, ∀ p, g.A = some p → p.block < wr.heap.size := fun g hg p hp => ((htx.1 g hg).block p hp).2
      have hsz1 := he1.size
      have hX : Ext w1 (w1.alloc (.cells #[.bool xn, .int .i64 xi, .slice A1 n3 c1] 82)) := (Ext.refl w1).alloc _
      have hown3 := hown2.ext hX
      go_wp2_with (at_builtin; refine wpList_pushX (w0 := w) ⟨xn, xi, A1, c1, xt⟩ rfl _ _ rfl hown3 j Hfl.out rfl rfl (by rw [← Hn3.out]; exact heap_alloc_new w1 _) (by omega) (Ext.trans hE1 hX) (by simp; omega) ?_; intro A3 c3 w3 hown4 hgr hb3 hz3)
      have htx3 : TxtX w3 w.heap.size (fs ++ [⟨xn, xi, A1, c1, xt⟩]) := TxtX.grown (base' := w.heap.size) (TxtX.snoc (htx2.ext hX) (hown1.ext hX) hz hlow) hown3 hgr
      go_roundw
      case rel => exact ⟨j + 1, A3, c3, _, by omega, by go_num, rfl, by simp [Hfl.out], by rw [Hnx.out, List.map_append, Hfv.out]; rfl, hown4, htx3, hb3⟩
      case measure => simp [intOf]; omega
    · obtain rfl : j = n := by omega
      have hv := Hfv.out
      rw [List.take_of_length_le (Nat.le_of_eq Hl.out)] at hv
      go_wp2
      go_ret
      exact ⟨fs, _, _, rfl, hv, hown, htx, hb⟩

end Go.Proofs.Ytpjichclpnebjaa

-- part H13
/-
  Sets compared.
-/
namespace Go.Proofs.Ytpjichclpnebjaa
open Go.RowKit

/-- The same sets? -/
def alkT (s t : Si) : Bool := if s.col = t.col then alkC s.cell t.cell else false
def alkTF : List Si → List Si → Bool
  | x :: r, y :: s => if alkT x y = true then alkTF r s else false
  | _, _ => true
def alkTs (xs ys : List Si) : Bool := if xs.length ≠ ys.length then false else alkTF xs ys

theorem alkTF_at {xs ys : List Si} {j : Nat} {x y : Si} (hx : xs[j]? = some x) (hy : ys[j]? = some y) : alkTF (xs.drop j) (ys.drop j) = if alkT x y = true then alkTF (xs.drop (j + 1)) (ys.drop (j + 1)) else false := by
  obtain ⟨h1, rfl⟩ := List.getElem?_eq_some_iff.1 hx
  obtain ⟨h2, rfl⟩ := List.getElem?_eq_some_iff.1 hy
  rw [List.drop_eq_getElem_cons h1, List.drop_eq_getElem_cons h2]
  rfl
theorem alkTF_end {xs ys : List Si} {j : Nat} (h : xs.length ≤ j) : alkTF (xs.drop j) (ys.drop j) = true := by
  rw [List.drop_of_length_le h]
  cases ys.drop j <;> rfl
/-- What a set is worth, wherever its text lies. -/
def Si.val (x : Si) : Int × Bool × Int × List Nat := (x.col, x.cell.val)
theorem alkT_iff {x y : Si} : alkT x y = true ↔ x.val = y.val := by
  unfold alkT Si.val
  rw [Prod.mk.injEq, ← alkC_iff]
  split <;> simp_all
theorem alkTs_iff {xs ys : List Si} : alkTs xs ys = true ↔ xs.map Si.val = ys.map Si.val := by
  induction xs generalizing ys with
  | nil => cases ys <;> simp [alkTs, alkTF]
  | cons x r ih =>
    cases ys with
    | nil => simp [alkTs]
    | cons y s =>
      have ih' := ih (ys := s)
      unfold alkTs at ih' ⊢
      by_cases hl : r.length = s.length
      · rw [if_neg (fun q => q hl)] at ih'
        rw [if_neg (fun q => q (by simp [hl]))]
        rw [List.map_cons, List.map_cons, List.cons.injEq, ← ih', ← alkT_iff]
        show (if alkT x y = true then alkTF r s else false) = true ↔ _
        split <;> simp_all
      · rw [if_pos (by simpa using hl)]
        simp only [Bool.false_eq_true, false_iff]
        intro q
        have := congrArg List.length q
        simp at this
        exact hl this

set_option maxHeartbeats 3200000 in
set_option maxRecDepth 100000 in
theorem alikeSets_any (A : Option Addr) (n c : Nat) (xs : List Si) (A2 : Option Addr) (n2 c2 : Nat) (ys : List Si) (w : World) (hx : RdT w A n xs) (hy : RdT w A2 n2 ys) (hn : n ≤ 140737488355328) (hn2 : n2 ≤ 140737488355328) :
    Calls Try.prog 31 #[.slice A n c, .slice A2 n2 c2] w fun e w' => e = .returned (.bool (alkTs xs ys)) ∧ Ext w w' := by
  have hl := hx.1
  have hl2 := hy.1
  obtain ⟨R, hR⟩ : ∃ R, R = alkTs xs ys := ⟨_, rfl⟩
  rw [← hR]
  unfold alkTs at hR
  rw [hl, hl2] at hR
  by_cases heq : n = n2
  · subst heq
    rw [if_neg (fun q => q rfl)] at hR
    have HR := Lib.hid hR
    have Hl := Lib.hid hl
    have b1 : ((n : Int) != (n : Int)) = false := by simp
    clear hR hl hl2
    go_enter Try.func31, Try.ntmps31
    go_wp2
    go_loopw [5] (fun i wr => ∃ j : Nat, j ≤ n ∧ i = .int .i64 j ∧ Ext w wr ∧ Hid (R = alkTF (xs.drop j) (ys.drop j))) (fun i _ => n - (intOf i).toNat)
    case atStart => exact ⟨0, Nat.zero_le _, rfl, Ext.refl w, HR.out⟩
    case round =>
      obtain ⟨j, hj, rfl, hE, HF⟩ := hrel
      by_cases hlt : j < n
      · obtain ⟨b, o, x, rfl, hb, hd, cc, c0, c1, c2', hin⟩ := (hx.ext hE).at_ hlt
        obtain ⟨b2, o2, y, rfl, hb2, hy2, ee, e0, e1, e2, hin2⟩ := (hy.ext hE).at_ hlt
        have hrow := HF.out.trans (alkTF_at hd hy2)
        obtain ⟨p, xn, xi, xA, xc, xt⟩ := x
        obtain ⟨p2, yn, yi, yA, yc, yt⟩ := y
        simp only at cc c0 c1 c2' ee e0 e1 e2
        obtain ⟨xr, xu, x0, x1, xl⟩ := hin
        obtain ⟨yr, yu, y0, y1, yl⟩ := hin2
        simp only at xr xu x0 x1 xl yr yu y0 y1 yl
        obtain ⟨n3, hn3⟩ : ∃ n3, n3 = xt.length := ⟨_, rfl⟩
        rw [← hn3] at c2' xr xl
        obtain ⟨n4, hn4⟩ : ∃ n4, n4 = yt.length := ⟨_, rfl⟩
        rw [← hn4] at e2 yr yl
        obtain ⟨q, hq⟩ : ∃ q, q = alk xn xi xt yn yi yt := ⟨_, rfl⟩
        have HC : Hid (∀ W, Ext wr W → Calls Try.prog 47 #[.agg #[.bool xn, .int .i64 xi, .slice xA n3 xc], .agg #[.bool yn, .int .i64 yi, .slice yA n4 yc]] W fun e w' => e = .returned (.bool q) ∧ Ext W w') := Lib.hid (fun W hW => by
          rw [hq]; exact alike_any xn xi xA n3 xc xt yn yi yA n4 yc yt W (xr.ext hW) (yr.ext hW) (by omega) (by omega))
        have K : Hid (∀ w', Ext wr w' → w'.cell? ⟨b, o + j * 4, none⟩ = some (.int .i64 p) ∧ w'.cell? ⟨b, o + j * 4 + 1, none⟩ = some (.bool xn) ∧ w'.cell? ⟨b, o + j * 4 + 2, none⟩ = some (.int .i64 xi) ∧ w'.cell? ⟨b, o + j * 4 + 3, none⟩ = some (.slice xA n3 xc) ∧ w'.cell? ⟨b2, o2 + j * 4, none⟩ = some (.int .i64 p2) ∧ w'.cell? ⟨b2, o2 + j * 4 + 1, none⟩ = some (.bool yn) ∧ w'.cell? ⟨b2, o2 + j * 4 + 2, none⟩ = some (.int .i64 yi) ∧ w'.cell? ⟨b2, o2 + j * 4 + 3, none⟩ = some (.slice yA n4 yc)) := Lib.hid (fun w' he =>
          ⟨(he.cells b _ hb).trans cc, (he.cells b _ hb).trans c0, (he.cells b _ hb).trans c1, (he.cells b _ hb).trans c2', (he.cells b2 _ hb2).trans ee, (he.cells b2 _ hb2).trans e0, (he.cells b2 _ hb2).trans e1, (he.cells b2 _ hb2).trans e2⟩)
        by_cases hp : p = p2
        · subst hp
          have hqq : alkT ⟨p, xn, xi, xA, xc, xt⟩ ⟨p, yn, yi, yA, yc, yt⟩ = q := by rw [hq]; exact if_pos rfl
          rw [hqq] at hrow
          have Hrow := Lib.hid hrow
          have b3 : (p != p) = false := by simp
          clear hrow hqq
          have i0 : (0 : Int) ≤ (j : Int) := by omega
          have i1 : (j : Int) < (n : Int) := by omega
          have g8 := K.out _ (Ext.refl wr)
          clear hq hn3 hn4 hd hy2 xr xu x0 x1 xl yr yu y0 y1 yl cc c0 c1 c2' ee e0 e1 e2
          go_wp2_with fail
          go_region_held3 (fun w' => w'.cell? ⟨b, o + j * 4, none⟩ = some (.int .i64 p) ∧ w'.cell? ⟨b, o + j * 4 + 1, none⟩ = some (.bool xn) ∧ w'.cell? ⟨b, o + j * 4 + 2, none⟩ = some (.int .i64 xi) ∧ w'.cell? ⟨b, o + j * 4 + 3, none⟩ = some (.slice xA n3 xc) ∧ w'.cell? ⟨b2, o2 + j * 4, none⟩ = some (.int .i64 p) ∧ w'.cell? ⟨b2, o2 + j * 4 + 1, none⟩ = some (.bool yn) ∧ w'.cell? ⟨b2, o2 + j * 4 + 2, none⟩ = some (.int .i64 yi) ∧ w'.cell? ⟨b2, o2 + j * 4 + 3, none⟩ = some (.slice yA n4 yc))
            (first | exact g8 | (refine K.out _ ?_; (repeat (first | exact Ext.refl _ | (with_reducible refine Ext.trans ?_ he3) | apply Ext.drew | apply Ext.alloc | fail))) | fail)
            (first
              | (go_at_call 47; (with_reducible refine (HC.out _ ?_).mono ?_); (focus ((repeat (first | exact Ext.refl _ | (with_reducible refine Ext.trans ?_ he3) | apply Ext.drew | apply Ext.alloc | fail)); done)); rintro e w3 ⟨rfl, he3⟩)
              | fail)
          have hE3 : Ext w w3 := hE.trans (by (repeat (first | exact Ext.refl _ | (with_reducible refine Ext.trans ?_ he3) | apply Ext.drew | apply Ext.alloc | fail)))
          cases q with
          | true =>
            have HN := Lib.hid (Hrow.out.trans (if_pos rfl))
            go_wp2
            go_roundw
            case rel => exact ⟨j + 1, by omega, by go_num, hE3, HN.out⟩
            case measure => simp [intOf]; omega
          | false =>
            have HN := Lib.hid (Hrow.out.trans (if_neg (by decide)))
            go_wp2
            go_ret
            exact ⟨by rw [HN.out]; rfl, hE3⟩
        · have hqq : alkT ⟨p, xn, xi, xA, xc, xt⟩ ⟨p2, yn, yi, yA, yc, yt⟩ = false := if_neg hp
          rw [hqq] at hrow
          have HN := Lib.hid (hrow.trans (if_neg (by decide)))
          have b3 : (p != p2) = true := by rw [bne_iff_ne]; exact hp
          have i0 : (0 : Int) ≤ (j : Int) := by omega
          have i1 : (j : Int) < (n : Int) := by omega
          clear hrow hqq hp hq hn3 hn4 hd hy2 xr xu x0 x1 xl yr yu y0 y1 yl HC K
          go_wp2_with fail
          go_quiet (fail)
          go_wp2
          go_ret
          exact ⟨by rw [HN.out]; rfl, by first | exact hE.drewN _ | exact hE | exact hE.drew | fail⟩
      · obtain rfl : j = n := by omega
        have HN := Lib.hid (HF.out.trans (alkTF_end (Nat.le_of_eq Hl.out)))
        go_wp2
        go_ret
        exact ⟨by rw [HN.out]; rfl, hE⟩
  · rw [if_pos heq] at hR
    have b1 : ((n : Int) != (n2 : Int)) = true := by rw [bne_iff_ne]; omega
    clear heq hl hl2
    subst hR
    go_enter Try.func31, Try.ntmps31
    go_wp2
    go_ret
    exact ⟨rfl, Ext.refl w⟩

end Go.Proofs.Ytpjichclpnebjaa

-- part H14
/-
  Operations and schemas compared.
-/
namespace Go.Proofs.Ytpjichclpnebjaa
open Go.RowKit

set_option maxHeartbeats 3200000 in
set_option maxRecDepth 100000 in
theorem alikeOp_yes (k : Int) (A : Option Addr) (n c : Nat) (xs : List Ci) (B : Option Addr) (m d : Nat) (ss : List Si) (A2 : Option Addr) (n2 c2 : Nat) (ys : List Ci) (B2 : Option Addr) (m2 d2 : Nat) (ts : List Si) (w : World)
    (hx : RdX w A n xs) (hy : RdX w A2 n2 ys) (hs : RdT w B m ss) (ht : RdT w B2 m2 ts) (hn : n ≤ 140737488355328) (hn2 : n2 ≤ 140737488355328) (hm : m ≤ 140737488355328) (hm2 : m2 ≤ 140737488355328)
    (h1 : xs.map Ci.val = ys.map Ci.val) (h2 : ss.map Si.val = ts.map Si.val) :
    Calls Try.prog 23 #[.agg #[.int .i64 k, .slice A n c, .slice B m d], .agg #[.int .i64 k, .slice A2 n2 c2, .slice B2 m2 d2]] w fun e w' => e = .returned (.bool true) ∧ Ext w w' := by
  obtain ⟨W8, hW8⟩ : ∃ W8, W8 = (w.alloc (.cells #[.int .i64 k, .slice A n c, .slice B m d] 28)).alloc (.cells #[.int .i64 k, .slice A2 n2 c2, .slice B2 m2 d2] 28) := ⟨_, rfl⟩
  have hE : Ext w W8 := by rw [hW8]; exact ((Ext.refl w).alloc _).alloc _
  have a1 : AtO W8 w.heap.size k A n c B m d := by
    rw [hW8]
    refine AtO.ext ?_ ((Ext.refl _).alloc _)
    exact ⟨cell_of_row _ _ 0 _ _ (0, 0) (heap_alloc_new w _), cell_of_row _ _ 1 _ _ (0, 0) (heap_alloc_new w _), cell_of_row _ _ 2 _ _ (0, 0) (heap_alloc_new w _), by simp⟩
  have a2 : AtO W8 (w.heap.size + 1) k A2 n2 c2 B2 m2 d2 := by rw [hW8]; exact AtO.box w _ k A2 n2 c2 B2 m2 d2
  have K : Hid (∀ w', Ext W8 w' → w'.cell? ⟨w.heap.size, 0, none⟩ = some (.int .i64 k) ∧ w'.cell? ⟨w.heap.size, 1, none⟩ = some (.slice A n c) ∧ w'.cell? ⟨w.heap.size, 2, none⟩ = some (.slice B m d) ∧ w'.cell? ⟨w.heap.size + 1, 0, none⟩ = some (.int .i64 k) ∧ w'.cell? ⟨w.heap.size + 1, 1, none⟩ = some (.slice A2 n2 c2) ∧ w'.cell? ⟨w.heap.size + 1, 2, none⟩ = some (.slice B2 m2 d2)) := Lib.hid (fun w' he =>
    ⟨(a1.ext he).c0, (a1.ext he).c1, (a1.ext he).c2, (a2.ext he).c0, (a2.ext he).c1, (a2.ext he).c2⟩)
  have HC : Hid (∀ W, Ext W8 W → Calls Try.prog 28 #[.slice A n c, .slice A2 n2 c2] W fun e w' => e = .returned (.bool true) ∧ Ext W w') := Lib.hid (fun W hW => by
    rw [← alkR_iff.2 h1]; exact alikeRow_any A n c xs A2 n2 c2 ys W ((hx.ext hE).ext hW) ((hy.ext hE).ext hW) hn hn2)
  have HD : Hid (∀ W, Ext W8 W → Calls Try.prog 31 #[.slice B m d, .slice B2 m2 d2] W fun e w' => e = .returned (.bool true) ∧ Ext W w') := Lib.hid (fun W hW => by
    rw [← alkTs_iff.2 h2]; exact alikeSets_any B m d ss B2 m2 d2 ts W ((hs.ext hE).ext hW) ((ht.ext hE).ext hW) hm hm2)
  have b1 : (k == k) = true := by simp
  have g8 := K.out _ (Ext.refl W8)
  clear a1 a2
  go_enter Try.func23, Try.ntmps23
  subst hW8
  go_wp2_with fail
  refine (HC.out _ (Ext.refl _)).mono ?_
  rintro e w3 ⟨rfl, he3⟩
  obtain ⟨k0, k1, k2, k3, k4, k5⟩ := K.out _ he3
  go_wp2_with fail
  refine (HD.out _ he3).mono ?_
  rintro e w4 ⟨rfl, he4⟩
  go_wp2
  go_ret
  exact ⟨rfl, (hE.trans he3).trans he4⟩

end Go.Proofs.Ytpjichclpnebjaa

-- part H15
/-
  Schemas compared.
-/
namespace Go.Proofs.Ytpjichclpnebjaa
open Go.RowKit

set_option maxHeartbeats 3200000 in
set_option maxRecDepth 100000 in
theorem alikeSchema_yes (keys : Int) (A : Option Addr) (n c : Nat) (A2 : Option Addr) (c2 : Nat) (cs : List Col) (w : World)
    (hx : RdC w A n cs) (hy : RdC w A2 n cs) (hn : n ≤ 140737488355328) :
    Calls Try.prog 22 #[.agg #[.slice A n c, .int .i64 keys], .agg #[.slice A2 n c2, .int .i64 keys]] w fun e w' => e = .returned (.bool true) ∧ Ext w w' := by
  have hE0 : Ext w ((w.alloc (.cells #[.slice A n c, .int .i64 keys] 24)).alloc (.cells #[.slice A2 n c2, .int .i64 keys] 24)) := ((Ext.refl w).alloc _).alloc _
  have a1 := (AtS.box w A n c keys).ext ((Ext.refl _).alloc (.cells #[.slice A2 n c2, .int .i64 keys] 24))
  have a2 := AtS.box (w.alloc (.cells #[.slice A n c, .int .i64 keys] 24)) A2 n c2 keys
  have hsz : (w.alloc (.cells #[.slice A n c, .int .i64 keys] 24)).heap.size = w.heap.size + 1 := by simp
  rw [hsz] at a2
  have b1 : (keys != keys) = false := by simp
  have b2 : ((n : Int) != (n : Int)) = false := by simp
  clear hsz
  go_enter Try.func22, Try.ntmps22
  go_wp2
  go_loopw [5] (fun i wr => ∃ j : Nat, j ≤ n ∧ i = .int .i64 j ∧ Ext w wr ∧ AtS wr w.heap.size A n c keys ∧ AtS wr (w.heap.size + 1) A2 n c2 keys) (fun i _ => n - (intOf i).toNat)
  case atStart => exact ⟨0, Nat.zero_le _, rfl, hE0, a1, a2⟩
  case round =>
    clear a1 a2 hE0
    obtain ⟨j, hj, rfl, hE, s1, s2⟩ := hrel
    obtain ⟨k0, k1, z0⟩ := s1
    obtain ⟨l0, l1, z1⟩ := s2
    by_cases hlt : j < n
    · obtain ⟨b, o, x, rfl, hb, hd, c0, c1, c2'⟩ := (hx.ext hE).at_ hlt
      obtain ⟨b2, o2, y, rfl, hb2, hy2, e0, e1, e2⟩ := (hy.ext hE).at_ hlt
      rw [hd] at hy2
      injection hy2 with hy2
      subst hy2
      obtain ⟨nm, kd, nl⟩ := x
      simp only at c0 c1 c2' e0 e1 e2
      have i0 : (0 : Int) ≤ (j : Int) := by omega
      have i1 : (j : Int) < (n : Int) := by omega
      clear hd
      go_wp2_with fail
      go_quiet (fail)
      go_wp2
      go_roundw
      case rel => exact ⟨j + 1, by omega, by go_num, hE.drewN _, AtS.ext ⟨k0, k1, z0⟩ ((Ext.refl wr).drewN _), AtS.ext ⟨l0, l1, z1⟩ ((Ext.refl wr).drewN _)⟩
      case measure => simp [intOf]; omega
    · obtain rfl : j = n := by omega
      go_wp2
      go_ret
      exact ⟨rfl, hE⟩

end Go.Proofs.Ytpjichclpnebjaa
