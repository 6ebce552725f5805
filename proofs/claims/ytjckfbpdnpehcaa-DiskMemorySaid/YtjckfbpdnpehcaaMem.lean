/-
  Words for memory that all our walks share: a slice that reads as a list of natural numbers of one kind (nil let in); a row of the call's own; a world that only adds to another.
-/
import Derived.WalkKit
import Derived.Deep.QuietTactic
import Derived.BigQuiet
import Derived.Deep.Draws
import Derived.Lib.Hide
import Derived.Maps.AppendAt
import Derived.Deep.DeepAppendWide
namespace Go.Proofs.Ytjckfbpdnpehcaa
open Go.RowKit

/-- w' has all that w had, as it was; it may have more. -/
def Ext (w w' : World) : Prop := Below w.heap.size w w'

theorem Ext.below {a b : World} (h : Ext a b) : Below a.heap.size a b := h
theorem Ext.refl (w : World) : Ext w w := Below.refl _ _
theorem Ext.trans {a b c : World} (h : Ext a b) (k : Ext b c) : Ext a c := Below.trans h (Below.mono k h.size)
theorem Ext.size {a b : World} (h : Ext a b) : a.heap.size ≤ b.heap.size := Below.size h
theorem Ext.drewN {a b : World} (h : Ext a b) (n : Nat) : Ext a (b.drewN n) := ⟨h.os, h.tape, h.output, (have hs := Below.size h.below; hs), h.block⟩
theorem Ext.drew {a b : World} (h : Ext a b) : Ext a b.drew := ⟨h.os, h.tape, h.output, (have hs := Below.size h.below; hs), h.block⟩
theorem Ext.alloc {a b : World} (h : Ext a b) (o : Obj) : Ext a (b.alloc o) := Below.alloc h (Below.size h) o
theorem Ext.of_drewN (w : World) (n : Nat) : Ext w (w.drewN n) := (Ext.refl w).drewN n
theorem Ext.setCell {a b : World} (h : Ext a b) {p : Addr} (hp : a.heap.size ≤ p.block) (u : Value) : Ext a (b.setCell p u) := Below.setCell h hp u

/-- The slice with address A and length n reads, in world w, as the natural numbers xs of kind k. -/
def Rd (k : IntKind) (w : World) (A : Option Addr) (n : Nat) (xs : List Nat) : Prop :=
  xs.length = n ∧ (0 < n → ∃ b o, A = some ⟨b, o, none⟩ ∧ b < w.heap.size ∧ ∀ j, j < n → w.cell? ⟨b, o + j, none⟩ = some (.int k ((xs.getD j 0 : Nat) : Int)))

section
variable {k : IntKind} {w w' : World} {n : Nat} {A : Option Addr} {xs : List Nat}

theorem Rd.len (h : Rd k w A n xs) : xs.length = n := h.1

theorem Rd.nil (k : IntKind) (w : World) (A : Option Addr) : Rd k w A 0 [] := ⟨rfl, fun h => absurd h (by omega)⟩

theorem Rd.at_ (h : Rd k w A n xs) {j : Nat} (hj : j < n) : ∃ b o, A = some ⟨b, o, none⟩ ∧ b < w.heap.size ∧ w.cell? ⟨b, o + j, none⟩ = some (.int k ((xs.getD j 0 : Nat) : Int)) := by
  obtain ⟨b, o, e, hb, hc⟩ := h.2 (by omega)
  exact ⟨b, o, e, hb, hc j hj⟩

theorem Rd.ext (h : Rd k w A n xs) (hb : Ext w w') : Rd k w' A n xs :=
  ⟨h.1, fun hn => by
    obtain ⟨b, o, e, hlt, hc⟩ := h.2 hn
    exact ⟨b, o, e, Nat.lt_of_lt_of_le hlt hb.size, fun j hj => (Below.cell hb (p := ⟨b, o + j, none⟩) hlt).trans (hc j hj)⟩⟩
theorem Rd.drewN (h : Rd k w A n xs) (q : Nat) : Rd k (w.drewN q) A n xs := h

theorem Rd.grown (h : Rd k w A n xs) {row : Option Nat} (hg : w.grownBy w' row) (hne : ∀ a, A = some a → some a.block ≠ row) : Rd k w' A n xs :=
  ⟨h.1, fun hn => by
    obtain ⟨b, o, e, hlt, hc⟩ := h.2 hn
    exact ⟨b, o, e, Nat.lt_of_lt_of_le hlt hg.size, fun j hj => (World.cell?_of_block (w := w) (a := ⟨b, o + j, none⟩) (hg.block b hlt (hne _ e))).trans (hc j hj)⟩⟩
end

/-- The slice (A, length of xs, capacity c) is a row of the call's own, from block base on: it reads as xs, and it may be written and appended to. -/
def Own (k : IntKind) (e : TypeId) (w : World) (base : Nat) (A : Option Addr) (c : Nat) (xs : List Nat) : Prop :=
  w.ownsRow base e 1 (.slice A xs.length c) xs.length (xs.map fun x : Nat => Value.int k (x : Int))

section
variable {k : IntKind} {e : TypeId} {w w' : World} {base c : Nat} {A : Option Addr} {xs : List Nat}

theorem Own.rd (h : Own k e w base A c xs) : Rd k w A xs.length xs := by
  refine ⟨rfl, fun hn => ?_⟩
  obtain ⟨_, h2⟩ := h
  rcases h2 with ⟨_, h0⟩ | ⟨g, cap, cur, hv, hg, hh, hnc, hcm, hcs, htake⟩
  · omega
  · injection hv with hA hl hc
    subst hA
    have hlt : g < w.heap.size := (Array.getElem?_eq_some_iff.1 hh).1
    refine ⟨g, 0, rfl, hlt, fun j hj => ?_⟩
    rw [cell_of_row w g (0 + j) cur e (0, 0) hh]
    have hu : cur.toList[j]? = some (.int k ((xs.getD j 0 : Nat) : Int)) := by
      have h3 : (cur.toList.take (xs.length * 1))[j]? = some (Value.int k ((xs.getD j 0 : Nat) : Int)) := by
        rw [htake, List.getElem?_map, List.getElem?_eq_getElem hj]
        simp [hj]
      rw [List.getElem?_take] at h3
      split at h3
      · exact h3
      · cases h3
    simpa using hu

theorem Own.rd' (h : Own k e w base A c xs) {n : Nat} (hn : xs.length = n) : Rd k w A n xs := hn ▸ h.rd

theorem Own.nil (k : IntKind) (e : TypeId) (w : World) (base : Nat) : Own k e w base none 0 [] := World.ownsRow_nil w base e 1

theorem Own.ext (h : Own k e w base A c xs) (hb : Ext w w') : Own k e w' base A c xs := by
  refine World.ownsRow.kept (row := none) h ⟨hb.os, hb.tape, hb.output, hb.size, fun i hi _ => hb.block i hi⟩ ?_
  cases hv : (Value.slice A xs.length c).ownBlock <;> simp

theorem Own.mono (h : Own k e w base A c xs) {base' : Nat} (hb : base' ≤ base) : Own k e w base' A c xs := by
  refine ⟨h.1, ?_⟩
  rcases h.2 with hn | ⟨g, cap, cur, hv, hg, r⟩
  · exact Or.inl hn
  · exact Or.inr ⟨g, cap, cur, hv, Nat.le_trans hb hg, r⟩

/-- Where the row lies. -/
theorem Own.block (h : Own k e w base A c xs) : ∀ a, A = some a → base ≤ a.block ∧ a.block < w.heap.size := by
  rintro a rfl
  exact h.lt a.block rfl

/-- An empty row that the call has just made. -/
theorem Own.made (k : IntKind) (e : TypeId) (w : World) (hb : base ≤ w.heap.size) : Own k e (w.alloc (.cells #[] e)) base (some ⟨w.heap.size, 0, none⟩) 0 [] :=
  World.ownsRow_made w #[] 0 hb (by simp [maxLen]) (by simp)
end

/-- 'append(out, x)', x one number that the walk has just laid in a block of its own. -/
theorem wpList_push {P : Program} {w0 w : World} {ops : Array Oper} {rest : List Oper} {o : Oper} {a : Act} {Q : Exit → Act → World → Prop} (k : IntKind) (x : Nat) (e : TypeId) (hgd : o.guard = none) (s y : Operand) (t : TypeId)
    (ho : o.op = .call { callee := .builtin .append, args := #[s, y], argTypes := #[t, t] })
    (z : Value) (bytes : Nat) (ht : P.underlying t = some (.slice e)) (hi : (P.info? e).map (fun i => (i.zero, i.size, i.bytes)) = some (some z, 1, bytes)) (hzs : z.cells.size = 1)
    {base : Nat} {A : Option Addr} {c : Nat} {xs : List Nat} (hown : Own k e w base A c xs) (n : Nat) (hn : xs.length = n) (hs : a.eval s = .slice A n c)
    (hy : a.eval y = .slice (some ⟨w.heap.size, 0, none⟩) 1 1)
    {X : Int} (hX : X = (x : Int)) (hlen : ((n + 1) + (n + 1) / 4 + 192) * bytes ≤ 281474976710656) (hby : 0 < bytes) (hb : Below base w0 w) (hbase : base ≤ w.heap.size)
    (h : ∀ A' c' w', Own k e w' base A' c' (xs ++ [x]) → Below base w0 w' → base ≤ w'.heap.size → wpList P ops Q rest (a.put o.dst (.slice A' (n + 1) c')) w') :
    wpList P ops Q (o :: rest) a (w.alloc (.cells #[.int k X] e)) := by
  subst hX
  subst hn
  obtain ⟨i, hi0, hz, hsz, hbs⟩ := info_parts hi
  have hle : xs.length + 1 ≤ 281474976710656 := Nat.le_trans (Nat.le_trans (by omega) (Nat.le_mul_of_pos_right ((xs.length + 1) + (xs.length + 1) / 4 + 192) hby)) hlen
  refine wpList_append_own_wide _ hgd s y t ho base e i z 1 bytes ht hi0 hz hsz hbs hzs (by decide) _ xs.length (xs.map fun x : Nat => Value.int k (x : Int)) hs (hown.alloc _)
    ⟨w.heap.size, 0, none⟩ 1 1 [.int k (x : Int)] hy rfl ?_ ?_ (by unfold maxLen; omega) hlen (by simp; omega) ?_
  · intro j u hj
    match j, hj with
    | 0, hj => simp at hj; subst hj; simp [Addr.add]
  · intro u hu; simp at hu; subst hu; rfl
  · intro v' w' hown' hg _
    have hform : ∃ A' c', v' = .slice A' (xs.length + 1) c' := by
      rcases hown'.2 with ⟨_, h0⟩ | ⟨g, cap, cur, hv, _⟩
      · omega
      · exact ⟨_, _, hv⟩
    obtain ⟨A', c', rfl⟩ := hform
    have hb' : Below base w0 w' := Below.grown (Below.alloc hb hbase _) hg (by simp; omega) (fun g hg' => (hown.lt g hg').1)
    refine h A' c' w' ?_ hb' ?_
    · unfold Own
      simpa using hown'
    · have := hg.size
      simp at this
      omega

section
variable {k : IntKind} {e : TypeId} {w w' : World} {base c : Nat} {A : Option Addr} {xs : List Nat}

/-- A place of an owned row: its cell, that it may be written, and what the row is behind the store. -/
theorem Own.at_ (h : Own k e w base A c xs) {j : Nat} (hj : j < xs.length) :
    ∃ b, A = some ⟨b, 0, none⟩ ∧ base ≤ b ∧ b < w.heap.size ∧ w.cell? ⟨b, j, none⟩ = some (.int k ((xs.getD j 0 : Nat) : Int)) ∧ w.frozen? ⟨b, j, none⟩ = false ∧
      ∀ y : Nat, Own k e (w.setCell ⟨b, j, none⟩ (.int k (y : Int))) base A c (xs.set j y) ∧ w.grownBy (w.setCell ⟨b, j, none⟩ (.int k (y : Int))) (some b) := by
  have h0 := h
  rcases h.2 with ⟨_, hn⟩ | ⟨g, cap, cur, hv, hg, hh, _⟩
  · omega
  · injection hv with hA hl hc
    subst hA
    subst hc
    have hlt : g < w.heap.size := (Array.getElem?_eq_some_iff.1 hh).1
    refine ⟨g, rfl, hg, hlt, ?_, World.ownsRow.frozenAt h0 j, fun y => ?_⟩
    · rw [World.ownsRow.cellAt h0 j (by omega), List.getElem?_map, List.getElem?_eq_getElem hj]
      simp [hj]
    · obtain ⟨h1, h2⟩ := World.ownsRow.stored h0 j (.int k (y : Int))
      refine ⟨?_, h2⟩
      unfold Own
      rw [List.length_set, List.map_set]
      exact h1

/-- An owned row lies where its address says: at the head of its block. -/
theorem Own.head (h : Own k e w base A c xs) (hn : 0 < xs.length) : ∃ b, A = some ⟨b, 0, none⟩ := by
  obtain ⟨b, hb, _⟩ := h.at_ hn
  exact ⟨b, hb⟩

/-- What an owned row begins with reads so, too. -/
theorem Own.rd_take (h : Own k e w base A c xs) {n : Nat} (hn : n ≤ xs.length) : Rd k w A n (xs.take n) := by
  refine ⟨by rw [List.length_take]; omega, fun h0 => ?_⟩
  obtain ⟨b, o, hA, hlt, hc⟩ := h.rd.2 (by omega)
  refine ⟨b, o, hA, hlt, fun j hj => ?_⟩
  rw [hc j (by omega)]
  simp [List.getD, hj]

theorem Own.grown (h : Own k e w base A c xs) {row : Option Nat} (hg : w.grownBy w' row) (hne : ∀ a, A = some a → some a.block ≠ row) : Own k e w' base A c xs := by
  refine World.ownsRow.kept h hg ?_
  cases A with
  | none => exact Or.inl rfl
  | some a => exact Or.inr (hne a rfl)
end

/-- 'append(out, x)' as in wpList_push, and where the row then lies: in its own block still, or in a new one (then nothing that was there has turned). -/
theorem wpList_push2 {P : Program} {w : World} {ops : Array Oper} {rest : List Oper} {o : Oper} {a : Act} {Q : Exit → Act → World → Prop} (k : IntKind) (x : Nat) (e : TypeId) (hgd : o.guard = none) (s y : Operand) (t : TypeId)
    (ho : o.op = .call { callee := .builtin .append, args := #[s, y], argTypes := #[t, t] })
    (z : Value) (bytes : Nat) (ht : P.underlying t = some (.slice e)) (hi : (P.info? e).map (fun i => (i.zero, i.size, i.bytes)) = some (some z, 1, bytes)) (hzs : z.cells.size = 1)
    {base : Nat} {A : Option Addr} {c : Nat} {xs : List Nat} (hown : Own k e w base A c xs) (n : Nat) (hn : xs.length = n) (hs : a.eval s = .slice A n c)
    (hy : a.eval y = .slice (some ⟨w.heap.size, 0, none⟩) 1 1)
    {X : Int} (hX : X = (x : Int)) (hlen : ((n + 1) + (n + 1) / 4 + 192) * bytes ≤ 281474976710656) (hby : 0 < bytes) (hbase : base ≤ w.heap.size)
    (h : ∀ A' c' w', Own k e w' base A' c' (xs ++ [x]) → (A' = A ∧ w.grownBy w' (A.map (·.block)) ∨ Ext w w' ∧ ∀ q, A' = some q → w.heap.size ≤ q.block) → base ≤ w'.heap.size → wpList P ops Q rest (a.put o.dst (.slice A' (n + 1) c')) w') :
    wpList P ops Q (o :: rest) a (w.alloc (.cells #[.int k X] e)) := by
  subst hX
  subst hn
  obtain ⟨i, hi0, hz, hsz, hbs⟩ := info_parts hi
  have hle : xs.length + 1 ≤ 281474976710656 := Nat.le_trans (Nat.le_trans (by omega) (Nat.le_mul_of_pos_right ((xs.length + 1) + (xs.length + 1) / 4 + 192) hby)) hlen
  refine wpList_plain hgd fun _ hK => ?_
  generalize hW : w.alloc (.cells #[.int k (x : Int)] e) = W
  have hWs : W.heap.size = w.heap.size + 1 := by subst hW; simp
  have hWx : Ext w W := by subst hW; exact (Ext.refl w).alloc _
  have hcell : ∀ j u, [Value.int k (x : Int)][j]? = some u → W.cell? ((⟨w.heap.size, 0, none⟩ : Addr).add j) = some u := by
    subst hW
    intro j u hj
    match j, hj with
    | 0, hj => simp at hj; subst hj; simp [Addr.add]
  have h1 : ∀ u ∈ [Value.int k (x : Int)], u.oneCell' = true := by intro u hu; simp at hu; subst hu; rfl
  have hlen2 : (xs ++ [x]).length = xs.length + 1 := by simp
  have hmap : (xs ++ [x]).map (fun x : Nat => Value.int k (x : Int)) = (xs.map fun x : Nat => Value.int k (x : Int)) ++ [.int k (x : Int)] := by simp
  have hal : Own k e W base A c xs := hown.ext hWx
  suffices hrun : ∃ A' c' w', (Builtin.append_ #[t, t] o.type #[.slice A xs.length c, .slice (some ⟨w.heap.size, 0, none⟩) 1 1]).run P W = .ok (.slice A' (xs.length + 1) c') w' ∧
      Own k e w' base A' c' (xs ++ [x]) ∧ (A' = A ∧ w.grownBy w' (A.map (·.block)) ∨ Ext w w' ∧ ∀ q, A' = some q → w.heap.size ≤ q.block) ∧ base ≤ w'.heap.size by
    obtain ⟨A', c', w', hr, h2, h3, h4⟩ := hrun
    unfold Oper.wp execOp
    simp only [ho, resolve, invoke, builtin, Sem.run_bind, Sem.run_pure, Result.andThen_ok, List.map_toArray, List.map_cons, List.map_nil, hs, hy, hr]
    exact hK _ _ (h A' c' w' h2 h3 h4)
  have hnew : ∀ (cap : Nat) (cur : Array Value), xs.length + 1 ≤ cap → cap ≤ maxLen → cur.size = cap * 1 → cur.toList.take (xs.length + 1) = (xs ++ [x]).map (fun x : Nat => Value.int k (x : Int)) →
      Own k e (W.drew.alloc (.cells cur e)) base (some ⟨W.heap.size, 0, none⟩) cap (xs ++ [x]) ∧ Ext w (W.drew.alloc (.cells cur e)) := by
    intro cap cur hc hm hcs ht
    refine ⟨⟨by simp, .inr ⟨W.heap.size, cap, cur, by rw [hlen2], by omega, heap_alloc_new W.drew _, by rw [hlen2]; exact hc, hm, hcs, by rw [hlen2, Nat.mul_one]; exact ht⟩⟩, hWx.drew.alloc _⟩
  rcases hal.2 with ⟨hv, h0⟩ | ⟨g, cap, cur, hv, hbg, hh, hnc, hcm, hcs, htake⟩
  · injection hv with hA hl hc
    subst hA
    subst hc
    have hx0 : xs = [] := List.eq_nil_of_length_eq_zero h0
    subst hx0
    have hr := run_append_nil (P := P) W t o.type e i z ht hi0 hz ⟨w.heap.size, 0, none⟩ 1 1 [.int k (x : Int)] (by simp [hsz]) hcell (by omega) (by omega) (by rw [hbs]; simp at hlen; omega)
    have hge := grownCap_ge W 1 0 e
    obtain ⟨ho1, he1⟩ := hnew (grownCap W 1 0 e) ([.int k (x : Int)].toArray ++ Builtin.zeroCells z.cells (grownCap W 1 0 e - 1)) (by simpa using hge) (grownCap_le_maxLen W 1 0 e (by simp [maxLen])) (by simp only [Array.size_append, List.size_toArray, size_zeroCells, hzs, List.length_singleton]; omega) (by simp)
    exact ⟨_, _, _, by simpa using hr, ho1, .inr ⟨he1, fun q hq => by injection hq with hq; subst hq; simp; omega⟩, Nat.le_trans hbase he1.size⟩
  · injection hv with hA hl hc
    subst hA
    subst hc
    by_cases hroom : xs.length + 1 ≤ c
    · have hr := run_append_room (P := P) W t o.type e i ht hi0 g xs.length c cur hh ⟨w.heap.size, 0, none⟩ 1 1 [.int k (x : Int)] (by simp [hsz]) hcell h1 hroom (by rw [hsz, hcs]; simp; omega)
      have hgw : g ≠ w.heap.size := by
        rintro rfl
        have := (hown.block _ rfl).2
        simp at this
      refine ⟨_, _, _, hr, ⟨by simp, .inr ⟨g, c, _, by rw [hlen2], hbg, setRow_heap W g cur _ e _ hh, by rw [hlen2]; exact hroom, hcm, ?_, ?_⟩⟩, .inl ⟨rfl, ?_⟩, ?_⟩
      · simp only [List.size_toArray, List.length_append, List.length_take, List.length_drop, Array.length_toList, hsz, List.length_singleton]
        omega
      · rw [hlen2, hsz, hmap, htake, Nat.mul_one]
        have : (xs.map (fun x : Nat => Value.int k (x : Int)) ++ [Value.int k (x : Int)]).length = xs.length + 1 := by simp
        rw [← this]
        exact List.take_left
      · exact ⟨hWx.os, hWx.tape, hWx.output, (by have := hWx.size; simpa using this), fun j hj hne => (setRow_other W g j _ (fun e => hne (by simp [e]))).trans (hWx.block j hj)⟩
      · have := hWx.size; simp; omega
    · have holds : ∀ j u, (xs.map fun x : Nat => Value.int k (x : Int))[j]? = some u → W.cell? ((⟨g, 0, none⟩ : Addr).add j) = some u := World.ownsRow.cells hal (g := g) rfl
      have hr := run_append_grow (P := P) W t o.type e i z ht hi0 hz ⟨g, 0, none⟩ xs.length c _ (by rw [hsz]; simp) holds ⟨w.heap.size, 0, none⟩ 1 1 [.int k (x : Int)] (by simp [hsz]) hcell (by omega) (by omega) (growslice_fits_wide (by omega) (by rw [hbs]; exact hlen))
      have hge := grownCap_ge W (xs.length + 1) c e
      obtain ⟨ho1, he1⟩ := hnew (grownCap W (xs.length + 1) c e) ((xs.map fun x : Nat => Value.int k (x : Int)).toArray ++ [.int k (x : Int)].toArray ++ Builtin.zeroCells z.cells (grownCap W (xs.length + 1) c e - (xs.length + 1))) hge (grownCap_le_maxLen W _ _ e (by unfold maxLen; omega)) (by simp only [Array.size_append, List.size_toArray, size_zeroCells, hzs, List.length_singleton, List.length_map]; omega) (by
          simp only [Array.toList_append, List.append_assoc]
          rw [← List.append_assoc, ← hmap, ← hlen2, show (xs ++ [x]).length = ((xs ++ [x]).map fun x : Nat => Value.int k (x : Int)).length from by simp]
          exact List.take_left)
      exact ⟨_, _, _, hr, ho1, .inr ⟨he1, fun q hq => by injection hq with hq; subst hq; simp; omega⟩, Nat.le_trans hbase he1.size⟩

/-- 'make([]T, n)' of numbers: n zeros, the call's own. -/
theorem wpList_mk {P : Program} {w : World} {ops : Array Oper} {rest : List Oper} {o : Oper} {a : Act} {Q : Exit → Act → World → Prop} (k : IntKind) (e : TypeId) (hgd : o.guard = none) (l c : Operand) (t : TypeId)
    (hop : o.op = Op.makeSlice t l c) (bytes : Nat) (ht : P.underlying t = some (.slice e)) (hi : (P.info? e).map (fun i => (i.zero, i.size, i.bytes)) = some (some (.int k 0), 1, bytes))
    (kl kc : IntKind) {L C : Int} (n : Nat) (hl : a.eval l = .int kl L) (hc : a.eval c = .int kc C) (hL : L = (n : Int)) (hC : C = (n : Int)) (hb : bytes * n ≤ 281474976710656) (hn : n ≤ 9223372036854775807)
    (h : ∀ w', Own k e w' w.heap.size (some ⟨w.heap.size, 0, none⟩) n (List.replicate n 0) → Ext w w' → wpList P ops Q rest (a.put o.dst (.slice (some ⟨w.heap.size, 0, none⟩) n n)) w') :
    wpList P ops Q (o :: rest) a w := by
  obtain ⟨i, hi0, hz, hsz, hbs⟩ := info_parts hi
  refine wpList_make_full w hgd l c t hop w.heap.size e i (.int k 0) 1 ht hi0 hz hsz kl kc L C n hl hc hL hC (by rw [hbs]; exact hb) (by unfold maxLen; omega) (Nat.le_refl _) ?_
  intro w' h1 h2
  refine h w' ?_ ⟨h2.os, h2.tape, h2.output, h2.size, fun j hj => h2.block j hj (by simp)⟩
  unfold Own
  have e1 : (madeCells (Value.int k 0).cells (n * 1)).toList = List.replicate n (Value.int k 0) := by
    rw [Nat.mul_one]; exact toList_madeCells_one _ _
  rw [e1] at h1
  simpa using h1

/-- A slice that the call has just written out, in a block of its own. -/
theorem Rd.lit (k : IntKind) (e : TypeId) (w : World) (xs : List Nat) : Rd k (w.alloc (.cells (xs.map fun x : Nat => Value.int k (x : Int)).toArray e)) (some ⟨w.heap.size, 0, none⟩) xs.length xs := by
  refine ⟨rfl, fun hn => ⟨w.heap.size, 0, rfl, by simp, fun j hj => ?_⟩⟩
  rw [cell_of_row _ w.heap.size (0 + j) _ e (0, 0) (heap_alloc_new w _)]
  simp [hj]

theorem Rd.lit_at (k : IntKind) (e : TypeId) (w : World) (xs : List Nat) {b n : Nat} (hb : w.heap.size = b) (hn : xs.length = n) : Rd k (w.alloc (.cells (xs.map fun x : Nat => Value.int k (x : Int)).toArray e)) (some ⟨b, 0, none⟩) n xs := by
  subst hb
  subst hn
  exact Rd.lit k e w xs

/-- Where an owned row that is not empty lies, and its capacity. -/
theorem Own.form {k : IntKind} {e : TypeId} {w : World} {base c : Nat} {A : Option Addr} {xs : List Nat} (h : Own k e w base A c xs) (hn : 0 < xs.length) :
    ∃ b, A = some ⟨b, 0, none⟩ ∧ base ≤ b ∧ b < w.heap.size ∧ xs.length ≤ c ∧ c ≤ 9223372036854775807 := by
  rcases h.2 with ⟨_, h0⟩ | ⟨g, cap, cur, hv, hg, hh, hnc, hcm, _⟩
  · omega
  · injection hv with hA hl hc
    subst hA
    subst hc
    exact ⟨g, rfl, hg, (Array.getElem?_eq_some_iff.1 hh).1, hnc, by simpa [maxLen] using hcm⟩

/-- An owned row has room for what it holds. -/
theorem Own.cap {k : IntKind} {e : TypeId} {w : World} {base c : Nat} {A : Option Addr} {xs : List Nat} (h : Own k e w base A c xs) : xs.length ≤ c ∧ c ≤ 9223372036854775807 := by
  rcases h.2 with ⟨hv, h0⟩ | ⟨g, cap, cur, hv, hg, hh, hnc, hcm, _⟩
  · injection hv with hA hl hc
    omega
  · injection hv with hA hl hc
    subst hc
    exact ⟨hnc, by simpa [maxLen] using hcm⟩

end Go.Proofs.Ytjckfbpdnpehcaa
