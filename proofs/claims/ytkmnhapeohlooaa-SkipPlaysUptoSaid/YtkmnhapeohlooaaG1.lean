import Derived.WalkKit
import Derived.Deep.QuietTactic
import Derived.BigQuiet
import Derived.Deep.Draws
import Derived.Lib.Hide
import Derived.Maps.AppendAt
import Derived.Deep.DeepAppendWide
import Derived.Test.YtkmnhapeohlooaaProg
import Derived.ProofKit
import Derived.OpenShut
import Derived.ShutString
import Derived.ChangeOld
import Derived.Below
import Derived.SizedLaws

/-
  Words for memory that all our walks share: a slice that reads as a list of natural numbers of one kind (nil let in); a row of the call's own; a world that only adds to another.
-/
namespace Go.Proofs.Ytkmnhapeohlooaa
open Go.RowKit

/-- w' has all that w had, as it was; it may have more. -/
def Ext (w w' : World) : Prop := Below w.heap.size w w'

theorem Ext.below {a b : World} (h : Ext a b) : Below a.heap.size a b := h
theorem Ext.refl (w : World) : Ext w w := Below.refl _ _
theorem Ext.trans {a b c : World} (h : Ext a b) (k : Ext b c) : Ext a c := Below.trans h (Below.mono k h.size)
theorem Ext.size {a b : World} (h : Ext a b) : a.heap.size ≤ b.heap.size := Below.size h
theorem Ext.drewN {a b : World} (h : Ext a b) (n : Nat) : Ext a (b.drewN n) := ⟨h.os, h.tape, h.output, (have hs := Below.size h.below; hs), h.block⟩
theorem Ext.drew {a b : World} (h : Ext a b) : Ext a b.drew := ⟨h.os, h.tape, h.output, (have hs := Below.size h.below; hs), h.block⟩
theorem Ext.alloc {a b : World} (h : Ext a b) (o : Obj) : Ext a (b.alloc o) := Below.alloc h (Below.size h) o
theorem Ext.of_drewN (w : World) (n : Nat) : Ext w (w.drewN n) := (Ext.refl w).drewN n
theorem Ext.setCell {a b : World} (h : Ext a b) {p : Addr} (hp : a.heap.size ≤ p.block) (u : Value) : Ext a (b.setCell p u) := Below.setCell h hp u

/-- The slice with address A and length n reads, in world w, as the natural numbers xs of kind k. -/
def Rd (k : IntKind) (w : World) (A : Option Addr) (n : Nat) (xs : List Nat) : Prop :=
  xs.length = n ∧ (0 < n → ∃ b o, A = some ⟨b, o, none⟩ ∧ b < w.heap.size ∧ ∀ j, j < n → w.cell? ⟨b, o + j, none⟩ = some (.int k ((xs.getD j 0 : Nat) : Int)))

section
variable {k : IntKind} {w w' : World} {n : Nat} {A : Option Addr} {xs : List Nat}

theorem Rd.len (h : Rd k w A n xs) : xs.length = n := h.1

theorem Rd.nil (k : IntKind) (w : World) (A : Option Addr) : Rd k w A 0 [] := ⟨rfl, fun h => absurd h (by omega)⟩

theorem Rd.at_ (h : Rd k w A n xs) {j : Nat} (hj : j < n) : ∃ b o, A = some ⟨b, o, none⟩ ∧ b < w.heap.size ∧ w.cell? ⟨b, o + j, none⟩ = some (.int k ((xs.getD j 0 : Nat) : Int)) := by
  obtain ⟨b, o, e, hb, hc⟩ := h.2 (by omega)
  exact ⟨b, o, e, hb, hc j hj⟩

theorem Rd.ext (h : Rd k w A n xs) (hb : Ext w w') : Rd k w' A n xs :=
  ⟨h.1, fun hn => by
    obtain ⟨b, o, e, hlt, hc⟩ := h.2 hn
    exact ⟨b, o, e, Nat.lt_of_lt_of_le hlt hb.size, fun j hj => (Below.cell hb (p := ⟨b, o + j, none⟩) hlt).trans (hc j hj)⟩⟩
theorem Rd.drewN (h : Rd k w A n xs) (q : Nat) : Rd k (w.drewN q) A n xs := h

theorem Rd.grown (h : Rd k w A n xs) {row : Option Nat} (hg : w.grownBy w' row) (hne : ∀ a, A = some a → some a.block ≠ row) : Rd k w' A n xs :=
  ⟨h.1, fun hn => by
    obtain ⟨b, o, e, hlt, hc⟩ := h.2 hn
    exact ⟨b, o, e, Nat.lt_of_lt_of_le hlt hg.size, fun j hj => (World.cell?_of_block (w := w) (a := ⟨b, o + j, none⟩) (hg.block b hlt (hne _ e))).trans (hc j hj)⟩⟩
end

/-- The slice (A, length of xs, capacity c) is a row of the call's own, from block base on: it reads as xs, and it may be written and appended to. -/
def Own (k : IntKind) (e : TypeId) (w : World) (base : Nat) (A : Option Addr) (c : Nat) (xs : List Nat) : Prop :=
  w.ownsRow base e 1 (.slice A xs.length c) xs.length (xs.map fun x : Nat => Value.int k (x : Int))

section
variable {k : IntKind} {e : TypeId} {w w' : World} {base c : Nat} {A : Option Addr} {xs : List Nat}

theorem Own.rd (h : Own k e w base A c xs) : Rd k w A xs.length xs := by
  refine ⟨rfl, fun hn => ?_⟩
  obtain ⟨_, h2⟩ := h
  rcases h2 with ⟨_, h0⟩ | ⟨g, cap, cur, hv, hg, hh, hnc, hcm, hcs, htake⟩
  · omega
  · injection hv with hA hl hc
    subst hA
    have hlt : g < w.heap.size := (Array.getElem?_eq_some_iff.1 hh).1
    refine ⟨g, 0, rfl, hlt, fun j hj => ?_⟩
    rw [cell_of_row w g (0 + j) cur e (0, 0) hh]
    have hu : cur.toList[j]? = some (.int k ((xs.getD j 0 : Nat) : Int)) := by
      have h3 : (cur.toList.take (xs.length * 1))[j]? = some (Value.int k ((xs.getD j 0 : Nat) : Int)) := by
        rw [htake, List.getElem?_map, List.getElem?_eq_getElem hj]
        simp [hj]
      rw [List.getElem?_take] at h3
      split at h3
      · exact h3
      · cases h3
    simpa using hu

theorem Own.rd' (h : Own k e w base A c xs) {n : Nat} (hn : xs.length = n) : Rd k w A n xs := hn ▸ h.rd

theorem Own.nil (k : IntKind) (e : TypeId) (w : World) (base : Nat) : Own k e w base none 0 [] := World.ownsRow_nil w base e 1

theorem Own.ext (h : Own k e w base A c xs) (hb : Ext w w') : Own k e w' base A c xs := by
  refine World.ownsRow.kept (row := none) h ⟨hb.os, hb.tape, hb.output, hb.size, fun i hi _ => hb.block i hi⟩ ?_
  cases hv : (Value.slice A xs.length c).ownBlock <;> simp

theorem Own.mono (h : Own k e w base A c xs) {base' : Nat} (hb : base' ≤ base) : Own k e w base' A c xs := by
  refine ⟨h.1, ?_⟩
  rcases h.2 with hn | ⟨g, cap, cur, hv, hg, r⟩
  · exact Or.inl hn
  · exact Or.inr ⟨g, cap, cur, hv, Nat.le_trans hb hg, r⟩

/-- Where the row lies. -/
theorem Own.block (h : Own k e w base A c xs) : ∀ a, A = some a → base ≤ a.block ∧ a.block < w.heap.size := by
  rintro a rfl
  exact h.lt a.block rfl

/-- An empty row that the call has just made. -/
theorem Own.made (k : IntKind) (e : TypeId) (w : World) (hb : base ≤ w.heap.size) : Own k e (w.alloc (.cells #[] e)) base (some ⟨w.heap.size, 0, none⟩) 0 [] :=
  World.ownsRow_made w #[] 0 hb (by simp [maxLen]) (by simp)
end

/-- 'append(out, x)', x one number that the walk has just laid in a block of its own. -/
theorem wpList_push {P : Program} {w0 w : World} {ops : Array Oper} {rest : List Oper} {o : Oper} {a : Act} {Q : Exit → Act → World → Prop} (k : IntKind) (x : Nat) (e : TypeId) (hgd : o.guard = none) (s y : Operand) (t : TypeId)
    (ho : o.op = .call { callee := .builtin .append, args := #[s, y], argTypes := #[t, t] })
    (z : Value) (bytes : Nat) (ht : P.underlying t = some (.slice e)) (hi : (P.info? e).map (fun i => (i.zero, i.size, i.bytes)) = some (some z, 1, bytes)) (hzs : z.cells.size = 1)
    {base : Nat} {A : Option Addr} {c : Nat} {xs : List Nat} (hown : Own k e w base A c xs) (n : Nat) (hn : xs.length = n) (hs : a.eval s = .slice A n c)
    (hy : a.eval y = .slice (some ⟨w.heap.size, 0, none⟩) 1 1)
    {X : Int} (hX : X = (x : Int)) (hlen : ((n + 1) + (n + 1) / 4 + 192) * bytes ≤ 281474976710656) (hby : 0 < bytes) (hb : Below base w0 w) (hbase : base ≤ w.heap.size)
    (h : ∀ A' c' w', Own k e w' base A' c' (xs ++ [x]) → Below base w0 w' → base ≤ w'.heap.size → wpList P ops Q rest (a.put o.dst (.slice A' (n + 1) c')) w') :
    wpList P ops Q (o :: rest) a (w.alloc (.cells #[.int k X] e)) := by
  subst hX
  subst hn
  obtain ⟨i, hi0, hz, hsz, hbs⟩ := info_parts hi
  have hle : xs.length + 1 ≤ 281474976710656 := Nat.le_trans (Nat.le_trans (by omega) (Nat.le_mul_of_pos_right ((xs.length + 1) + (xs.length + 1) / 4 + 192) hby)) hlen
  refine wpList_append_own_wide _ hgd s y t ho base e i z 1 bytes ht hi0 hz hsz hbs hzs (by decide) _ xs.length (xs.map fun x : Nat => Value.int k (x : Int)) hs (hown.alloc _)
    ⟨w.heap.size, 0, none⟩ 1 1 [.int k (x : Int)] hy rfl ?_ ?_ (by unfold maxLen; omega) hlen (by simp; omega) ?_
  · intro j u hj
    match j, hj with
    | 0, hj => simp at hj; subst hj; simp [Addr.add]
  · intro u hu; simp at hu; subst hu; rfl
  · intro v' w' hown' hg _
    have hform : ∃ A' c', v' = .slice A' (xs.length + 1) c' := by
      rcases hown'.2 with ⟨_, h0⟩ | ⟨g, cap, cur, hv, _⟩
      · omega
      · exact ⟨_, _, hv⟩
    obtain ⟨A', c', rfl⟩ := hform
    have hb' : Below base w0 w' := Below.grown (Below.alloc hb hbase _) hg (by simp; omega) (fun g hg' => (hown.lt g hg').1)
    refine h A' c' w' ?_ hb' ?_
    · unfold Own
      simpa using hown'
    · have := hg.size
      simp at this
      omega

section
variable {k : IntKind} {e : TypeId} {w w' : World} {base c : Nat} {A : Option Addr} {xs : List Nat}

/-- A place of an owned row: its cell, that it may be written, and what the row is behind the store. -/
theorem Own.at_ (h : Own k e w base A c xs) {j : Nat} (hj : j < xs.length) :
    ∃ b, A = some ⟨b, 0, none⟩ ∧ base ≤ b ∧ b < w.heap.size ∧ w.cell? ⟨b, j, none⟩ = some (.int k ((xs.getD j 0 : Nat) : Int)) ∧ w.frozen? ⟨b, j, none⟩ = false ∧
      ∀ y : Nat, Own k e (w.setCell ⟨b, j, none⟩ (.int k (y : Int))) base A c (xs.set j y) ∧ w.grownBy (w.setCell ⟨b, j, none⟩ (.int k (y : Int))) (some b) := by
  have h0 := h
  rcases h.2 with ⟨_, hn⟩ | ⟨g, cap, cur, hv, hg, hh, _⟩
  · omega
  · injection hv with hA hl hc
    subst hA
    subst hc
    have hlt : g < w.heap.size := (Array.getElem?_eq_some_iff.1 hh).1
    refine ⟨g, rfl, hg, hlt, ?_, World.ownsRow.frozenAt h0 j, fun y => ?_⟩
    · rw [World.ownsRow.cellAt h0 j (by omega), List.getElem?_map, List.getElem?_eq_getElem hj]
      simp [hj]
    · obtain ⟨h1, h2⟩ := World.ownsRow.stored h0 j (.int k (y : Int))
      refine ⟨?_, h2⟩
      unfold Own
      rw [List.length_set, List.map_set]
      exact h1

/-- An owned row lies where its address says: at the head of its block. -/
theorem Own.head (h : Own k e w base A c xs) (hn : 0 < xs.length) : ∃ b, A = some ⟨b, 0, none⟩ := by
  obtain ⟨b, hb, _⟩ := h.at_ hn
  exact ⟨b, hb⟩

/-- What an owned row begins with reads so, too. -/
theorem Own.rd_take (h : Own k e w base A c xs) {n : Nat} (hn : n ≤ xs.length) : Rd k w A n (xs.take n) := by
  refine ⟨by rw [List.length_take]; omega, fun h0 => ?_⟩
  obtain ⟨b, o, hA, hlt, hc⟩ := h.rd.2 (by omega)
  refine ⟨b, o, hA, hlt, fun j hj => ?_⟩
  rw [hc j (by omega)]
  simp [List.getD, hj]

theorem Own.grown (h : Own k e w base A c xs) {row : Option Nat} (hg : w.grownBy w' row) (hne : ∀ a, A = some a → some a.block ≠ row) : Own k e w' base A c xs := by
  refine World.ownsRow.kept h hg ?_
  cases A with
  | none => exact Or.inl rfl
  | some a => exact Or.inr (hne a rfl)
end

/-- 'append(out, x)' as in wpList_push, and where the row then lies: in its own block still, or in a new one (then nothing that was there has turned). -/
theorem wpList_push2 {P : Program} {w : World} {ops : Array Oper} {rest : List Oper} {o : Oper} {a : Act} {Q : Exit → Act → World → Prop} (k : IntKind) (x : Nat) (e : TypeId) (hgd : o.guard = none) (s y : Operand) (t : TypeId)
    (ho : o.op = .call { callee := .builtin .append, args := #[s, y], argTypes := #[t, t] })
    (z : Value) (bytes : Nat) (ht : P.underlying t = some (.slice e)) (hi : (P.info? e).map (fun i => (i.zero, i.size, i.bytes)) = some (some z, 1, bytes)) (hzs : z.cells.size = 1)
    {base : Nat} {A : Option Addr} {c : Nat} {xs : List Nat} (hown : Own k e w base A c xs) (n : Nat) (hn : xs.length = n) (hs : a.eval s = .slice A n c)
    (hy : a.eval y = .slice (some ⟨w.heap.size, 0, none⟩) 1 1)
    {X : Int} (hX : X = (x : Int)) (hlen : ((n + 1) + (n + 1) / 4 + 192) * bytes ≤ 281474976710656) (hby : 0 < bytes) (hbase : base ≤ w.heap.size)
    (h : ∀ A' c' w', Own k e w' base A' c' (xs ++ [x]) → (A' = A ∧ w.grownBy w' (A.map (·.block)) ∨ Ext w w' ∧ ∀ q, A' = some q → w.heap.size ≤ q.block) → base ≤ w'.heap.size → wpList P ops Q rest (a.put o.dst (.slice A' (n + 1) c')) w') :
    wpList P ops Q (o :: rest) a (w.alloc (.cells #[.int k X] e)) := by
  subst hX
  subst hn
  obtain ⟨i, hi0, hz, hsz, hbs⟩ := info_parts hi
  have hle : xs.length + 1 ≤ 281474976710656 := Nat.le_trans (Nat.le_trans (by omega) (Nat.le_mul_of_pos_right ((xs.length + 1) + (xs.length + 1) / 4 + 192) hby)) hlen
  refine wpList_plain hgd fun _ hK => ?_
  generalize hW : w.alloc (.cells #[.int k (x : Int)] e) = W
  have hWs : W.heap.size = w.heap.size + 1 := by subst hW; simp
  have hWx : Ext w W := by subst hW; exact (Ext.refl w).alloc _
  have hcell : ∀ j u, [Value.int k (x : Int)][j]? = some u → W.cell? ((⟨w.heap.size, 0, none⟩ : Addr).add j) = some u := by
    subst hW
    intro j u hj
    match j, hj with
    | 0, hj => simp at hj; subst hj; simp [Addr.add]
  have h1 : ∀ u ∈ [Value.int k (x : Int)], u.oneCell' = true := by intro u hu; simp at hu; subst hu; rfl
  have hlen2 : (xs ++ [x]).length = xs.length + 1 := by simp
  have hmap : (xs ++ [x]).map (fun x : Nat => Value.int k (x : Int)) = (xs.map fun x : Nat => Value.int k (x : Int)) ++ [.int k (x : Int)] := by simp
  have hal : Own k e W base A c xs := hown.ext hWx
  suffices hrun : ∃ A' c' w', (Builtin.append_ #[t, t] o.type #[.slice A xs.length c, .slice (some ⟨w.heap.size, 0, none⟩) 1 1]).run P W = .ok (.slice A' (xs.length + 1) c') w' ∧
      Own k e w' base A' c' (xs ++ [x]) ∧ (A' = A ∧ w.grownBy w' (A.map (·.block)) ∨ Ext w w' ∧ ∀ q, A' = some q → w.heap.size ≤ q.block) ∧ base ≤ w'.heap.size by
    obtain ⟨A', c', w', hr, h2, h3, h4⟩ := hrun
    unfold Oper.wp execOp
    simp only [ho, resolve, invoke, builtin, Sem.run_bind, Sem.run_pure, Result.andThen_ok, List.map_toArray, List.map_cons, List.map_nil, hs, hy, hr]
    exact hK _ _ (h A' c' w' h2 h3 h4)
  have hnew : ∀ (cap : Nat) (cur : Array Value), xs.length + 1 ≤ cap → cap ≤ maxLen → cur.size = cap * 1 → cur.toList.take (xs.length + 1) = (xs ++ [x]).map (fun x : Nat => Value.int k (x : Int)) →
      Own k e (W.drew.alloc (.cells cur e)) base (some ⟨W.heap.size, 0, none⟩) cap (xs ++ [x]) ∧ Ext w (W.drew.alloc (.cells cur e)) := by
    intro cap cur hc hm hcs ht
    refine ⟨⟨by simp, .inr ⟨W.heap.size, cap, cur, by rw [hlen2], by omega, heap_alloc_new W.drew _, by rw [hlen2]; exact hc, hm, hcs, by rw [hlen2, Nat.mul_one]; exact ht⟩⟩, hWx.drew.alloc _⟩
  rcases hal.2 with ⟨hv, h0⟩ | ⟨g, cap, cur, hv, hbg, hh, hnc, hcm, hcs, htake⟩
  · injection hv with hA hl hc
    subst hA
    subst hc
    have hx0 : xs = [] := List.eq_nil_of_length_eq_zero h0
    subst hx0
    have hr := run_append_nil (P := P) W t o.type e i z ht hi0 hz ⟨w.heap.size, 0, none⟩ 1 1 [.int k (x : Int)] (by simp [hsz]) hcell (by omega) (by omega) (by rw [hbs]; simp at hlen; omega)
    have hge := grownCap_ge W 1 0 e
    obtain ⟨ho1, he1⟩ := hnew (grownCap W 1 0 e) ([.int k (x : Int)].toArray ++ Builtin.zeroCells z.cells (grownCap W 1 0 e - 1)) (by simpa using hge) (grownCap_le_maxLen W 1 0 e (by simp [maxLen])) (by simp only [Array.size_append, List.size_toArray, size_zeroCells, hzs, List.length_singleton]; omega) (by simp)
    exact ⟨_, _, _, by simpa using hr, ho1, .inr ⟨he1, fun q hq => by injection hq with hq; subst hq; simp; omega⟩, Nat.le_trans hbase he1.size⟩
  · injection hv with hA hl hc
    subst hA
    subst hc
    by_cases hroom : xs.length + 1 ≤ c
    · have hr := run_append_room (P := P) W t o.type e i ht hi0 g xs.length c cur hh ⟨w.heap.size, 0, none⟩ 1 1 [.int k (x : Int)] (by simp [hsz]) hcell h1 hroom (by rw [hsz, hcs]; simp; omega)
      have hgw : g ≠ w.heap.size := by
        rintro rfl
        have := (hown.block _ rfl).2
        simp at this
      refine ⟨_, _, _, hr, ⟨by simp, .inr ⟨g, c, _, by rw [hlen2], hbg, setRow_heap W g cur _ e _ hh, by rw [hlen2]; exact hroom, hcm, ?_, ?_⟩⟩, .inl ⟨rfl, ?_⟩, ?_⟩
      · simp only [List.size_toArray, List.length_append, List.length_take, List.length_drop, Array.length_toList, hsz, List.length_singleton]
        omega
      · rw [hlen2, hsz, hmap, htake, Nat.mul_one]
        have : (xs.map (fun x : Nat => Value.int k (x : Int)) ++ [Value.int k (x : Int)]).length = xs.length + 1 := by simp
        rw [← this]
        exact List.take_left
      · exact ⟨hWx.os, hWx.tape, hWx.output, (by have := hWx.size; simpa using this), fun j hj hne => (setRow_other W g j _ (fun e => hne (by simp [e]))).trans (hWx.block j hj)⟩
      · have := hWx.size; simp; omega
    · have holds : ∀ j u, (xs.map fun x : Nat => Value.int k (x : Int))[j]? = some u → W.cell? ((⟨g, 0, none⟩ : Addr).add j) = some u := World.ownsRow.cells hal (g := g) rfl
      have hr := run_append_grow (P := P) W t o.type e i z ht hi0 hz ⟨g, 0, none⟩ xs.length c _ (by rw [hsz]; simp) holds ⟨w.heap.size, 0, none⟩ 1 1 [.int k (x : Int)] (by simp [hsz]) hcell (by omega) (by omega) (growslice_fits_wide (by omega) (by rw [hbs]; exact hlen))
      have hge := grownCap_ge W (xs.length + 1) c e
      obtain ⟨ho1, he1⟩ := hnew (grownCap W (xs.length + 1) c e) ((xs.map fun x : Nat => Value.int k (x : Int)).toArray ++ [.int k (x : Int)].toArray ++ Builtin.zeroCells z.cells (grownCap W (xs.length + 1) c e - (xs.length + 1))) hge (grownCap_le_maxLen W _ _ e (by unfold maxLen; omega)) (by simp only [Array.size_append, List.size_toArray, size_zeroCells, hzs, List.length_singleton, List.length_map]; omega) (by
          simp only [Array.toList_append, List.append_assoc]
          rw [← List.append_assoc, ← hmap, ← hlen2, show (xs ++ [x]).length = ((xs ++ [x]).map fun x : Nat => Value.int k (x : Int)).length from by simp]
          exact List.take_left)
      exact ⟨_, _, _, hr, ho1, .inr ⟨he1, fun q hq => by injection hq with hq; subst hq; simp; omega⟩, Nat.le_trans hbase he1.size⟩

/-- 'make([]T, n)' of numbers: n zeros, the call's own. -/
theorem wpList_mk {P : Program} {w : World} {ops : Array Oper} {rest : List Oper} {o : Oper} {a : Act} {Q : Exit → Act → World → Prop} (k : IntKind) (e : TypeId) (hgd : o.guard = none) (l c : Operand) (t : TypeId)
    (hop : o.op = Op.makeSlice t l c) (bytes : Nat) (ht : P.underlying t = some (.slice e)) (hi : (P.info? e).map (fun i => (i.zero, i.size, i.bytes)) = some (some (.int k 0), 1, bytes))
    (kl kc : IntKind) {L C : Int} (n : Nat) (hl : a.eval l = .int kl L) (hc : a.eval c = .int kc C) (hL : L = (n : Int)) (hC : C = (n : Int)) (hb : bytes * n ≤ 281474976710656) (hn : n ≤ 9223372036854775807)
    (h : ∀ w', Own k e w' w.heap.size (some ⟨w.heap.size, 0, none⟩) n (List.replicate n 0) → Ext w w' → wpList P ops Q rest (a.put o.dst (.slice (some ⟨w.heap.size, 0, none⟩) n n)) w') :
    wpList P ops Q (o :: rest) a w := by
  obtain ⟨i, hi0, hz, hsz, hbs⟩ := info_parts hi
  refine wpList_make_full w hgd l c t hop w.heap.size e i (.int k 0) 1 ht hi0 hz hsz kl kc L C n hl hc hL hC (by rw [hbs]; exact hb) (by unfold maxLen; omega) (Nat.le_refl _) ?_
  intro w' h1 h2
  refine h w' ?_ ⟨h2.os, h2.tape, h2.output, h2.size, fun j hj => h2.block j hj (by simp)⟩
  unfold Own
  have e1 : (madeCells (Value.int k 0).cells (n * 1)).toList = List.replicate n (Value.int k 0) := by
    rw [Nat.mul_one]; exact toList_madeCells_one _ _
  rw [e1] at h1
  simpa using h1

/-- A slice that the call has just written out, in a block of its own. -/
theorem Rd.lit (k : IntKind) (e : TypeId) (w : World) (xs : List Nat) : Rd k (w.alloc (.cells (xs.map fun x : Nat => Value.int k (x : Int)).toArray e)) (some ⟨w.heap.size, 0, none⟩) xs.length xs := by
  refine ⟨rfl, fun hn => ⟨w.heap.size, 0, rfl, by simp, fun j hj => ?_⟩⟩
  rw [cell_of_row _ w.heap.size (0 + j) _ e (0, 0) (heap_alloc_new w _)]
  simp [hj]

theorem Rd.lit_at (k : IntKind) (e : TypeId) (w : World) (xs : List Nat) {b n : Nat} (hb : w.heap.size = b) (hn : xs.length = n) : Rd k (w.alloc (.cells (xs.map fun x : Nat => Value.int k (x : Int)).toArray e)) (some ⟨b, 0, none⟩) n xs := by
  subst hb
  subst hn
  exact Rd.lit k e w xs

/-- Where an owned row that is not empty lies, and its capacity. -/
theorem Own.form {k : IntKind} {e : TypeId} {w : World} {base c : Nat} {A : Option Addr} {xs : List Nat} (h : Own k e w base A c xs) (hn : 0 < xs.length) :
    ∃ b, A = some ⟨b, 0, none⟩ ∧ base ≤ b ∧ b < w.heap.size ∧ xs.length ≤ c ∧ c ≤ 9223372036854775807 := by
  rcases h.2 with ⟨_, h0⟩ | ⟨g, cap, cur, hv, hg, hh, hnc, hcm, _⟩
  · omega
  · injection hv with hA hl hc
    subst hA
    subst hc
    exact ⟨g, rfl, hg, (Array.getElem?_eq_some_iff.1 hh).1, hnc, by simpa [maxLen] using hcm⟩

/-- An owned row has room for what it holds. -/
theorem Own.cap {k : IntKind} {e : TypeId} {w : World} {base c : Nat} {A : Option Addr} {xs : List Nat} (h : Own k e w base A c xs) : xs.length ≤ c ∧ c ≤ 9223372036854775807 := by
  rcases h.2 with ⟨hv, h0⟩ | ⟨g, cap, cur, hv, hg, hh, hnc, hcm, _⟩
  · injection hv with hA hl hc
    omega
  · injection hv with hA hl hc
    subst hc
    exact ⟨hnc, by simpa [maxLen] using hcm⟩

end Go.Proofs.Ytkmnhapeohlooaa

/-
  From the row's reading of an argument to the words of our walks: a slice of unsigned numbers reads as a list of natural numbers, and takes at most the form's own reach.
-/
namespace Go.Proofs.Ytkmnhapeohlooaa
open Go.ChangeShapes Go.WideShapes Go.ChangeAt Go.RowKit
open Go.ChangeMaps (open_string shut_string)

theorem Try.own : ownKnob Try.prog.godebug = none := by kernel_rfl
theorem Try.laidOut : laidOutB Try.prog = true := by kernel_rfl

theorem wf_u8 {n : Int} (h : (Lit.int .u8 n).wf = true) : 0 ≤ n ∧ n < 256 := by
  simp [Lit.wf, IntKind.min, IntKind.max, IntKind.bits, IntKind.signed] at h; omega
theorem wf_u64 {n : Int} (h : (Lit.int .u64 n).wf = true) : 0 ≤ n ∧ n < 18446744073709551616 := by
  simp [Lit.wf, IntKind.min, IntKind.max, IntKind.bits, IntKind.signed] at h; omega
theorem wf_u32 {n : Int} (h : (Lit.int .u32 n).wf = true) : 0 ≤ n ∧ n < 4294967296 := by
  simp [Lit.wf, IntKind.min, IntKind.max, IntKind.bits, IntKind.signed] at h; omega
theorem wf_i64 {n : Int} (h : (Lit.int .i64 n).wf = true) : -9223372036854775808 ≤ n ∧ n ≤ 9223372036854775807 := by
  simp [Lit.wf, IntKind.min, IntKind.max, IntKind.bits, IntKind.signed] at h; omega

theorem open_nums {H : Type} {enc : TypeId × Value → H} {P : Program} {W : World} {k : IntKind} {t e : TypeId} {M : Int} {a : Option Addr} {len cap bytes : Nat} {d : DataW H} {p : List MemPlace}
    (ht : P.underlying t = some (.slice e)) (he : P.underlying e = some (.int k)) (hc : P.cellsOf e = 1) (hby : P.bytesOf e = bytes) (hM : ∀ n : Int, (Lit.int k n).wf = true → 0 ≤ n ∧ n < M)
    (h : DataW.Trod enc P W 0 (fun _ => true) true t (.slice a len cap) d p)
    {ts : List TypeId} {ds : List (DataW H)} (hsz : (DataW.weightsEach P ts ds).all (· ≤ reachBytes) = true) (j : Nat) (htj : ts[j]? = some t) (hdj : ds[j]? = some d) :
    ∃ xs : List Nat, Rd k W a len xs ∧ (∀ v ∈ xs, (v : Int) < M) ∧ len * bytes ≤ 140737488351232 ∧ (len = 0 ∨ ∃ elems spare, d = .slice elems spare ∧ elems.length = len) := by
  obtain ⟨fuel, hf⟩ := h
  rcases open_ints ht he hc hf with ⟨hcs, hx⟩ | ⟨x, l, c, zs, hcs, _, hl, hm, hz, hx, hcell, hwz⟩
  · simp [Value.cells] at hcs
    obtain ⟨rfl, rfl, rfl⟩ := hcs
    exact ⟨[], Rd.nil .., (by intro v hv; cases hv), by omega, .inl rfl⟩
  · simp [Value.cells] at hcs
    obtain ⟨rfl, rfl, rfl⟩ := hcs
    simp only [Prod.mk.injEq] at hx
    obtain ⟨rfl, _⟩ := hx
    have hzl : zs.length = cap := by simpa using hz
    have hr := sized_slice hsz (j := j) (t := t) (e := e) htj hdj ht
    rw [hby] at hr
    simp only [lits, List.length_map, List.length_take, List.length_drop, reachBytes] at hr
    have hr2 : len * bytes ≤ cap * bytes := Nat.mul_le_mul_right _ hl
    have hw : ∀ i, i < len → 0 ≤ zs.getD i 0 ∧ zs.getD i 0 < M := by
      intro i hi
      have hlt : i < zs.length := by omega
      have := hM _ (hwz _ (List.getElem_mem hlt))
      simpa [List.getD, hlt] using this
    refine ⟨(zs.take len).map Int.toNat, ⟨by rw [List.length_map, List.length_take]; omega, fun hn => ?_⟩, ?_, ?_, .inr ⟨_, _, rfl, by simp [lits]; omega⟩⟩
    · have hc0 := hcell 0 (by omega)
      obtain ⟨b, o, spot⟩ := x
      have hspot : spot = none := by simpa [Addr.add] using World.cell?_spot hc0
      subst hspot
      refine ⟨b, o, rfl, ?_, fun i hi => ?_⟩
      · have hb := World.block_lt_of_cell? W _ hc0
        simpa [Addr.add] using hb
      · have h1 := hcell i (by omega)
        rw [add_plain] at h1
        rw [h1]
        have h2 := (hw i hi).1
        have hlt : i < zs.length := by omega
        have h3 : (((zs.take len).map Int.toNat).getD i 0 : Nat) = (zs.getD i 0).toNat := by simp [List.getD, hi, hlt]
        rw [h3, Int.toNat_of_nonneg h2]
    · intro v hv
      obtain ⟨n, hn, rfl⟩ := List.mem_map.1 hv
      have := hM _ (hwz _ (List.mem_of_mem_take hn))
      omega
    · have : min len zs.length + (zs.length - len) = cap := by omega
      rw [this] at hr
      omega

end Go.Proofs.Ytkmnhapeohlooaa

namespace Go.Proofs.Ytkmnhapeohlooaa
open Go.RowKit

theorem Try.infoU8 : (Try.prog.info? 5).map (fun i => (i.zero, i.size, i.bytes)) = some (some (.int .u8 0), 1, 1) := by kernel_rfl

/-- 2 to the k, closed to simp. -/
def pw (k : Nat) : Nat := 2 ^ k
theorem pw_zero : pw 0 = 1 := rfl
theorem pw_succ (k : Nat) : pw (k + 1) = pw k * 2 := Nat.pow_succ ..
theorem pw_le {j k : Nat} (h : j ≤ k) : pw j ≤ pw k := Nat.pow_le_pow_right (by omega) h
theorem pw_63 : pw 63 = 9223372036854775808 := by decide
theorem pw_pos (k : Nat) : 0 < pw k := Nat.pow_pos (by omega)

theorem take_next (xs : List Nat) (j : Nat) (h : j < xs.length) : xs.take (j + 1) = xs.take j ++ [xs.getD j 0] := by
  rw [List.take_succ_eq_append_getElem h]; simp [List.getD, h]

set_option maxHeartbeats 400000 in
theorem copy_any (A : Option Addr) (n c : Nat) (xs : List Nat) (w : World) (hx : Rd .u8 w A n xs) (hn : n ≤ 140737488355328) :
    Calls Try.prog 45 #[.slice A n c] w fun e w' => ∃ A' c', e = .returned (.slice A' n c') ∧ Own .u8 5 w' w.heap.size A' c' xs ∧ Ext w w' := by
  have hl := hx.len
  go_enter Try.func45, Try.ntmps45
  go_wp2
  go_loopw [3, 4] (fun v i wr => ∃ (j : Nat) (A' : Option Addr) (c' : Nat), j ≤ n ∧ i = .int .i64 j ∧ v = .slice A' j c' ∧ Own .u8 5 wr w.heap.size A' c' (xs.take j) ∧ Below w.heap.size w wr) (fun _ i _ => n - (intOf i).toNat)
  case atStart => exact ⟨0, _, _, Nat.zero_le _, rfl, rfl, Own.made _ _ _ (Nat.le_refl _), (Ext.refl w).alloc _⟩
  case round =>
    obtain ⟨j, A', c', hj, rfl, rfl, hown, hb⟩ := hrel
    have hz := hb.size
    by_cases hlt : j < n
    · obtain ⟨b, o, rfl, hbl, hc⟩ := (hx.ext hb).at_ hlt
      have htl : (xs.take j).length = j := by rw [List.length_take]; omega
      have Htl := Lib.hid htl
      have Hl := Lib.hid hl
      clear htl hl
      go_wp2_with (at_builtin; refine wpList_push .u8 (xs.getD j 0) 5 rfl _ _ 52 rfl _ 1 Try.underlying52 Try.infoU8 rfl hown j Htl.out rfl rfl rfl (by omega) (by omega) hb hz ?_; intro A1 c1 w1 hown1 hb1 hz1)
      go_roundw
      case rel => exact ⟨j + 1, A1, c1, by omega, by go_num, rfl, by rw [take_next _ _ (by have := Hl.out; omega)]; exact hown1, hb1⟩
      case measure => simp [intOf]; omega
    · obtain rfl : j = n := by omega
      go_wp2
      go_ret
      rw [List.take_of_length_le (by omega)] at hown
      exact ⟨_, _, rfl, hown, hb⟩

/-- Two lists of one length are equal just where all their places are. -/
theorem eq_of_getD {xs ys : List Nat} (hl : xs.length = ys.length) (h : ∀ j, j < xs.length → xs.getD j 0 = ys.getD j 0) : xs = ys := by
  apply List.ext_getElem hl
  intro j h1 h2
  have := h j h1
  simpa [List.getD, h1, h2] using this

set_option maxHeartbeats 400000 in
theorem same_any (A A' : Option Addr) (n c n' c' : Nat) (xs ys : List Nat) (w : World) (hx : Rd .u8 w A n xs) (hy : Rd .u8 w A' n' ys) (hn : n ≤ 281474976710656) (hn' : n' ≤ 281474976710656) :
    Calls Try.prog 43 #[.slice A n c, .slice A' n' c'] w fun e w' => e = .returned (.bool (decide (xs = ys))) ∧ ∃ q, w' = w.drewN q := by
  have hl := hx.len
  have hl' := hy.len
  have Hl := Lib.hid hl
  have Hl' := Lib.hid hl'
  clear hl hl'
  by_cases hd : n = n'
  · subst hd
    go_enter Try.func43, Try.ntmps43
    go_wp2
    go_loopw [5] (fun i wr => ∃ j q : Nat, j ≤ n ∧ i = .int .i64 j ∧ wr = w.drewN q ∧ ∀ t, t < j → xs.getD t 0 = ys.getD t 0) (fun i _ => n - (intOf i).toNat)
    case atStart => exact ⟨0, 0, Nat.zero_le _, rfl, rfl, fun t ht => absurd ht (by omega)⟩
    case round =>
      obtain ⟨j, q, hj, rfl, rfl, hsame⟩ := hrel
      have Hs := Lib.hid hsame
      clear hsame
      by_cases hlt : j < n
      · obtain ⟨b, o, rfl, hbl, hc⟩ := hx.at_ hlt
        obtain ⟨b', o', rfl, hbl', hc'⟩ := hy.at_ hlt
        obtain ⟨u, hu⟩ : ∃ u, u = xs.getD j 0 := ⟨_, rfl⟩
        obtain ⟨v, hv⟩ : ∃ v, v = ys.getD j 0 := ⟨_, rfl⟩
        rw [← hu] at hc
        rw [← hv] at hc'
        have Hu := Lib.hid hu
        have Hv := Lib.hid hv
        clear hu hv
        have hji : (j : Int) < (n : Int) := by omega
        by_cases huv : u = v
        · have hne : ((u : Int) != (v : Int)) = false := by simp [huv]
          have Huv := Lib.hid huv
          clear huv
          go_wp2_with fail
          go_quiet (fail)
          go_wp2
          go_roundw
          case rel => exact ⟨j + 1, _, by omega, by go_num, rfl, fun t ht => by
            by_cases h : t < j
            · exact Hs.out t h
            · obtain rfl : t = j := by omega
              exact Hu.out.symm.trans (Huv.out.trans Hv.out)⟩
          case measure => simp [intOf]; omega
        · have hne : ((u : Int) != (v : Int)) = true := by rw [bne_iff_ne]; omega
          go_wp2_with fail
          go_quiet (fail)
          go_wp2
          go_ret
          exact ⟨by rw [decide_eq_false (by rintro rfl; exact huv (Hu.out.trans Hv.out.symm))]; rfl, _, World.drewN_drewN ..⟩
      · obtain rfl : j = n := by omega
        go_wp2
        go_ret
        exact ⟨by rw [decide_eq_true (eq_of_getD (Hl.out.trans Hl'.out.symm) fun t ht => Hs.out t (Hl.out ▸ ht))]; rfl, q, rfl⟩
  · have hb : ((n : Int) != (n' : Int)) = true := by rw [bne_iff_ne]; omega
    go_enter Try.func43, Try.ntmps43
    go_wp2
    go_ret
    exact ⟨by rw [decide_eq_false (by rintro rfl; exact hd (Hl.out.symm.trans Hl'.out))]; rfl, 0, rfl⟩

end Go.Proofs.Ytkmnhapeohlooaa

namespace Go.Proofs.Ytkmnhapeohlooaa
open Go.RowKit

/-- Bytes. -/
def U8 (xs : List Nat) : Prop := ∀ x ∈ xs, x < 256
instance (xs : List Nat) : Decidable (U8 xs) := inferInstanceAs (Decidable (∀ x ∈ xs, x < 256))
theorem U8.at_ {xs : List Nat} (h : U8 xs) (j : Nat) : xs.getD j 0 < 256 := by
  by_cases hj : j < xs.length
  · have := h _ (List.getElem_mem hj); simpa [List.getD, hj] using this
  · simp [List.getD, hj]

/-- The 64 marks. -/
def marks (n : Nat) : List Nat := (List.range n).map fun i => 192 + i % 7
theorem marks_len (n : Nat) : (marks n).length = n := by simp [marks]
theorem marks_succ (n : Nat) : marks (n + 1) = marks n ++ [192 + n % 7] := by simp [marks, List.range_succ]
theorem marks_at {n i : Nat} (h : i < n) : (marks n).getD i 0 = 192 + i % 7 := by simp [marks, List.getD, h]

set_option maxHeartbeats 400000 in
theorem cat_any (A A2 : Option Addr) (n c n2 c2 : Nat) (xs ys : List Nat) (w : World) (hx : Rd .u8 w A n xs) (hy : Rd .u8 w A2 n2 ys) (hn : n + n2 ≤ 180000000000000) :
    Calls Try.prog 47 #[.slice A n c, .slice A2 n2 c2] w fun e w' => ∃ A' c', e = .returned (.slice A' (n + n2 : Nat) c') ∧ Own .u8 5 w' w.heap.size A' c' (xs ++ ys) ∧ Ext w w' := by
  have hl := hx.len
  have hl2 := hy.len
  have Hl := Lib.hid hl
  have Hl2 := Lib.hid hl2
  clear hl hl2
  go_enter Try.func47, Try.ntmps47
  go_wp2
  go_loopw [5, 6] (fun v i wr => ∃ (j : Nat) (A' : Option Addr) (c' : Nat), j ≤ n ∧ i = .int .i64 j ∧ v = .slice A' j c' ∧ Own .u8 5 wr w.heap.size A' c' (xs.take j) ∧ Below w.heap.size w wr) (fun _ i _ => n - (intOf i).toNat)
  case atStart => exact ⟨0, _, _, Nat.zero_le _, rfl, rfl, Own.made _ _ _ (Nat.le_refl _), (Ext.refl w).alloc _⟩
  case round =>
    obtain ⟨j, A', c', hj, rfl, rfl, hown, hb⟩ := hrel
    have hz := hb.size
    by_cases hlt : j < n
    · obtain ⟨b, o, rfl, hbl, hc⟩ := (hx.ext hb).at_ hlt
      have htl : (xs.take j).length = j := by rw [List.length_take, Hl.out]; omega
      have Htl := Lib.hid htl
      clear htl
      go_wp2_with (at_builtin; refine wpList_push .u8 (xs.getD j 0) 5 rfl _ _ 52 rfl _ 1 Try.underlying52 Try.infoU8 rfl hown j Htl.out rfl rfl rfl (by omega) (by omega) hb hz ?_; intro A1 c1 w1 hown1 hb1 hz1)
      go_roundw
      case rel => exact ⟨j + 1, A1, c1, by omega, by go_num, rfl, by rw [take_next _ _ (by have := Hl.out; omega)]; exact hown1, hb1⟩
      case measure => simp [intOf]; omega
    · obtain rfl : j = n := by omega
      rw [List.take_of_length_le (Nat.le_of_eq Hl.out)] at hown
      have h0 : Own .u8 5 wr w.heap.size A' c' (xs ++ ys.take 0) := by simpa using hown
      go_wp2
      go_loopw [5, 7] (fun v i wr => ∃ (q : Nat) (A' : Option Addr) (c' : Nat), q ≤ n2 ∧ i = .int .i64 q ∧ v = .slice A' (j + q : Nat) c' ∧ Own .u8 5 wr w.heap.size A' c' (xs ++ ys.take q) ∧ Below w.heap.size w wr) (fun _ i _ => n2 - (intOf i).toNat)
      case atStart => exact ⟨0, _, _, Nat.zero_le _, rfl, rfl, h0, hb⟩
      case round =>
        clear hown h0 hb hz
        obtain ⟨q, A', c', hq, rfl, rfl, hown, hb⟩ := hrel
        have hz := hb.size
        by_cases hlt : q < n2
        · obtain ⟨b, o, rfl, hbl, hc⟩ := (hy.ext hb).at_ hlt
          have htl : (xs ++ ys.take q).length = j + q := by rw [List.length_append, List.length_take, Hl2.out, Hl.out]; omega
          have Htl := Lib.hid htl
          clear htl
          go_wp2_with (at_builtin; refine wpList_push .u8 (ys.getD q 0) 5 rfl _ _ 52 rfl _ 1 Try.underlying52 Try.infoU8 rfl hown (j + q) Htl.out rfl rfl rfl (by omega) (by omega) hb hz ?_; intro A1 c1 w1 hown1 hb1 hz1)
          go_roundw
          case rel => exact ⟨q + 1, A1, c1, by omega, by go_num, rfl, by rw [take_next _ _ (by have := Hl2.out; omega), ← List.append_assoc]; exact hown1, hb1⟩
          case measure => simp [intOf]; omega
        · obtain rfl : q = n2 := by omega
          rw [List.take_of_length_le (Nat.le_of_eq Hl2.out)] at hown
          go_wp2
          go_ret
          exact ⟨_, _, rfl, hown, hb⟩

set_option maxHeartbeats 400000 in
theorem wide_any (A : Option Addr) (n c : Nat) (xs : List Nat) (w : World) (hx : Rd .u8 w A n xs) (hn : n + 64 ≤ 140737488355328) :
    Calls Try.prog 67 #[.slice A n c] w fun e w' => ∃ A' c', e = .returned (.slice A' (n + 64 : Nat) c') ∧ Own .u8 5 w' w.heap.size A' c' (xs ++ marks 64) ∧ Ext w w' := by
  have hl := hx.len
  have Hl := Lib.hid hl
  clear hl
  go_enter Try.func67, Try.ntmps67
  go_wp2_with (go_at_call 45; refine (copy_any _ _ _ _ _ hx (by omega)).mono ?_; rintro e w1 ⟨A1, c1, rfl, hown1, he1⟩)
  have h0 : Own .u8 5 w1 w.heap.size A1 c1 (xs ++ marks 0) := by simpa [marks] using hown1
  clear hown1
  go_loopw [3, 4] (fun v i wr => ∃ (q : Nat) (A' : Option Addr) (c' : Nat), q ≤ 64 ∧ i = .int .i64 q ∧ v = .slice A' (n + q : Nat) c' ∧ Own .u8 5 wr w.heap.size A' c' (xs ++ marks q) ∧ Below w.heap.size w wr) (fun _ i _ => 64 - (intOf i).toNat)
  case atStart => exact ⟨0, _, _, Nat.zero_le _, rfl, rfl, h0, he1⟩
  case round =>
    clear h0 he1
    obtain ⟨q, A', c', hq, rfl, rfl, hown, hb⟩ := hrel
    have hz := hb.size
    by_cases hlt : q < 64
    · have htl : (xs ++ marks q).length = n + q := by rw [List.length_append, marks_len, Hl.out]
      have Htl := Lib.hid htl
      clear htl
      go_wp2_with (at_builtin; refine wpList_push .u8 (192 + q % 7) 5 rfl _ _ 52 rfl _ 1 Try.underlying52 Try.infoU8 rfl hown (n + q) Htl.out rfl rfl (by omega) (by omega) (by omega) hb hz ?_; intro A1 c1 w1 hown1 hb1 hz1)
      go_roundw
      case rel => exact ⟨q + 1, A1, c1, by omega, by go_num, rfl, by rw [marks_succ, ← List.append_assoc]; exact hown1, hb1⟩
      case measure => simp [intOf]; omega
    · obtain rfl : q = 64 := by omega
      go_wp2
      go_ret
      exact ⟨_, _, rfl, hown, hb⟩

/-- The bytes from lo to hi, as far as there are any. -/
def piece (xs : List Nat) (lo hi : Int) : List Nat := (xs.take hi.toNat).drop lo.toNat

theorem piece_eq (xs : List Nat) (L : Nat) (hi : Int) : (xs.drop L).take (min hi.toNat xs.length - L) = (xs.take hi.toNat).drop L := by
  rw [List.drop_take]
  by_cases h : hi.toNat ≤ xs.length
  · rw [Nat.min_eq_left h]
  · rw [Nat.min_eq_right (by omega), List.take_of_length_le (by simp), List.take_of_length_le (by simp; omega)]

theorem piece_len (xs : List Nat) (L : Nat) (hi : Int) : ((xs.take hi.toNat).drop L).length = min hi.toNat xs.length - L := by simp

end Go.Proofs.Ytkmnhapeohlooaa

namespace Go.Proofs.Ytkmnhapeohlooaa
open Go.RowKit

/-- What Spoil makes of a byte. -/
def spl (x : Nat) : Nat := x ^^^ 90
theorem spl_lt {x : Nat} (h : x < 256) : spl x < 256 := Nat.xor_lt_two_pow (n := 8) h (by omega)
theorem spl_bits {x : Nat} (h : x < 256) : bits .xor .u8 (x : Int) 90 = (spl x : Int) := u8_xor_nat x 90 h (by omega)
theorem U8.spl {xs : List Nat} (h : U8 xs) : U8 (xs.map spl) := by
  intro x hx
  obtain ⟨y, hy, rfl⟩ := List.mem_map.1 hx
  exact spl_lt (h y hy)

set_option maxHeartbeats 400000 in
theorem turned_any (A A' : Option Addr) (n c n' c' : Nat) (xs ys : List Nat) (w : World) (hx : Rd .u8 w A n xs) (hy : Rd .u8 w A' n' ys) (hby : U8 ys) (hn : n ≤ 281474976710656) (hn' : n' ≤ 281474976710656) :
    Calls Try.prog 87 #[.slice A n c, .slice A' n' c'] w fun e w' => e = .returned (.bool (decide (xs = ys.map spl))) ∧ ∃ q, w' = w.drewN q := by
  have hl := hx.len
  have hl' := hy.len
  have Hl := Lib.hid hl
  have Hl' := Lib.hid hl'
  clear hl hl'
  by_cases hd : n = n'
  · subst hd
    go_enter Try.func87, Try.ntmps87
    go_wp2
    go_loopw [5] (fun i wr => ∃ j q : Nat, j ≤ n ∧ i = .int .i64 j ∧ wr = w.drewN q ∧ ∀ t, t < j → xs.getD t 0 = (ys.map spl).getD t 0) (fun i _ => n - (intOf i).toNat)
    case atStart => exact ⟨0, 0, Nat.zero_le _, rfl, rfl, fun t ht => absurd ht (by omega)⟩
    case round =>
      obtain ⟨j, q, hj, rfl, rfl, hsame⟩ := hrel
      have Hs := Lib.hid hsame
      clear hsame
      by_cases hlt : j < n
      · obtain ⟨b, o, rfl, hbl, hc⟩ := hx.at_ hlt
        obtain ⟨b', o', rfl, hbl', hc'⟩ := hy.at_ hlt
        have hvb := hby.at_ j
        have hsp : (ys.map spl).getD j 0 = spl (ys.getD j 0) := by simp [List.getD, show j < ys.length by have := Hl'.out; omega]
        obtain ⟨u, hu⟩ : ∃ u, u = xs.getD j 0 := ⟨_, rfl⟩
        obtain ⟨v, hv⟩ : ∃ v, v = ys.getD j 0 := ⟨_, rfl⟩
        rw [← hu] at hc
        rw [← hv] at hc' hsp hvb
        have hxor := spl_bits hvb
        have Hu := Lib.hid hu
        have Hsp := Lib.hid hsp
        clear hu hv hsp
        have hji : (j : Int) < (n : Int) := by omega
        by_cases huv : u = spl v
        · have hne : ((u : Int) != (spl v : Int)) = false := by simp [huv]
          have Huv := Lib.hid huv
          clear huv
          go_wp2_with fail
          go_quiet (fail)
          go_wp2
          go_roundw
          case rel => exact ⟨j + 1, _, by omega, by go_num, rfl, fun t ht => by
            by_cases h : t < j
            · exact Hs.out t h
            · obtain rfl : t = j := by omega
              exact Hu.out.symm.trans (Huv.out.trans Hsp.out.symm)⟩
          case measure => simp [intOf]; omega
        · have hne : ((u : Int) != (spl v : Int)) = true := by rw [bne_iff_ne]; omega
          go_wp2_with fail
          go_quiet (fail)
          go_wp2
          go_ret
          exact ⟨by rw [decide_eq_false (by rintro rfl; exact huv (Hu.out.trans Hsp.out))]; rfl, _, World.drewN_drewN ..⟩
      · obtain rfl : j = n := by omega
        go_wp2
        go_ret
        exact ⟨by rw [decide_eq_true (eq_of_getD (Hl.out.trans (by rw [List.length_map]; exact Hl'.out.symm)) fun t ht => Hs.out t (Hl.out ▸ ht))]; rfl, q, rfl⟩
  · have hb : ((n : Int) != (n' : Int)) = true := by rw [bne_iff_ne]; omega
    go_enter Try.func87, Try.ntmps87
    go_wp2
    go_ret
    exact ⟨by rw [decide_eq_false (by rintro rfl; exact hd (by rw [← Hl.out, ← Hl'.out, List.length_map]))]; rfl, 0, rfl⟩

set_option maxHeartbeats 800000 in
theorem intact_any (A A' : Option Addr) (n c n' c' : Nat) (xs ys : List Nat) (w : World) (hx : Rd .u8 w A n xs) (hy : Rd .u8 w A' n' ys) (hn : n ≤ 281474976710656) (hn' : n' ≤ 281474976710656) :
    Calls Try.prog 68 #[.slice A n c, .slice A' n' c'] w fun e w' => e = .returned (.bool (decide (xs = ys ++ marks 64))) ∧ ∃ q, w' = w.drewN q := by
  have hl := hx.len
  have hl' := hy.len
  have Hl := Lib.hid hl
  have Hl' := Lib.hid hl'
  clear hl hl'
  by_cases hd : n = n' + 64
  · subst hd
    have hb0 : (((n' + 64 : Nat) : Int) != (n' : Int) + 64) = false := by simp
    go_enter Try.func68, Try.ntmps68
    go_wp2
    go_loopw [5] (fun i wr => ∃ j q : Nat, j ≤ n' ∧ i = .int .i64 j ∧ wr = w.drewN q ∧ ∀ t, t < j → xs.getD t 0 = (ys ++ marks 64).getD t 0) (fun i _ => n' - (intOf i).toNat)
    case atStart => exact ⟨0, 0, Nat.zero_le _, rfl, rfl, fun t ht => absurd ht (by omega)⟩
    case round =>
      obtain ⟨j, q, hj, rfl, rfl, hsame⟩ := hrel
      have Hs := Lib.hid hsame
      clear hsame
      by_cases hlt : j < n'
      · obtain ⟨b, o, rfl, hbl, hc⟩ := hx.at_ (show j < n' + 64 by omega)
        obtain ⟨b', o', rfl, hbl', hc'⟩ := hy.at_ hlt
        have hap : (ys ++ marks 64).getD j 0 = ys.getD j 0 := by simp [List.getD, List.getElem?_append_left (show j < ys.length by have := Hl'.out; omega)]
        obtain ⟨u, hu⟩ : ∃ u, u = xs.getD j 0 := ⟨_, rfl⟩
        obtain ⟨v, hv⟩ : ∃ v, v = ys.getD j 0 := ⟨_, rfl⟩
        rw [← hu] at hc
        rw [← hv] at hc' hap
        have Hu := Lib.hid hu
        have Hap := Lib.hid hap
        clear hu hv hap
        have hji : (j : Int) < (n' : Int) := by omega
        by_cases huv : u = v
        · have hne : ((u : Int) != (v : Int)) = false := by simp [huv]
          have Huv := Lib.hid huv
          clear huv
          go_wp2_with fail
          go_quiet (fail)
          go_wp2
          go_roundw
          case rel => exact ⟨j + 1, _, by omega, by go_num, rfl, fun t ht => by
            by_cases h : t < j
            · exact Hs.out t h
            · obtain rfl : t = j := by omega
              exact Hu.out.symm.trans (Huv.out.trans Hap.out.symm)⟩
          case measure => simp [intOf]; omega
        · have hne : ((u : Int) != (v : Int)) = true := by rw [bne_iff_ne]; omega
          go_wp2_with fail
          go_quiet (fail)
          go_wp2
          go_ret
          exact ⟨by rw [decide_eq_false (by rintro rfl; exact huv (Hu.out.trans Hap.out))]; rfl, _, World.drewN_drewN ..⟩
      · obtain rfl : j = n' := by omega
        go_wp2
        have Hs2 : Hid (∀ t, t < j + 0 → xs.getD t 0 = (ys ++ marks 64).getD t 0) := Hs.out
        clear Hs hlt hj
        go_loopw [6] (fun i wr => ∃ i2 q : Nat, i2 ≤ 64 ∧ i = .int .i64 i2 ∧ wr = w.drewN q ∧ Hid (∀ t, t < j + i2 → xs.getD t 0 = (ys ++ marks 64).getD t 0)) (fun i _ => 64 - (intOf i).toNat)
        case atStart => exact ⟨0, q, Nat.zero_le _, rfl, rfl, Hs2⟩
        case round =>
          clear Hs2
          obtain ⟨i2, q, hj, rfl, rfl, Hs⟩ := hrel
          by_cases hlt : i2 < 64
          · obtain ⟨b, o, rfl, hbl, hc⟩ := hx.at_ (show j + i2 < j + 64 by omega)
            have hap : (ys ++ marks 64).getD (j + i2) 0 = 192 + i2 % 7 := by
              rw [List.getD, List.getElem?_append_right (by have := Hl'.out; omega), Hl'.out, Nat.add_sub_cancel_left]
              exact marks_at hlt
            obtain ⟨u, hu⟩ : ∃ u, u = xs.getD (j + i2) 0 := ⟨_, rfl⟩
            rw [← hu] at hc
            have Hu := Lib.hid hu
            have Hap := Lib.hid hap
            clear hu hap
            have hji : (i2 : Int) < 64 := by omega
            by_cases huv : u = 192 + i2 % 7
            · have hne : ((u : Int) != 192 + (i2 : Int) % 7) = false := by simp; omega
              have Huv := Lib.hid huv
              clear huv
              go_wp2_with fail
              go_wp2
              go_roundw
              case rel => exact ⟨i2 + 1, _, by omega, by go_num, rfl, fun t ht => by
                by_cases h : t < j + i2
                · exact Hs.out t h
                · obtain rfl : t = j + i2 := by omega
                  exact Hu.out.symm.trans (Huv.out.trans Hap.out.symm)⟩
              case measure => simp [intOf]; omega
            · have hne : ((u : Int) != 192 + (i2 : Int) % 7) = true := by rw [bne_iff_ne]; omega
              go_wp2_with fail
              go_wp2
              go_ret
              exact ⟨by rw [decide_eq_false (by rintro rfl; exact huv (Hu.out.trans Hap.out))]; rfl, _, rfl⟩
          · obtain rfl : i2 = 64 := by omega
            go_wp2
            go_ret
            exact ⟨by rw [decide_eq_true (eq_of_getD (by rw [Hl.out, List.length_append, marks_len, Hl'.out]) fun t ht => Hs.out t (Hl.out ▸ ht))]; rfl, _, rfl⟩
  · have hb : ((n : Int) != (n' : Int) + 64) = true := by rw [bne_iff_ne]; omega
    go_enter Try.func68, Try.ntmps68
    go_wp2
    go_ret
    exact ⟨by rw [decide_eq_false (by rintro rfl; exact hd (by rw [← Hl.out, ← Hl'.out, List.length_append, marks_len]))]; rfl, 0, rfl⟩

theorem intact_yes {A A' : Option Addr} {n c n' c' : Nat} {ys : List Nat} {w : World} (hx : Rd .u8 w A n (ys ++ marks 64)) (hy : Rd .u8 w A' n' ys) (hn : n ≤ 281474976710656) (hn' : n' ≤ 281474976710656) :
    Calls Try.prog 68 #[.slice A n c, .slice A' n' c'] w fun e w' => e = .returned (.bool true) ∧ ∃ q, w' = w.drewN q :=
  (intact_any A A' n c n' c' _ ys w hx hy hn hn').mono fun e w' ⟨h1, h2⟩ => ⟨by rw [h1, decide_eq_true rfl], h2⟩

end Go.Proofs.Ytkmnhapeohlooaa

namespace Go.Proofs.Ytkmnhapeohlooaa
open Go.RowKit

/-- The first j bytes spoiled. -/
def spoiled (j : Nat) (xs : List Nat) : List Nat := (xs.take j).map spl ++ xs.drop j
theorem spoiled_len (j : Nat) (xs : List Nat) : (spoiled j xs).length = xs.length := by simp [spoiled]; omega
theorem spoiled_zero (xs : List Nat) : spoiled 0 xs = xs := by simp [spoiled]
theorem spoiled_all (xs : List Nat) : spoiled xs.length xs = xs.map spl := by simp [spoiled]
theorem spoiled_at {j : Nat} {xs : List Nat} (h : j < xs.length) : (spoiled j xs).getD j 0 = xs.getD j 0 := by
  unfold spoiled
  rw [List.getD, List.getElem?_append_right (by simp; omega)]
  simp [List.getD, Nat.min_eq_left (Nat.le_of_lt h)]
theorem spoiled_succ {j : Nat} {xs : List Nat} (h : j < xs.length) : spoiled (j + 1) xs = (spoiled j xs).set j (spl (xs.getD j 0)) := by
  unfold spoiled
  rw [List.set_append_right _ _ (by simp; omega), take_next _ _ h]
  have hd : xs.drop j = xs.getD j 0 :: xs.drop (j + 1) := by rw [List.drop_eq_getElem_cons h]; simp [List.getD, h]
  rw [hd]
  simp [Nat.min_eq_left (Nat.le_of_lt h)]

set_option maxHeartbeats 400000 in
theorem spoil_any (A : Option Addr) (n c base : Nat) (xs : List Nat) (w : World) (hx : Own .u8 5 w base A c xs) (hl : xs.length = n) (hu : U8 xs) (hn : n ≤ 281474976710656) :
    Calls Try.prog 69 #[.slice A n c] w fun e w' => e = .returned (.tuple #[]) ∧ Own .u8 5 w' base A c (xs.map spl) ∧ w.grownBy w' (A.map (·.block)) := by
  have Hl := Lib.hid hl
  clear hl
  go_enter Try.func69, Try.ntmps69
  go_wp2
  go_loopw [2] (fun i wr => ∃ j : Nat, j ≤ n ∧ i = .int .i64 j ∧ Own .u8 5 wr base A c (spoiled j xs) ∧ w.grownBy wr (A.map (·.block))) (fun i _ => n - (intOf i).toNat)
  case atStart => exact ⟨0, Nat.zero_le _, rfl, by rw [spoiled_zero]; exact hx, World.grownBy.refl _ _⟩
  case round =>
    obtain ⟨j, hj, rfl, hown, hg⟩ := hrel
    by_cases hlt : j < n
    · have hjl : j < xs.length := by have := Hl.out; omega
      obtain ⟨b, rfl, hbb, hbl, hc, hf, hset⟩ := hown.at_ (show j < (spoiled j xs).length by rw [spoiled_len]; exact hjl)
      have hvb := hu.at_ j
      rw [spoiled_at hjl] at hc
      obtain ⟨h1, h2⟩ := hset (spl (xs.getD j 0))
      rw [← spoiled_succ hjl] at h1
      obtain ⟨v, hv⟩ : ∃ v, v = xs.getD j 0 := ⟨_, rfl⟩
      rw [← hv] at hc hvb h1 h2
      have hxor := spl_bits hvb
      have Hg := Lib.hid (World.grownBy.trans hg h2)
      have H1 := Lib.hid h1
      clear hv hset h1 h2 hg hown
      go_wp2
      go_roundw
      case rel => exact ⟨j + 1, by omega, by go_num, H1.out, Hg.out⟩
      case measure => simp [intOf]; omega
    · obtain rfl : j = n := by omega
      rw [← Hl.out, spoiled_all] at hown
      go_wp2
      go_end0
      exact ⟨rfl, hown, hg⟩

theorem mod256 {i : Nat} (h : i < 70) : IntKind.u8.wrap (i : Int) = (i : Int) := by rw [IntKind.wrap_u8']; omega

theorem same_yes {A A' : Option Addr} {n c n' c' : Nat} {xs : List Nat} {w : World} (hx : Rd .u8 w A n xs) (hy : Rd .u8 w A' n' xs) (hn : n ≤ 281474976710656) :
    Calls Try.prog 43 #[.slice A n c, .slice A' n' c'] w fun e w' => e = .returned (.bool true) ∧ ∃ q, w' = w.drewN q :=
  (same_any A A' n c n' c' xs xs w hx hy hn (by rw [← hy.len, hx.len]; exact hn)).mono fun e w' ⟨h1, h2⟩ => ⟨by rw [h1, decide_eq_true rfl], h2⟩

theorem turned_yes {A A' : Option Addr} {n c n' c' : Nat} {ys : List Nat} {w : World} (hx : Rd .u8 w A n (ys.map spl)) (hy : Rd .u8 w A' n' ys) (hu : U8 ys) (hn : n ≤ 281474976710656) :
    Calls Try.prog 87 #[.slice A n c, .slice A' n' c'] w fun e w' => e = .returned (.bool true) ∧ ∃ q, w' = w.drewN q :=
  (turned_any A A' n c n' c' (ys.map spl) ys w hx hy hu hn (by rw [← hy.len, ← List.length_map (f := spl), hx.len]; exact hn)).mono fun e w' ⟨h1, h2⟩ => ⟨by rw [h1, decide_eq_true rfl], h2⟩

theorem grownBy_ext {w0 w w' : World} {row : Option Nat} (h : Ext w0 w) (hg : w.grownBy w' row) (hr : ∀ g, row = some g → w0.heap.size ≤ g) : Ext w0 w' :=
  ⟨hg.os.trans h.os, hg.tape.trans h.tape, hg.output.trans h.output, Nat.le_trans h.size hg.size, fun i hi => (hg.block i (Nat.lt_of_lt_of_le hi h.size) (fun e => by have := hr i e.symm; omega)).trans (h.block i hi)⟩

theorem Rd.lt {k : IntKind} {w : World} {A : Option Addr} {n : Nat} {xs : List Nat} (h : Rd k w A n xs) (hn : 0 < n) : ∀ a, A = some a → a.block < w.heap.size := by
  obtain ⟨b, o, rfl, hb, _⟩ := h.2 hn
  intro a ha
  injection ha with ha
  subst ha
  exact hb

/-- A reading stays where the written row is another block (of an empty list nothing is asked). -/
theorem Rd.grown0 {k : IntKind} {w w' : World} {A : Option Addr} {n : Nat} {xs : List Nat} (h : Rd k w A n xs) {row : Option Nat} (hg : w.grownBy w' row) (hne : 0 < n → ∀ a, A = some a → some a.block ≠ row) : Rd k w' A n xs := by
  by_cases hn : 0 < n
  · exact h.grown hg (hne hn)
  · exact ⟨h.1, fun h0 => absurd h0 hn⟩

/-- What of the three lists stays while 70 bytes go behind the first: the first's own beginning, and what lies elsewhere. -/
structure Aside (w0 wr : World) (A A2 A3 A' : Option Addr) (n c' j base : Nat) (sx xs ys : List Nat) : Prop where
  own : Own .u8 5 wr base A' c' ys
  len : ys.length = n + j
  pre : ys.take n = sx
  rd1 : Rd .u8 wr A n sx
  rd2 : Rd .u8 wr A2 n xs
  rd3 : Rd .u8 wr A3 n xs
  ne1 : 0 < n → ∀ a a1, A' = some a → A = some a1 → a1 = a ∨ a1.block ≠ a.block
  ne2 : 0 < n → ∀ a a2, A' = some a → A2 = some a2 → a2.block ≠ a.block
  ne3 : 0 < n → ∀ a a3, A' = some a → A3 = some a3 → a3.block ≠ a.block
  ext : Ext w0 wr
  size : base ≤ wr.heap.size

theorem Aside.push {w0 wr w1 : World} {A A2 A3 A' A1 : Option Addr} {n c' c1 j base : Nat} {sx xs ys : List Nat} (h : Aside w0 wr A A2 A3 A' n c' j base sx xs ys) {x : Nat} (hbase : w0.heap.size ≤ base)
    (ho : Own .u8 5 w1 base A1 c1 (ys ++ [x])) (hw : A1 = A' ∧ wr.grownBy w1 (A'.map (·.block)) ∨ Ext wr w1 ∧ ∀ q, A1 = some q → wr.heap.size ≤ q.block) (hz : base ≤ w1.heap.size) :
    Aside w0 w1 A A2 A3 A1 n c1 (j + 1) base sx xs (ys ++ [x]) := by
  have hp : (ys ++ [x]).take n = sx := by rw [List.take_append_of_le_length (by have := h.len; omega)]; exact h.pre
  rcases hw with ⟨rfl, hg⟩ | ⟨he, hq⟩
  · have hne : ∀ {X : Option Addr}, (0 < n → ∀ a a2, A1 = some a → X = some a2 → a2.block ≠ a.block) → 0 < n → ∀ a, X = some a → some a.block ≠ A1.map (·.block) := by
      intro X hX hn a ha e
      cases hA : A1 with
      | none => rw [hA] at e; simp at e
      | some a1 => rw [hA] at e; simp at e; exact hX hn a1 a hA ha e
    refine ⟨ho, by have := h.len; simp; omega, hp, ?_, h.rd2.grown0 hg (hne h.ne2), h.rd3.grown0 hg (hne h.ne3), h.ne1, h.ne2, h.ne3, grownBy_ext h.ext hg ?_, hz⟩
    · by_cases hn : 0 < n
      · obtain ⟨b, o, hA, hb, _⟩ := h.rd1.2 hn
        obtain ⟨b', hA'⟩ := h.own.head (by have := h.len; omega)
        rcases h.ne1 hn _ _ hA' hA with e | e
        · have := ho.rd_take (n := n) (by have := h.len; simp; omega)
          rw [hp, hA', ← e, ← hA] at this
          exact this
        · exact h.rd1.grown hg (by rw [hA, hA']; rintro a ha; injection ha with ha; subst ha; simpa using e)
      · exact ⟨h.rd1.1, fun h0 => absurd h0 hn⟩
    · intro g hg'
      cases hA : A1 with
      | none => rw [hA] at hg'; simp at hg'
      | some a1 => rw [hA] at hg'; simp at hg'; subst hg'; exact Nat.le_trans hbase (h.own.block a1 hA).1
  · have hne : ∀ {X : Option Addr} {zs : List Nat}, Rd .u8 wr X n zs → 0 < n → ∀ a a2, A1 = some a → X = some a2 → a2.block ≠ a.block := by
      intro X zs hX hn a a2 ha ha2
      have h1 := hq a ha
      have h2 := hX.lt hn a2 ha2
      omega
    exact ⟨ho, by have := h.len; simp; omega, hp, h.rd1.ext he, h.rd2.ext he, h.rd3.ext he, fun hn a a1 ha ha1 => .inr (hne h.rd1 hn a a1 ha ha1), hne h.rd2, hne h.rd3, h.ext.trans he, hz⟩

/-- Both answers are as wanted and lie apart: Apart says so. 'a' is a row of the caller's own; what b and want read lies elsewhere. -/
theorem apart_any (A A2 A3 : Option Addr) (n c c2 c3 base : Nat) (xs : List Nat) (w0 w : World) (hx : Own .u8 5 w base A c xs) (hl : xs.length = n) (hu : U8 xs)
    (hy : Rd .u8 w A2 n xs) (hz : Rd .u8 w A3 n xs) (ne2 : ∀ a a2, A = some a → A2 = some a2 → a2.block ≠ a.block) (ne3 : ∀ a a3, A = some a → A3 = some a3 → a3.block ≠ a.block)
    (hE : Ext w0 w) (hbase : w0.heap.size ≤ base) (hbw : base ≤ w.heap.size) (hn : n + 70 ≤ 180000000000000) :
    Calls Try.prog 71 #[.slice A n c, .slice A2 n c2, .slice A3 n c3] w fun e w' => e = .returned (.bool true) ∧ Ext w0 w' := by
  have Hl := Lib.hid hl
  clear hl
  have hx1 := hx.rd' Hl.out
  go_enter Try.func71, Try.ntmps71
  go_wp2_with fail
  refine (same_yes hx1 hz (by omega)).mono ?_
  rintro e w1 ⟨rfl, q1, rfl⟩
  go_wp2_with fail
  refine (same_yes (hy.drewN q1) (hz.drewN q1) (by omega)).mono ?_
  rintro e w1 ⟨rfl, q2, rfl⟩
  go_wp2_with fail
  refine (spoil_any A n c base xs _ (hx.ext ((Ext.refl _).drewN _)) Hl.out hu (by omega)).mono ?_
  rintro e w2 ⟨rfl, hx2, hg2⟩
  go_wp2_with fail
  have hsp : (xs.map spl).length = n := by rw [List.length_map, Hl.out]
  have hE2 : Ext w0 w2 := grownBy_ext (hE.drewN _) hg2 (by
    intro g hg
    cases hA : A with
    | none => rw [hA] at hg; simp at hg
    | some a => rw [hA] at hg; simp at hg; subst hg; exact Nat.le_trans hbase (hx.block a hA).1)
  have hne : ∀ {X : Option Addr}, (∀ a a2, A = some a → X = some a2 → a2.block ≠ a.block) → 0 < n → ∀ a, X = some a → some a.block ≠ A.map (·.block) := by
    intro X hX hn a ha e
    cases hA : A with
    | none => rw [hA] at e; simp at e
    | some a1 => rw [hA] at e; simp at e; exact hX a1 a hA ha e
  have h0 : ∃ ys, Aside w0 w2 A A2 A3 A n c 0 base (xs.map spl) xs ys := ⟨xs.map spl, hx2, hsp, List.take_of_length_le (Nat.le_of_eq hsp), hx2.rd' hsp, (hy.drewN (q1 + q2)).grown0 hg2 (hne ne2), (hz.drewN (q1 + q2)).grown0 hg2 (hne ne3), fun _ a a1 ha ha1 => .inl (by rw [ha] at ha1; injection ha1 with h; exact h.symm), fun _ => ne2, fun _ => ne3, hE2, by have := hg2.size; simp at this; omega⟩
  clear hx2 hg2 hE2 hne hx1
  have Hb := Lib.hid hbase
  clear hbase
  go_loopw [7, 8] (fun v i wr => ∃ (j : Nat) (A' : Option Addr) (c' : Nat) (ys : List Nat), j ≤ 70 ∧ i = .int .i64 j ∧ v = .slice A' (n + j : Nat) c' ∧ Aside w0 wr A A2 A3 A' n c' j base (xs.map spl) xs ys) (fun _ i _ => 70 - (intOf i).toNat)
  case atStart => obtain ⟨ys, h0⟩ := h0; exact ⟨0, _, _, ys, Nat.zero_le _, rfl, rfl, h0⟩
  case round =>
    clear h0
    obtain ⟨j, A', c', ys, hj, rfl, rfl, has⟩ := hrel
    have hsz := has.size
    by_cases hlt : j < 70
    · have hm := mod256 hlt
      have Hown := Lib.hid has.own
      have Hlen := Lib.hid has.len
      have Has := Lib.hid has
      clear has
      go_wp2_with (at_builtin; refine wpList_push2 .u8 j 5 rfl _ _ 52 rfl _ 1 Try.underlying52 Try.infoU8 rfl Hown.out (n + j) Hlen.out rfl rfl rfl (by omega) (by omega) hsz ?_; intro A1 c1 w1 hown1 hw1 hz1)
      have Hn := Lib.hid (Has.out.push Hb.out hown1 hw1 hz1)
      clear hown1 hw1 hz1
      go_wp2
      go_roundw
      case rel => exact ⟨j + 1, A1, c1, _, by omega, by go_num, rfl, Hn.out⟩
      case measure => simp [intOf]; omega
    · obtain rfl : j = 70 := by omega
      have hr1 := has.rd1
      have hr2 := has.rd2
      have hr3 := has.rd3
      have he := has.ext
      clear has
      go_wp2_with fail
      refine (turned_yes hr1 hr3 hu (by omega)).mono ?_
      rintro e w3 ⟨rfl, q3, rfl⟩
      go_wp2_with fail
      refine (same_yes (hr2.drewN q3) (hr3.drewN q3) (by omega)).mono ?_
      rintro e w3 ⟨rfl, q4, rfl⟩
      go_wp2_with fail
      go_ret
      exact ⟨rfl, he.drewN _⟩

end Go.Proofs.Ytkmnhapeohlooaa
