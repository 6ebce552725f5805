/-
  Rows whose elements are of any kind, one cell or several each: read, and of the call's own.
-/
import Derived.Test.YtjckfbpdnpehcaaR1
namespace Go.Proofs.Ytjckfbpdnpehcaa
open Go.RowKit

/-- A kind of element: its cells, as many for each. -/
structure Shape (T : Type) where
  cells : T → List Value
  sz : Nat
  len : ∀ x, (cells x).length = sz
  one : ∀ x, ∀ u ∈ cells x, u.oneCell' = true

section
variable {T : Type} {s : Shape T}

def Shape.all (s : Shape T) (xs : List T) : List Value := (xs.map s.cells).flatten
theorem Shape.all_nil : s.all [] = [] := rfl
theorem Shape.all_cons (x : T) (xs : List T) : s.all (x :: xs) = s.cells x ++ s.all xs := by simp [Shape.all]
theorem Shape.all_snoc (xs : List T) (x : T) : s.all (xs ++ [x]) = s.all xs ++ s.cells x := by simp [Shape.all]
theorem Shape.all_len (xs : List T) : (s.all xs).length = xs.length * s.sz := by
  induction xs with
  | nil => simp [Shape.all]
  | cons x r ih => rw [Shape.all_cons, List.length_append, ih, s.len, List.length_cons, Nat.succ_mul]; omega
theorem Shape.all_at : ∀ {xs : List T} {j i : Nat} {x : T} {u : Value}, xs[j]? = some x → (s.cells x)[i]? = some u → (s.all xs)[j * s.sz + i]? = some u := by
  intro xs
  induction xs with
  | nil => intro j i x u h; simp at h
  | cons y r ih =>
    intro j i x u h k
    have hi : i < s.sz := by have := (List.getElem?_eq_some_iff.1 k).1; rw [s.len] at this; exact this
    cases j with
    | zero =>
      simp at h; subst h
      rw [Shape.all_cons, Nat.zero_mul, Nat.zero_add, List.getElem?_append_left (by rw [s.len]; exact hi)]
      exact k
    | succ j =>
      have h2 : r[j]? = some x := by simpa using h
      rw [Shape.all_cons, List.getElem?_append_right (by rw [s.len, Nat.succ_mul]; omega), s.len, show (j + 1) * s.sz + i - s.sz = j * s.sz + i from by rw [Nat.succ_mul]; omega]
      exact ih h2 k
/-- One element set anew: the cell at place i of element j. -/
theorem Shape.all_set : ∀ {xs : List T} {j i : Nat} {x y : T} {u : Value}, xs[j]? = some x → i < s.sz → s.cells y = (s.cells x).set i u → s.all (xs.set j y) = (s.all xs).set (j * s.sz + i) u := by
  intro xs
  induction xs with
  | nil => intro j i x y u h; simp at h
  | cons z r ih =>
    intro j i x y u h hi k
    cases j with
    | zero =>
      simp at h; subst h
      rw [List.set_cons_zero, Shape.all_cons, Shape.all_cons, k, Nat.zero_mul, Nat.zero_add, List.set_append_left _ _ (by rw [s.len]; exact hi)]
    | succ j =>
      have h2 : r[j]? = some x := by simpa using h
      rw [List.set_cons_succ, Shape.all_cons, Shape.all_cons, ih h2 hi k, List.set_append_right _ _ (by rw [s.len, Nat.succ_mul]; omega), s.len, show (j + 1) * s.sz + i - s.sz = j * s.sz + i from by rw [Nat.succ_mul]; omega]

/-- The slice (A, n) reads, in w, as xs. -/
def RdG (s : Shape T) (w : World) (A : Option Addr) (n : Nat) (xs : List T) : Prop :=
  xs.length = n ∧ (0 < n → ∃ b o, A = some ⟨b, o, none⟩ ∧ b < w.heap.size ∧ ∀ j x, xs[j]? = some x → ∀ i u, (s.cells x)[i]? = some u → w.cell? ⟨b, o + j * s.sz + i, none⟩ = some u)

variable {w w' : World} {A : Option Addr} {n : Nat} {xs : List T}

theorem RdG.len (h : RdG s w A n xs) : xs.length = n := h.1
theorem RdG.nil (s : Shape T) (w : World) (A : Option Addr) : RdG s w A 0 [] := ⟨rfl, fun h => absurd h (by omega)⟩
theorem RdG.ext (h : RdG s w A n xs) (hb : Ext w w') : RdG s w' A n xs :=
  ⟨h.1, fun hn => by
    obtain ⟨b, o, e, hlt, hc⟩ := h.2 hn
    exact ⟨b, o, e, Nat.lt_of_lt_of_le hlt hb.size, fun j x hj i u hu => (Below.cell hb (p := ⟨b, o + j * s.sz + i, none⟩) hlt).trans (hc j x hj i u hu)⟩⟩
theorem RdG.drewN (h : RdG s w A n xs) (q : Nat) : RdG s (w.drewN q) A n xs := h
theorem RdG.lt (h : RdG s w A n xs) (hn : 0 < n) : ∀ a, A = some a → a.block < w.heap.size := by
  obtain ⟨b, o, rfl, hb, _⟩ := h.2 hn
  intro a ha
  injection ha with ha
  subst ha
  exact hb
theorem RdG.grown (h : RdG s w A n xs) {row : Option Nat} (hg : w.grownBy w' row) (hne : 0 < n → ∀ a, A = some a → some a.block ≠ row) : RdG s w' A n xs :=
  ⟨h.1, fun hn => by
    obtain ⟨b, o, e, hlt, hc⟩ := h.2 hn
    exact ⟨b, o, e, Nat.lt_of_lt_of_le hlt hg.size, fun j x hj i u hu => (World.cell?_of_block (w := w) (a := ⟨b, o + j * s.sz + i, none⟩) (hg.block b hlt (hne hn _ e))).trans (hc j x hj i u hu)⟩⟩
theorem RdG.at_ (h : RdG s w A n xs) {j : Nat} (hj : j < n) :
    ∃ b o x, A = some ⟨b, o, none⟩ ∧ b < w.heap.size ∧ xs[j]? = some x ∧ ∀ i u, (s.cells x)[i]? = some u → w.cell? ⟨b, o + j * s.sz + i, none⟩ = some u := by
  obtain ⟨b, o, e, hlt, hc⟩ := h.2 (by omega)
  have hjl : j < xs.length := by rw [h.1]; exact hj
  have hf : xs[j]? = some xs[j] := List.getElem?_eq_getElem hjl
  exact ⟨b, o, _, e, hlt, hf, hc j _ hf⟩

/-- A row of the call's own, from block base on. -/
def OwnG (s : Shape T) (e : TypeId) (w : World) (base : Nat) (A : Option Addr) (c : Nat) (xs : List T) : Prop := w.ownsRow base e s.sz (.slice A xs.length c) xs.length (s.all xs)

variable {e : TypeId} {base c : Nat}

theorem OwnG.nil (s : Shape T) (e : TypeId) (w : World) (base : Nat) : OwnG s e w base none 0 [] := World.ownsRow_nil w base e s.sz
theorem OwnG.made (s : Shape T) (e : TypeId) (w : World) (hb : base ≤ w.heap.size) : OwnG s e (w.alloc (.cells #[] e)) base (some ⟨w.heap.size, 0, none⟩) 0 [] :=
  World.ownsRow_made w #[] 0 hb (by simp [maxLen]) (by simp)
theorem OwnG.ext (h : OwnG s e w base A c xs) (hb : Ext w w') : OwnG s e w' base A c xs := by
  refine World.ownsRow.kept (row := none) h ⟨hb.os, hb.tape, hb.output, hb.size, fun i hi _ => hb.block i hi⟩ ?_
  cases hv : (Value.slice A xs.length c).ownBlock <;> simp
theorem OwnG.grown (h : OwnG s e w base A c xs) {row : Option Nat} (hg : w.grownBy w' row) (hne : ∀ a, A = some a → some a.block ≠ row) : OwnG s e w' base A c xs := by
  refine World.ownsRow.kept h hg ?_
  cases A with
  | none => exact Or.inl rfl
  | some a => exact Or.inr (hne a rfl)
theorem OwnG.mono (h : OwnG s e w base A c xs) {base' : Nat} (hb : base' ≤ base) : OwnG s e w base' A c xs := by
  refine ⟨h.1, ?_⟩
  rcases h.2 with hn | ⟨g, cap, cur, hv, hg, r⟩
  · exact Or.inl hn
  · exact Or.inr ⟨g, cap, cur, hv, Nat.le_trans hb hg, r⟩
theorem OwnG.block (h : OwnG s e w base A c xs) : ∀ a, A = some a → base ≤ a.block ∧ a.block < w.heap.size := by
  rintro a rfl
  exact h.lt a.block rfl

/-- A place of an owned row: its cells, that it may be written, and what the row is behind a store. -/
theorem OwnG.at_ (h : OwnG s e w base A c xs) {j : Nat} (hj : j < xs.length) :
    ∃ b x, A = some ⟨b, 0, none⟩ ∧ base ≤ b ∧ b < w.heap.size ∧ xs[j]? = some x ∧ (∀ i u, (s.cells x)[i]? = some u → w.cell? ⟨b, j * s.sz + i, none⟩ = some u) ∧ (∀ i, w.frozen? ⟨b, i, none⟩ = false) ∧
      ∀ i y u, i < s.sz → s.cells y = (s.cells x).set i u → OwnG s e (w.setCell ⟨b, j * s.sz + i, none⟩ u) base A c (xs.set j y) ∧ w.grownBy (w.setCell ⟨b, j * s.sz + i, none⟩ u) (some b) := by
  have h0 := h
  have hf : xs[j]? = some xs[j] := List.getElem?_eq_getElem hj
  rcases h.2 with ⟨_, hn⟩ | ⟨g, cap, cur, hv, hg, hh, _⟩
  · omega
  · injection hv with hA hl hc
    subst hA
    subst hc
    have hlt : g < w.heap.size := (Array.getElem?_eq_some_iff.1 hh).1
    refine ⟨g, xs[j], rfl, hg, hlt, hf, fun i u hu => ?_, fun i => World.ownsRow.frozenAt h0 i, fun i y u hi hy => ?_⟩
    · have hi : i < s.sz := by have := (List.getElem?_eq_some_iff.1 hu).1; rw [s.len] at this; exact this
      rw [World.ownsRow.cellAt h0 (j * s.sz + i) ?_]
      · exact Shape.all_at hf hu
      · have : (j + 1) * s.sz ≤ xs.length * s.sz := Nat.mul_le_mul_right _ hj
        rw [Nat.succ_mul] at this
        omega
    · obtain ⟨h1, h2⟩ := World.ownsRow.stored h0 (j * s.sz + i) u
      refine ⟨?_, h2⟩
      unfold OwnG
      rw [List.length_set, Shape.all_set hf hi hy]
      exact h1

theorem OwnG.cap (h : OwnG s e w base A c xs) : xs.length ≤ c ∧ c ≤ 9223372036854775807 := by
  rcases h.2 with ⟨hv, h0⟩ | ⟨g, cap, cur, hv, hg, hh, hnc, hcm, _⟩
  · injection hv with hA hl hc
    omega
  · injection hv with hA hl hc
    subst hc
    exact ⟨hnc, by simpa [maxLen] using hcm⟩

theorem OwnG.rd (h : OwnG s e w base A c xs) : RdG s w A xs.length xs := by
  refine ⟨rfl, fun hn => ?_⟩
  obtain ⟨b, x0, hA, _, hlt, _⟩ := h.at_ hn
  refine ⟨b, 0, hA, hlt, fun j x hj i u hu => ?_⟩
  obtain ⟨b', x', hA', _, _, hx', hc, _⟩ := h.at_ (List.getElem?_eq_some_iff.1 hj).1
  rw [hA] at hA'
  injection hA' with hA'
  injection hA' with hb
  subst hb
  rw [hj] at hx'
  injection hx' with hx'
  subst hx'
  rw [Nat.zero_add]
  exact hc i u hu
theorem OwnG.rd' (h : OwnG s e w base A c xs) {n : Nat} (hn : xs.length = n) : RdG s w A n xs := hn ▸ h.rd
theorem OwnG.head (h : OwnG s e w base A c xs) (hn : 0 < xs.length) : ∃ b, A = some ⟨b, 0, none⟩ := by
  obtain ⟨b, _, hb, _⟩ := h.at_ hn
  exact ⟨b, hb⟩

/-- 'append(out, x)', x one element that lies at the head of a block. -/
theorem wpList_pushG {P : Program} {w0 w : World} {ops : Array Oper} {rest : List Oper} {o : Oper} {a : Act} {Q : Exit → Act → World → Prop} (s : Shape T) (x : T) (e : TypeId) (hgd : o.guard = none) (v y : Operand) (t : TypeId)
    (ho : o.op = .call { callee := .builtin .append, args := #[v, y], argTypes := #[t, t] })
    (z : Value) (bytes : Nat) (ht : P.underlying t = some (.slice e)) (hi : (P.info? e).map (fun i => (i.zero, i.size, i.bytes)) = some (some z, s.sz, bytes)) (hzs : z.cells.size = s.sz) (hs0 : 0 < s.sz)
    {base : Nat} {A : Option Addr} {c : Nat} {xs : List T} (hown : OwnG s e w base A c xs) (n : Nat) (hn : xs.length = n) (hs : a.eval v = .slice A n c)
    {g : Nat} {e' : TypeId} (hy : a.eval y = .slice (some ⟨g, 0, none⟩) 1 1) (hg : w.heap[g]? = some (.cells (s.cells x).toArray e'))
    (hlen : ((n + 1) + (n + 1) / 4 + 192) * bytes ≤ 281474976710656) (hby : 0 < bytes) (hb : Below base w0 w) (hbase : base ≤ w.heap.size)
    (h : ∀ A' c' w', OwnG s e w' base A' c' (xs ++ [x]) → w.grownBy w' (Value.slice A n c).ownBlock → Below base w0 w' → base ≤ w'.heap.size → wpList P ops Q rest (a.put o.dst (.slice A' (n + 1) c')) w') :
    wpList P ops Q (o :: rest) a w := by
  subst hn
  obtain ⟨i, hi0, hz, hsz, hbs⟩ := info_parts hi
  have hle : xs.length + 1 ≤ 281474976710656 := Nat.le_trans (Nat.le_trans (by omega) (Nat.le_mul_of_pos_right ((xs.length + 1) + (xs.length + 1) / 4 + 192) hby)) hlen
  refine wpList_append_own_wide _ hgd v y t ho base e i z s.sz bytes ht hi0 hz hsz hbs hzs hs0 _ xs.length (s.all xs) hs hown
    ⟨g, 0, none⟩ 1 1 (s.cells x) hy (by rw [s.len, Nat.one_mul]) ?_ (s.one x) (by unfold maxLen; omega) hlen hbase ?_
  · intro j u hj
    rw [show (⟨g, 0, none⟩ : Addr).add j = ⟨g, j, none⟩ from by unfold Addr.add; split <;> simp_all]
    rw [cell_of_row w g j _ _ (0, 0) hg, ← hj]
    simp
  · intro v' w' hown' hgr _
    have hform : ∃ A' c', v' = .slice A' (xs.length + 1) c' := by
      rcases hown'.2 with ⟨_, h0⟩ | ⟨g, cap, cur, hv, _⟩
      · omega
      · exact ⟨_, _, hv⟩
    obtain ⟨A', c', rfl⟩ := hform
    have hb' : Below base w0 w' := Below.grown hb hgr hbase (fun g hg' => (hown.lt g hg').1)
    refine h A' c' w' ?_ hgr hb' ?_
    · unfold OwnG
      rw [List.length_append, Shape.all_snoc]
      exact hown'
    · have := hgr.size
      omega

/-- Elements that the call has just written out, in a block of its own. -/
theorem RdG.lit (s : Shape T) (e : TypeId) (w : World) (xs : List T) {b n : Nat} (hb : w.heap.size = b) (hn : xs.length = n) : RdG s (w.alloc (.cells (s.all xs).toArray e)) (some ⟨b, 0, none⟩) n xs := by
  subst hb
  subst hn
  refine ⟨rfl, fun hn => ⟨w.heap.size, 0, rfl, by simp, fun j x hj i u hu => ?_⟩⟩
  rw [cell_of_row _ w.heap.size _ _ e (0, 0) (heap_alloc_new w _), Nat.zero_add]
  simpa using Shape.all_at hj hu
end

/-- Numbers with a sign, 64 bits each. -/
def shZ : Shape Int := ⟨fun x => [.int .i64 x], 1, fun _ => rfl, by intro x u hu; simp at hu; subst hu; rfl⟩
/-- Two numbers with a sign: a run's value and its count. -/
def shR : Shape (Int × Int) := ⟨fun x => [.int .i64 x.1, .int .i64 x.2], 2, fun _ => rfl, by intro x u hu; simp at hu; rcases hu with rfl | rfl <;> rfl⟩

theorem shZ.all (xs : List Int) : shZ.all xs = xs.map (Value.int .i64) := by
  induction xs with
  | nil => rfl
  | cons x r ih => rw [Shape.all_cons, ih]; rfl

theorem RdG.atZ {w : World} {A : Option Addr} {n : Nat} {xs : List Int} (h : RdG shZ w A n xs) {j : Nat} (hj : j < n) :
    ∃ b o, A = some ⟨b, o, none⟩ ∧ b < w.heap.size ∧ w.cell? ⟨b, o + j, none⟩ = some (.int .i64 (xs.getD j 0)) := by
  obtain ⟨b, o, x, e, hb, hx, hc⟩ := h.at_ hj
  refine ⟨b, o, e, hb, ?_⟩
  have h1 := hc 0 (.int .i64 x) rfl
  rw [show o + j * shZ.sz + 0 = o + j from by show o + j * 1 + 0 = o + j; omega] at h1
  rw [h1, List.getD, hx]
  rfl
theorem RdG.atR {w : World} {A : Option Addr} {n : Nat} {xs : List (Int × Int)} (h : RdG shR w A n xs) {j : Nat} (hj : j < n) :
    ∃ b o, A = some ⟨b, o, none⟩ ∧ b < w.heap.size ∧ w.cell? ⟨b, o + j * 2, none⟩ = some (.int .i64 (xs.getD j (0, 0)).1) ∧ w.cell? ⟨b, o + j * 2 + 1, none⟩ = some (.int .i64 (xs.getD j (0, 0)).2) := by
  obtain ⟨b, o, x, e, hb, hx, hc⟩ := h.at_ hj
  refine ⟨b, o, e, hb, ?_, ?_⟩
  · have h1 := hc 0 (.int .i64 x.1) rfl
    rw [show o + j * shR.sz + 0 = o + j * 2 from rfl] at h1
    rw [h1, List.getD, hx]
    rfl
  · have h1 := hc 1 (.int .i64 x.2) rfl
    rw [show o + j * shR.sz + 1 = o + j * 2 + 1 from rfl] at h1
    rw [h1, List.getD, hx]
    rfl

theorem take_nextG {T : Type} (xs : List T) (j : Nat) {x : T} (h : xs[j]? = some x) : xs.take (j + 1) = xs.take j ++ [x] := by
  obtain ⟨h1, rfl⟩ := List.getElem?_eq_some_iff.1 h
  rw [List.take_succ_eq_append_getElem h1]

end Go.Proofs.Ytjckfbpdnpehcaa
