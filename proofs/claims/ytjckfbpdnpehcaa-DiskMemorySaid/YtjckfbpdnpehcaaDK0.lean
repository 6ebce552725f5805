/-
  Layer 14: a directory: a map of pointers to files.
-/
import Derived.Test.YtjckfbpdnpehcaaTX
import Derived.Test.YtjckfbpdnpehcaaCLm
import Derived.Test.YtjckfbpdnpehcaaCS
import Derived.Maps.Own
import Derived.Maps.OwnOps
import Derived.Maps.OwnSet
import Derived.Maps.RangeWalk
import Derived.StringKeys
namespace Go.Proofs.Ytjckfbpdnpehcaa
open Go.RowKit Go.Maps Go.WideMaps
set_option maxRecDepth 100000

/-- How a pointer to a file reads: the file's block. -/
def ptrR (v : Value) : Option (DataW Nat × List MemPlace) :=
  match v with
  | .pointer none => some (.nil, [])
  | .pointer (some ⟨q, 0, none⟩) => some (.held q, [])
  | _ => none
def ptrV : Option Nat → Value
  | none => .pointer none
  | some q => .pointer (some ⟨q, 0, none⟩)
def ptrD : Option Nat → DataW Nat
  | none => .nil
  | some q => .held q
theorem ptrR_V (p : Option Nat) : ptrR (ptrV p) = some (ptrD p, []) := by cases p <;> rfl
theorem ptrR_inv {v : Value} {d : DataW Nat} {ps : List MemPlace} (h : ptrR v = some (d, ps)) : ∃ p, v = ptrV p ∧ d = ptrD p := by
  unfold ptrR at h
  split at h
  · injection h with h; injection h with h1 h2; exact ⟨none, rfl, h1.symm⟩
  · rename_i q; injection h with h; injection h with h1 h2; exact ⟨some q, rfl, h1.symm⟩
  · cases h
theorem ptrD_inj {p q : Option Nat} (h : ptrD p = ptrD q) : p = q := by
  cases p <;> cases q <;> simp [ptrD] at h ⊢
  exact h

/-- A name as a value. -/
abbrev nm (x : List UInt8) : Value := .string ⟨x.toArray⟩
theorem nm_key {x : List UInt8} (h : x.length ≤ maxLen) : keyOf Try.prog 9 (nm x) = some (.string x) := by
  have := keyOf_string_mk (P := Try.prog) Try.underlying9 (s := ⟨x.toArray⟩) (by simpa [ByteArray.size] using h)
  simpa using this

/-- A directory: names in order, each with its file's number. -/
abbrev Dir := List (List UInt8 × Nat)
def lkp (d : Dir) (x : List UInt8) : Option Nat := (d.find? fun e => decide (e.1 = x)).map (·.2)
def putD (d : Dir) (x : List UInt8) (q : Nat) : Dir := (d.filter fun e => decide (e.1 < x)) ++ (x, q) :: (d.filter fun e => decide (x < e.1))
def delD (d : Dir) (x : List UInt8) : Dir := d.filter fun e => decide (e.1 ≠ x)
def AscD (d : Dir) : Prop := d.Pairwise fun a b => a.1 < b.1

theorem lt_tri (x y : List UInt8) : x < y ∨ x = y ∨ y < x := by
  rcases Classical.em (x < y) with h | h
  · exact .inl h
  rcases Classical.em (y < x) with h2 | h2
  · exact .inr (.inr h2)
  exact .inr (.inl (List.le_antisymm (List.not_lt.1 h2) (List.not_lt.1 h)))

theorem lkp_mem {d : Dir} (ha : AscD d) {x : List UInt8} {q : Nat} : lkp d x = some q ↔ (x, q) ∈ d := by
  induction d with
  | nil => simp [lkp]
  | cons e r ih =>
    obtain ⟨y, p⟩ := e
    have ha2 := List.pairwise_cons.1 ha
    by_cases h : y = x
    · subst h
      simp only [lkp, List.find?_cons, decide_true, Option.map_some, List.mem_cons, Prod.mk.injEq, true_and]
      constructor
      · intro h; injection h with h; exact .inl h.symm
      · rintro (h | h)
        · rw [h]
        · exact absurd (ha2.1 _ h) (List.lt_irrefl _)
    · have : lkp ((y, p) :: r) x = lkp r x := by simp [lkp, h]
      rw [this, ih ha2.2]
      simp [Ne.symm h]

theorem asc_put {d : Dir} (ha : AscD d) (x : List UInt8) (q : Nat) : AscD (putD d x q) := by
  refine List.pairwise_append.2 ⟨ha.filter _, List.pairwise_cons.2 ⟨fun e he => ?_, ha.filter _⟩, fun a h1 b h2 => ?_⟩
  · exact of_decide_eq_true (List.mem_filter.1 he).2
  · have h3 := of_decide_eq_true (List.mem_filter.1 h1).2
    rcases List.mem_cons.1 h2 with rfl | h2
    · exact h3
    · exact List.lt_trans h3 (of_decide_eq_true (List.mem_filter.1 h2).2)
theorem asc_del {d : Dir} (ha : AscD d) (x : List UInt8) : AscD (delD d x) := ha.filter _

theorem mem_put {d : Dir} {x y : List UInt8} {q p : Nat} : (y, p) ∈ putD d x q ↔ (y = x ∧ p = q) ∨ (y ≠ x ∧ (y, p) ∈ d) := by
  simp only [putD, List.mem_append, List.mem_filter, List.mem_cons, Prod.mk.injEq, decide_eq_true_eq]
  constructor
  · rintro (⟨h1, h2⟩ | h | ⟨h1, h2⟩)
    · exact .inr ⟨fun e => by subst e; exact List.lt_irrefl _ h2, h1⟩
    · exact .inl h
    · exact .inr ⟨fun e => by subst e; exact List.lt_irrefl _ h2, h1⟩
  · rintro (h | ⟨h1, h2⟩)
    · exact .inr (.inl h)
    · rcases lt_tri y x with h | h | h
      · exact .inl ⟨h2, h⟩
      · exact absurd h h1
      · exact .inr (.inr ⟨h2, h⟩)
theorem mem_del {d : Dir} {x y : List UInt8} {p : Nat} : (y, p) ∈ delD d x ↔ y ≠ x ∧ (y, p) ∈ d := by
  simp [delD, List.mem_filter, and_comm]

theorem lkp_put {d : Dir} (ha : AscD d) (x y : List UInt8) (q : Nat) : lkp (putD d x q) y = if y = x then some q else lkp d y := by
  by_cases h : y = x
  · rw [if_pos h]
    exact (lkp_mem (asc_put ha x q)).2 (mem_put.2 (.inl ⟨h, rfl⟩))
  · rw [if_neg h]
    apply Option.ext
    intro p
    rw [lkp_mem (asc_put ha x q), lkp_mem ha, mem_put]
    simp [h]
theorem lkp_del {d : Dir} (ha : AscD d) (x y : List UInt8) : lkp (delD d x) y = if y = x then none else lkp d y := by
  by_cases h : y = x
  · rw [if_pos h]
    apply Option.ext
    intro p
    rw [lkp_mem (asc_del ha x), mem_del]
    simp [h]
  · rw [if_neg h]
    apply Option.ext
    intro p
    rw [lkp_mem (asc_del ha x), lkp_mem ha, mem_del]
    simp [h]

theorem len_split {d : Dir} (ha : AscD d) (x : List UInt8) : (d.filter fun e => decide (e.1 < x)).length + (d.filter fun e => decide (x < e.1)).length + (if (lkp d x).isSome then 1 else 0) = d.length := by
  induction d with
  | nil => rfl
  | cons e r ih =>
    obtain ⟨y, p⟩ := e
    have ha2 := List.pairwise_cons.1 ha
    have ih := ih ha2.2
    rcases lt_tri y x with h | h | h
    · have h1 : ¬ x < y := fun q => List.lt_irrefl _ (List.lt_trans h q)
      have h2 : lkp ((y, p) :: r) x = lkp r x := by
        have : y ≠ x := fun e => by subst e; exact List.lt_irrefl _ h
        simp [lkp, this]
      rw [h2, List.filter_cons, List.filter_cons, if_pos (by simpa using h), if_neg (by simpa using h1), List.length_cons, List.length_cons]
      omega
    · subst h
      have h1 : ¬ y < y := List.lt_irrefl _
      have h2 : lkp ((y, p) :: r) y = some p := by simp [lkp]
      have h3 : (lkp r y).isSome = false := by
        cases hl : lkp r y with
        | none => rfl
        | some q => exact absurd (ha2.1 _ ((lkp_mem ha2.2).1 hl)) h1
      rw [h3] at ih
      rw [h2, List.filter_cons, List.filter_cons, if_neg (by simp), if_neg (by simp), List.length_cons]
      simp at ih ⊢
      omega
    · have h1 : ¬ y < x := fun q => List.lt_irrefl _ (List.lt_trans h q)
      have h2 : lkp ((y, p) :: r) x = lkp r x := by
        have : y ≠ x := fun e => by subst e; exact List.lt_irrefl _ h
        simp [lkp, this]
      rw [h2, List.filter_cons, List.filter_cons, if_neg (by simpa using h1), if_pos (by simpa using h), List.length_cons, List.length_cons]
      omega
theorem len_put {d : Dir} (ha : AscD d) (x : List UInt8) (q : Nat) : (putD d x q).length = if (lkp d x).isSome then d.length else d.length + 1 := by
  have := len_split ha x
  unfold putD
  rw [List.length_append, List.length_cons]
  split at this
  · rename_i h; rw [if_pos h]; omega
  · rename_i h; rw [if_neg h]; omega
theorem len_del {d : Dir} (ha : AscD d) (x : List UInt8) : (delD d x).length + (if (lkp d x).isSome then 1 else 0) = d.length := by
  induction d with
  | nil => rfl
  | cons e r ih =>
    obtain ⟨y, p⟩ := e
    have ha2 := List.pairwise_cons.1 ha
    have ih := ih ha2.2
    by_cases h : y = x
    · subst h
      have h2 : lkp ((y, p) :: r) y = some p := by simp [lkp]
      have h3 : (lkp r y).isSome = false := by
        cases hl : lkp r y with
        | none => rfl
        | some q => exact absurd (ha2.1 _ ((lkp_mem ha2.2).1 hl)) (List.lt_irrefl _)
      rw [h3] at ih
      rw [h2]
      unfold delD at ih ⊢
      rw [List.filter_cons, if_neg (by simp), List.length_cons]
      simp at ih ⊢
      omega
    · have h2 : lkp ((y, p) :: r) x = lkp r x := by simp [lkp, h]
      rw [h2]
      unfold delD at ih ⊢
      rw [List.filter_cons, if_pos (by simpa using h), List.length_cons, List.length_cons]
      omega

/-- The map's datum is the directory. -/
structure DM (D : DataW Nat) (d : Dir) : Prop where
  asc : AscD d
  size : Maps.size D = d.length
  at_ : ∀ x, D.atKey (.string x) .nil = ptrD (lkp d x)
  has : ∀ x, Maps.has D (.string x) = (lkp d x).isSome

/-- Block b is a map that is the directory d. -/
def DirR (w : World) (b : Nat) (d : Dir) : Prop := ∃ D, w.ownsMap Try.prog 9 ptrR b d.length D ∧ DM D d

section
variable {w w' : World} {b : Nat} {d : Dir}
theorem DirR.lt (h : DirR w b d) : b < w.heap.size := by obtain ⟨D, h1, _⟩ := h; exact h1.lt
theorem DirR.kept {row : Option Nat} (h : DirR w b d) (hg : w.grownBy w' row) (hne : some b ≠ row) : DirR w' b d := by
  obtain ⟨D, h1, h2⟩ := h
  exact ⟨D, h1.kept hg hne, h2⟩
theorem DirR.blk (h : DirR w b d) (hb : w'.heap[b]? = w.heap[b]?) : DirR w' b d := by
  obtain ⟨D, ⟨es, clock, h1, h2, h3, h4⟩, h5⟩ := h
  exact ⟨D, ⟨es, clock, hb.trans h1, h2, h3, h4⟩, h5⟩
theorem DirR.ext (h : DirR w b d) (he : Ext w w') : DirR w' b d := h.blk (he.block b h.lt)
theorem DirR.asc (h : DirR w b d) : AscD d := by obtain ⟨D, _, h2⟩ := h; exact h2.asc
theorem dir_new (w : World) : DirR (w.alloc (.map #[] 0)) w.heap.size [] :=
  ⟨_, World.ownsMap_made w _ _ _, ⟨List.Pairwise.nil, rfl, fun _ => rfl, fun _ => rfl⟩⟩

theorem ownsMap_size {D : DataW Nat} {n : Nat} (h : w.ownsMap Try.prog 9 ptrR b n D) : w.ownsMap Try.prog 9 ptrR b (Maps.size D) D := by
  obtain ⟨es, clock, h1, h2, h3, rfl⟩ := h
  exact ⟨es, clock, h1, h2, by simp [Maps.size, length_sorted], rfl⟩

/-- 'dir[name]'. -/
theorem DirR.look (h : DirR w b d) {x : List UInt8} (hx : x.length ≤ maxLen) : (Instr.lookup 84 (.map (some b)) (nm x) false).run Try.prog w = .ok (ptrV (lkp d x)) w := by
  obtain ⟨D, h1, h2⟩ := h
  obtain ⟨v, ps, hrun, hv⟩ := h1.lookup (string_keyed Try.underlying9) Try.underlying84 (z := .pointer none) (by rfl) (zd := .nil) (zp := []) rfl (nm_key hx)
  obtain ⟨p, rfl, hp⟩ := ptrR_inv hv
  rw [h2.at_] at hp
  rw [hrun, ptrD_inj hp]

theorem key_lit (x : List UInt8) : WideAt.IsKeyLit (.string x) := trivial
theorem lit_ne {x y : List UInt8} (h : ¬ y = x) : (Lit.string y) ≠ (Lit.string x) := fun e => by injection e with e; exact h e

theorem DM.put {D : DataW Nat} (h : DM D d) (hT : Tidy D) (x : List UInt8) (q : Nat) : DM (D.put (.string x) (.held q)) (putD d x q) := by
  refine ⟨asc_put h.asc x q, ?_, fun y => ?_, fun y => ?_⟩
  · rw [size_put hT, h.has, h.size, len_put h.asc]
  · rw [lkp_put h.asc]
    by_cases e : y = x
    · subst e; rw [if_pos rfl, atKey_put_same hT.isMap (key_lit y)]; rfl
    · rw [if_neg e, atKey_put_other (lit_ne e), h.at_]
  · rw [lkp_put h.asc]
    by_cases e : y = x
    · subst e; rw [if_pos rfl, has_put_same hT.isMap (key_lit y)]; rfl
    · rw [if_neg e, has_put_other (lit_ne e), h.has]
theorem DM.del {D : DataW Nat} (h : DM D d) (hT : Tidy D) (x : List UInt8) : DM (D.del (.string x)) (delD d x) := by
  refine ⟨asc_del h.asc x, ?_, fun y => ?_, fun y => ?_⟩
  · have h1 := size_del hT (k := .string x)
    have h2 := len_del h.asc x
    rw [h.has, h.size] at h1
    omega
  · rw [lkp_del h.asc]
    by_cases e : y = x
    · subst e; rw [if_pos rfl, atKey_del_same]; rfl
    · rw [if_neg e, atKey_del_other (lit_ne e), h.at_]
  · rw [lkp_del h.asc]
    by_cases e : y = x
    · subst e; rw [if_pos rfl, has_del_same]; rfl
    · rw [if_neg e, has_del_other (lit_ne e), h.has]

theorem DirR.mk' {D : DataW Nat} {n : Nat} (h : w.ownsMap Try.prog 9 ptrR b n D) (hd : DM D d) : DirR w b d := ⟨D, by have := ownsMap_size h; rwa [hd.size] at this, hd⟩
end

section
variable {w : World} {ops : Array Oper} {rest : List Oper} {o : Oper} {a : Act} {Q : Exit → Act → World → Prop} {b : Nat} {d : Dir}
/-- 'dir[name] = f' in a walk. -/
theorem wpList_dirPut (hg : o.guard = none) (m x v : Operand) (hop : o.op = Op.mapUpdate 84 m x v) (hm : a.eval m = .map (some b)) (h : DirR w b d) (hl : d.length < maxLen) {k : List UInt8} {q : Nat} (hk : k.length ≤ maxLen) (hx : a.eval x = nm k) (hv : a.eval v = .pointer (some ⟨q, 0, none⟩))
    (hK : ∀ w', DirR w' b (putD d k q) → w.grownBy w' (some b) → wpList Try.prog ops Q rest (a.put o.dst undef) w') : wpList Try.prog ops Q (o :: rest) a w := by
  obtain ⟨D, h1, h2⟩ := h
  exact wpList_mapUpdate_own w hg m x v _ hop 9 94 (string_keyed Try.underlying9) Try.underlying84 ptrR b d.length D hm h1 hl (nm k) (.pointer (some ⟨q, 0, none⟩)) (.string k) hx hv (nm_key hk) (.held q) [] rfl
    (fun w' k1 k2 => hK w' (DirR.mk' k1 (h2.put (h1.tidy (string_keyed Try.underlying9)) k q)) k2)
/-- 'delete(dir, name)' in a walk. -/
theorem wpList_dirDel (hg : o.guard = none) (m x : Operand) (hop : o.op = Op.call { callee := Callee.builtin Builtin.delete, args := #[m, x], argTypes := #[84, 9] }) (hm : a.eval m = .map (some b)) (h : DirR w b d) {k : List UInt8} (hk : k.length ≤ maxLen) (hx : a.eval x = nm k)
    (hK : ∀ w', DirR w' b (delD d k) → w.grownBy w' (some b) → wpList Try.prog ops Q rest (a.put o.dst (.tuple #[])) w') : wpList Try.prog ops Q (o :: rest) a w := by
  obtain ⟨D, h1, h2⟩ := h
  exact wpList_delete_own w hg m x _ _ hop 94 (string_keyed Try.underlying9) Try.underlying84 ptrR b d.length D hm h1 (nm k) (.string k) hx (nm_key hk)
    (fun w' k1 k2 => hK w' (DirR.mk' k1 (h2.del (h1.tidy (string_keyed Try.underlying9)) k)) k2.grown)
/-- 'len(dir)'. -/
theorem DirR.run_len (h : DirR w b d) (ty : TypeId) : (Builtin.len_ #[84] ty #[.map (some b)]).run Try.prog w = .ok (.int .i64 (d.length : Int)) w := by
  obtain ⟨D, h1, h2⟩ := h
  rw [h1.len Try.underlying84, h2.size]
end

end Go.Proofs.Ytjckfbpdnpehcaa
