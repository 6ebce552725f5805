import Derived.Test.YtjckfbpdnpehcaaR1

-- part SL
/-
  Rows of slices of bytes of the call's own.
-/
namespace Go.Proofs.Ytjckfbpdnpehcaa
open Go.RowKit

theorem Try.infoS : (Try.prog.info? 22).map (fun i => (i.zero, i.size, i.bytes)) = some (some (.slice none 0 0), 1, 24) := by kernel_rfl

/-- A slice that lies somewhere, and what it reads as. -/
structure Sl where
  A : Option Addr
  c : Nat
  body : List Nat

def Sl.v (s : Sl) : Value := .slice s.A s.body.length s.c

/-- A row of slices of the call's own. -/
def OwnS (w : World) (base : Nat) (A : Option Addr) (c : Nat) (ss : List Sl) : Prop := w.ownsRow base 22 1 (.slice A ss.length c) ss.length (ss.map Sl.v)

theorem OwnS.made {base : Nat} (w : World) (hb : base ≤ w.heap.size) : OwnS (w.alloc (.cells #[] 22)) base (some ⟨w.heap.size, 0, none⟩) 0 [] :=
  World.ownsRow_made w #[] 0 hb (by simp [maxLen]) (by simp)
theorem OwnS.ext {w w' : World} {base c : Nat} {A : Option Addr} {ss : List Sl} (h : OwnS w base A c ss) (hb : Ext w w') : OwnS w' base A c ss := by
  refine World.ownsRow.kept (row := none) h ⟨hb.os, hb.tape, hb.output, hb.size, fun i hi _ => hb.block i hi⟩ ?_
  cases hv : (Value.slice A ss.length c).ownBlock <;> simp

/-- 'append(out, s)'. -/
theorem wpList_pushS {w0 w : World} {ops : Array Oper} {rest : List Oper} {o : Oper} {a : Act} {Q : Exit → Act → World → Prop} (f : Sl) (hgd : o.guard = none) (s y : Operand)
    (ho : o.op = .call { callee := .builtin .append, args := #[s, y], argTypes := #[73, 73] })
    {base : Nat} {A : Option Addr} {c : Nat} {ss : List Sl} (hown : OwnS w base A c ss) (n : Nat) (hn : ss.length = n) (hs : a.eval s = .slice A n c)
    {g : Nat} (hy : a.eval y = .slice (some ⟨g, 0, none⟩) 1 1) (hg : w.heap[g]? = some (.cells #[.slice f.A f.body.length f.c] 22))
    (hlen : n ≤ 1048576) (hb : Below base w0 w) (hbase : base ≤ w.heap.size)
    (h : ∀ A' c' w', OwnS w' base A' c' (ss ++ [f]) → Below base w0 w' → base ≤ w'.heap.size → wpList Try.prog ops Q rest (a.put o.dst (.slice A' (n + 1) c')) w') :
    wpList Try.prog ops Q (o :: rest) a w := by
  subst hn
  obtain ⟨i, hi0, hz, hsz, hbs⟩ := info_parts Try.infoS
  refine wpList_append_own_wide w hgd s y 73 ho base 22 i _ 1 24 Try.underlying73 hi0 hz hsz hbs rfl (by decide) _ ss.length (ss.map Sl.v) hs hown
    ⟨g, 0, none⟩ 1 1 [f.v] hy rfl ?_ ?_ (by unfold maxLen; omega) (by omega) hbase ?_
  · intro j u hj
    match j, hj with
    | 0, hj =>
      simp at hj
      subst hj
      have := cell_of_row w g 0 _ _ (0, 0) hg
      simpa [Addr.add, Sl.v] using this
  · intro u hu
    simp at hu
    subst hu
    rfl
  · intro v' w' hown' hgr _
    have hform : ∃ A' c', v' = .slice A' (ss.length + 1) c' := by
      rcases hown'.2 with ⟨_, h0⟩ | ⟨g, cap, cur, hv, _⟩
      · omega
      · exact ⟨_, _, hv⟩
    obtain ⟨A', c', rfl⟩ := hform
    have hb' : Below base w0 w' := Below.grown hb hgr hbase (fun g hg' => (hown.lt g hg').1)
    refine h A' c' w' ?_ hb' ?_
    · unfold OwnS
      rw [List.length_append, List.map_append]
      exact hown'
    · have := hgr.size
      omega

theorem Own.zero {k : IntKind} {e : TypeId} {w : World} {base c : Nat} {A : Option Addr} {xs : List Nat} (h : Own k e w base A c xs) : Own k e w 0 A c xs :=
  ⟨h.1, h.2.imp id fun ⟨g, cap, cur, h1, _, h3⟩ => ⟨g, cap, cur, h1, Nat.zero_le _, h3⟩⟩

theorem OwnS.block {w : World} {base c : Nat} {A : Option Addr} {ss : List Sl} (h : OwnS w base A c ss) : ∀ a, A = some a → base ≤ a.block ∧ a.block < w.heap.size := by
  rintro a rfl
  exact h.lt a.block rfl

end Go.Proofs.Ytjckfbpdnpehcaa

-- part F7
/-
  Helpers that all references share: lists of bytes as wanted, and memory apart from one another, spare room too.
-/
namespace Go.Proofs.Ytjckfbpdnpehcaa
open Go.RowKit

/-- Nothing has turned but rows of these slices; there may be more. -/
structure Kept (w wr : World) (ss : List Sl) : Prop where
  os : wr.os = w.os
  tape : wr.tape = w.tape
  output : wr.output = w.output
  size : w.heap.size ≤ wr.heap.size
  block : ∀ b, b < w.heap.size → (∀ s ∈ ss, ∀ p, s.A = some p → p.block ≠ b) → wr.heap[b]? = w.heap[b]?

theorem Kept.refl (w : World) (ss : List Sl) : Kept w w ss := ⟨rfl, rfl, rfl, Nat.le_refl _, fun _ _ _ => rfl⟩
theorem Kept.ext {w wr w' : World} {ss : List Sl} (h : Kept w wr ss) (he : Ext wr w') : Kept w w' ss :=
  ⟨he.os.trans h.os, he.tape.trans h.tape, he.output.trans h.output, Nat.le_trans h.size he.size, fun b hb hn => (he.block b (Nat.lt_of_lt_of_le hb h.size)).trans (h.block b hb hn)⟩
theorem Kept.grown {w wr w' : World} {ss : List Sl} {row : Option Nat} (h : Kept w wr ss) (hg : wr.grownBy w' row) (hr : ∀ g, row = some g → w.heap.size ≤ g ∨ ∃ s ∈ ss, ∃ p, s.A = some p ∧ p.block = g) : Kept w w' ss :=
  ⟨hg.os.trans h.os, hg.tape.trans h.tape, hg.output.trans h.output, Nat.le_trans h.size hg.size, fun b hb hn => (hg.block b (Nat.lt_of_lt_of_le hb h.size) (fun e => by
    rcases hr b e.symm with h1 | ⟨s, hs, p, hp, hpb⟩
    · omega
    · exact hn s hs p hp hpb)).trans (h.block b hb hn)⟩

/-- No row of these slices lies at that address. -/
def Far (ss : List Sl) (A : Option Addr) : Prop := ∀ s ∈ ss, ∀ p q, s.A = some p → A = some q → p.block ≠ q.block

theorem Rd.kept {k : IntKind} {w wr : World} {A : Option Addr} {n : Nat} {xs : List Nat} {ss : List Sl} (h : Rd k w A n xs) (hk : Kept w wr ss) (hf : 0 < n → Far ss A) : Rd k wr A n xs :=
  ⟨h.1, fun hn => by
    obtain ⟨b, o, e, hlt, hc⟩ := h.2 hn
    refine ⟨b, o, e, Nat.lt_of_lt_of_le hlt hk.size, fun j hj => ?_⟩
    rw [← hc j hj]
    exact World.cell?_of_block (a := ⟨b, o + j, none⟩) (hk.block b hlt (fun s hs p hp => hf hn s hs p _ hp e))⟩

/-- The slice of slices (A, n) holds the slices ss. -/
def RdL (w : World) (A : Option Addr) (n : Nat) (ss : List Sl) : Prop :=
  ss.length = n ∧ (0 < n → ∃ b o, A = some ⟨b, o, none⟩ ∧ b < w.heap.size ∧ ∀ j s, ss[j]? = some s → w.cell? ⟨b, o + j, none⟩ = some s.v)

theorem RdL.kept {w wr : World} {A : Option Addr} {n : Nat} {ss tt : List Sl} (h : RdL w A n tt) (hk : Kept w wr ss) (hf : 0 < n → Far ss A) : RdL wr A n tt :=
  ⟨h.1, fun hn => by
    obtain ⟨b, o, e, hlt, hc⟩ := h.2 hn
    refine ⟨b, o, e, Nat.lt_of_lt_of_le hlt hk.size, fun j s hj => ?_⟩
    rw [← hc j s hj]
    exact World.cell?_of_block (a := ⟨b, o + j, none⟩) (hk.block b hlt (fun s hs p hp => hf hn s hs p _ hp e))⟩

theorem OwnS.rdL {w : World} {base c : Nat} {A : Option Addr} {ss : List Sl} (h : OwnS w base A c ss) : RdL w A ss.length ss := by
  refine ⟨rfl, fun hn => ?_⟩
  rcases h.2 with ⟨_, h0⟩ | ⟨g, cap, cur, hv, hg, hh, hnc, hcm, hcs, htake⟩
  · omega
  · injection hv with hA hl hc
    subst hA
    refine ⟨g, 0, rfl, (Array.getElem?_eq_some_iff.1 hh).1, fun j s hj => ?_⟩
    have hjl : j < ss.length := (List.getElem?_eq_some_iff.1 hj).1
    rw [cell_of_row w g _ cur _ (0, 0) hh, Nat.zero_add]
    have h1 : (cur.toList.take (ss.length * 1))[j]? = some s.v := by rw [htake, List.getElem?_map, hj]; rfl
    rw [List.getElem?_take, if_pos (by omega)] at h1
    simpa using h1

theorem RdL.at_ {w : World} {A : Option Addr} {n : Nat} {ss : List Sl} (h : RdL w A n ss) {j : Nat} (hj : j < n) :
    ∃ b o s, A = some ⟨b, o, none⟩ ∧ ss[j]? = some s ∧ w.cell? ⟨b, o + j, none⟩ = some (.slice s.A s.body.length s.c) := by
  obtain ⟨b, o, e, hlt, hc⟩ := h.2 (by omega)
  have hjl : j < ss.length := by rw [h.1]; exact hj
  have hf : ss[j]? = some ss[j] := List.getElem?_eq_getElem hjl
  exact ⟨b, o, _, e, hf, hc j _ hf⟩

/-- The rows of unlike slices lie in unlike blocks. -/
def Unlike (ss : List Sl) : Prop := ∀ (i j : Nat) (s t : Sl), ss[i]? = some s → ss[j]? = some t → i ≠ j → ∀ p q, s.A = some p → t.A = some q → p.block ≠ q.block

/-- The first i slices are spoiled. -/
def St2 (wr : World) (ss : List Sl) (i : Nat) : Prop :=
  ∀ (j : Nat) (s : Sl), ss[j]? = some s → (j < i → Own .u8 5 wr 0 s.A s.c (s.body.map spl)) ∧ (i ≤ j → Own .u8 5 wr 0 s.A s.c s.body)

theorem St2.step {wr w' : World} {ss : List Sl} {i : Nat} {s : Sl} (h : St2 wr ss i) (hun : Unlike ss) (hs : ss[i]? = some s) (ho : Own .u8 5 w' 0 s.A s.c (s.body.map spl)) (hg : wr.grownBy w' (s.A.map (·.block))) : St2 w' ss (i + 1) := by
  have hne : ∀ (j : Nat) (t : Sl), ss[j]? = some t → j ≠ i → ∀ a, t.A = some a → some a.block ≠ s.A.map (·.block) := by
    intro j t ht hji a ha e
    cases hA : s.A with
    | none => rw [hA] at e; simp at e
    | some p => rw [hA] at e; simp at e; exact hun j i t s ht hs hji a p ha hA e
  intro j t ht
  constructor
  · intro hj
    by_cases hji : j = i
    · subst hji
      rw [hs] at ht
      injection ht with ht
      subst ht
      exact ho
    · exact ((h j t ht).1 (by omega)).grown hg (hne j t ht hji)
  · intro hj
    exact ((h j t ht).2 (by omega)).grown hg (hne j t ht (by omega))

/-- All slices read as spoiled; those from i on may be written. -/
def St3 (wr : World) (ss : List Sl) (i : Nat) : Prop :=
  ∀ (j : Nat) (s : Sl), ss[j]? = some s → Rd .u8 wr s.A s.body.length (s.body.map spl) ∧ (i ≤ j → Own .u8 5 wr 0 s.A s.c (s.body.map spl))

/-- While bytes go behind the i-th slice. -/
structure St4 (w wr : World) (ss : List Sl) (i : Nat) (s : Sl) (A' : Option Addr) (c' k : Nat) (ys : List Nat) : Prop where
  own : Own .u8 5 wr 0 A' c' ys
  len : ys.length = s.body.length + k
  pre : ys.take s.body.length = s.body.map spl
  at_ : ∀ p, A' = some p → s.A = some p ∨ w.heap.size ≤ p.block
  rest : St3 wr ss (i + 1)
  kept : Kept w wr ss

theorem St4.push {w wr w1 : World} {ss : List Sl} {i c' c1 k x : Nat} {s : Sl} {A' A1 : Option Addr} {ys : List Nat} (h : St4 w wr ss i s A' c' k ys) (hun : Unlike ss) (hs : ss[i]? = some s)
    (hlt : ∀ t ∈ ss, ∀ p, t.A = some p → p.block < w.heap.size)
    (ho : Own .u8 5 w1 0 A1 c1 (ys ++ [x])) (hw : A1 = A' ∧ wr.grownBy w1 (A'.map (·.block)) ∨ Ext wr w1 ∧ ∀ q, A1 = some q → wr.heap.size ≤ q.block) :
    St4 w w1 ss i s A1 c1 (k + 1) (ys ++ [x]) := by
  have hp : (ys ++ [x]).take s.body.length = s.body.map spl := by rw [List.take_append_of_le_length (by have := h.len; omega)]; exact h.pre
  have hl : (ys ++ [x]).length = s.body.length + (k + 1) := by have := h.len; simp; omega
  rcases hw with ⟨rfl, hg⟩ | ⟨he, hq⟩
  · have hne : ∀ (j : Nat) (t : Sl), ss[j]? = some t → j ≠ i → ∀ a, t.A = some a → some a.block ≠ A1.map (·.block) := by
      intro j t ht hji a ha e
      cases hA : A1 with
      | none => rw [hA] at e; simp at e
      | some p =>
        rw [hA] at e
        simp at e
        rcases h.at_ p hA with h1 | h1
        · exact hun j i t s ht hs hji a p ha h1 e
        · have := hlt t (List.mem_of_getElem? ht) a ha
          omega
    refine ⟨ho, hl, hp, h.at_, fun j t ht => ?_, h.kept.grown hg ?_⟩
    · refine ⟨?_, fun hj => ((h.rest j t ht).2 hj).grown hg (hne j t ht (by omega))⟩
      by_cases hji : j = i
      · subst hji
        rw [hs] at ht
        injection ht with ht
        subst ht
        by_cases h0 : 0 < s.body.length
        · obtain ⟨b, o, hA, hb, _⟩ := (h.rest j s hs).1.2 h0
          obtain ⟨b', hA'⟩ := h.own.head (by have := h.len; omega)
          rcases h.at_ _ hA' with e | e
          · have := ho.rd_take (n := s.body.length) (by omega)
            rw [hp, hA', ← e] at this
            exact this
          · refine (h.rest j s hs).1.grown hg ?_
            intro a ha e2
            rw [hA'] at e2
            simp at e2
            have h3 := hlt s (List.mem_of_getElem? hs) a ha
            have h4 : w.heap.size ≤ b' := e
            omega
        · exact ⟨(h.rest j s hs).1.1, fun q => absurd q h0⟩
      · exact (h.rest j t ht).1.grown hg (hne j t ht hji)
    · intro g hg'
      cases hA : A1 with
      | none => rw [hA] at hg'; simp at hg'
      | some p =>
        rw [hA] at hg'
        simp at hg'
        subst hg'
        rcases h.at_ p hA with h1 | h1
        · exact .inr ⟨s, List.mem_of_getElem? hs, p, h1, rfl⟩
        · exact .inl h1
  · exact ⟨ho, hl, hp, fun p hp => .inr (Nat.le_trans h.kept.size (hq p hp)), fun j t ht => ⟨(h.rest j t ht).1.ext he, fun hj => ((h.rest j t ht).2 hj).ext he⟩, h.kept.ext he⟩

end Go.Proofs.Ytjckfbpdnpehcaa

-- part F8
/-
  The document's answers: lists of bytes as wanted, and memory apart from one another.
-/
namespace Go.Proofs.Ytjckfbpdnpehcaa
open Go.RowKit

theorem mod256' {k i : Nat} : IntKind.u8.wrap ((k : Int) + (i : Int)) = (((k + i) % 256 : Nat) : Int) := by rw [IntKind.wrap_u8']; omega

theorem St3.next {wr : World} {ss : List Sl} {i : Nat} (h : St3 wr ss i) : St3 wr ss (i + 1) := fun j s hs => ⟨(h j s hs).1, fun hj => (h j s hs).2 (by omega)⟩
theorem St2.all {wr : World} {ss : List Sl} {n : Nat} (h : St2 wr ss n) (hn : ss.length = n) : St3 wr ss 0 := fun j s hs => by
  have hj : j < n := by rw [← hn]; exact (List.getElem?_eq_some_iff.1 hs).1
  have ho := (h j s hs).1 hj
  exact ⟨ho.rd' (by rw [List.length_map]), fun _ => ho⟩

set_option maxHeartbeats 1600000 in
theorem apartAll_any (A A' : Option Addr) (n c c' : Nat) (ss ts : List Sl) (w : World) (hx : RdL w A n ss) (hy : RdL w A' n ts) (hb : ss.map Sl.body = ts.map Sl.body) (hn : n ≤ 1048576)
    (hs : ∀ s ∈ ss, Own .u8 5 w 0 s.A s.c s.body) (hu : ∀ s ∈ ss, U8 s.body) (hl : ∀ s ∈ ss, s.body.length ≤ 1048576) (ht : ∀ t ∈ ts, Rd .u8 w t.A t.body.length t.body) (hun : Unlike ss)
    (hfx : 0 < n → Far ss A) (hfy : 0 < n → Far ss A') (hft : ∀ t ∈ ts, 0 < t.body.length → Far ss t.A) :
    Calls Try.prog 39 #[.slice A n c, .slice A' n c'] w fun e w' => e = .returned (.bool true) ∧ Kept w w' ss := by
  have hblt : ∀ t ∈ ss, ∀ p, t.A = some p → p.block < w.heap.size := fun t ht p hp => ((hs t ht).block p hp).2
  have hpair : ∀ (j : Nat) (s t : Sl), ss[j]? = some s → ts[j]? = some t → t.body = s.body := by
    intro j s t h1 h2
    have e1 := congrArg (fun l : List (List Nat) => l[j]?) hb
    simp only [List.getElem?_map, h1, h2, Option.map_some] at e1
    injection e1 with e1
    exact e1.symm
  have Hl := Lib.hid hx.1
  clear hb
  go_enter Try.func39, Try.ntmps39
  go_wp2
  go_loopw [5] (fun i wr => ∃ j q : Nat, j ≤ n ∧ i = .int .i64 j ∧ wr = w.drewN q) (fun i _ => n - (intOf i).toNat)
  case atStart => exact ⟨0, 0, Nat.zero_le _, rfl, rfl⟩
  case round =>
    obtain ⟨j, q, hj, rfl, hw⟩ := hrel
    have hE : Ext w wr := by rw [hw]; exact (Ext.refl w).drewN q
    have hK : Kept w wr ss := (Kept.refl w ss).ext hE
    have Hw := Lib.hid hw
    clear hw
    by_cases hlt : j < n
    · obtain ⟨b, o, s, rfl, hf, h1⟩ := (hx.kept hK hfx).at_ hlt
      obtain ⟨b', o', t, rfl, hg, g1⟩ := (hy.kept hK hfy).at_ hlt
      have hbb := hpair j s t hf hg
      have h3 := ((hs s (List.mem_of_getElem? hf)).rd).ext hE
      have g3 := (ht t (List.mem_of_getElem? hg)).ext hE
      have hbf := hl s (List.mem_of_getElem? hf)
      rw [hbb] at g1 g3
      obtain ⟨sA, sc, body⟩ := s
      obtain ⟨tA, tc, tbody⟩ := t
      simp only at h1 h3 g1 g3 hbf
      clear hbb hf hg
      have hji : (j : Int) < (n : Int) := by omega
      have hbf2 : body.length ≤ 281474976710656 := by omega
      go_wp2_with fail
      go_quiet ((go_at_call 18; exact Calls.quiet_of (same_yes (h3.drewN _) (g3.drewN _) hbf2)))
      go_wp2
      go_roundw
      case rel => exact ⟨j + 1, _, by omega, by go_num, by rw [Hw.out, World.drewN_drewN]⟩
      case measure => simp [intOf]; omega
    · obtain rfl : j = n := by omega
      have h0 : St2 wr ss 0 := fun j s h => ⟨fun h2 => absurd h2 (by omega), fun _ => (hs s (List.mem_of_getElem? h)).ext hE⟩
      clear Hw hE q
      go_wp2
      go_loopw [6] (fun i wx => ∃ i2 : Nat, i2 ≤ j ∧ i = .int .i64 i2 ∧ Kept w wx ss ∧ St2 wx ss i2) (fun i _ => j - (intOf i).toNat)
      case atStart => exact ⟨0, Nat.zero_le _, rfl, hK, h0⟩
      case round =>
        clear h0 hK
        obtain ⟨i2, hi2, rfl, hK, hS⟩ := hrel
        by_cases hlt2 : i2 < j
        · obtain ⟨b, o, s, rfl, hf, h1⟩ := (hx.kept hK hfx).at_ hlt2
          have hm := List.mem_of_getElem? hf
          have ho := (hS i2 s hf).2 (Nat.le_refl _)
          have hbf := hl s hm
          have hus := hu s hm
          have HK := Lib.hid hK
          have HS := Lib.hid hS
          have Hf := Lib.hid hf
          clear hK hS hf
          go_wp2_with fail
          refine (spoil_any _ _ _ 0 _ _ ho rfl hus (by omega)).mono ?_
          rintro e w3 ⟨rfl, ho3, hg3⟩
          go_wp2
          go_roundw
          case rel => exact ⟨i2 + 1, by omega, by go_num, HK.out.grown hg3 (fun g hg => by
            cases hA : s.A with
            | none => rw [hA] at hg; simp at hg
            | some p => rw [hA] at hg; simp at hg; exact .inr ⟨s, hm, p, hA, hg⟩), HS.out.step hun Hf.out ho3 hg3⟩
          case measure => simp [intOf]; omega
        · obtain rfl : i2 = j := by omega
          have h0 := hS.all Hl.out
          clear hS
          go_wp2
          go_loopw [7, 8] (fun v i wx => ∃ i3 m : Nat, i3 ≤ i2 ∧ i = .int .i64 i3 ∧ v = .int .i64 m ∧ m ≤ i3 * 2097152 ∧ Kept w wx ss ∧ St3 wx ss i3) (fun _ i _ => i2 - (intOf i).toNat)
          case atStart => exact ⟨0, 0, Nat.zero_le _, rfl, rfl, by omega, hK, h0⟩
          case round =>
            clear h0 hK
            obtain ⟨i3, m, hi3, rfl, rfl, hmm, hK, hS⟩ := hrel
            by_cases hlt3 : i3 < i2
            · obtain ⟨b, o, s, rfl, hf, h1⟩ := (hx.kept hK hfx).at_ hlt3
              have hm := List.mem_of_getElem? hf
              have hbf := hl s hm
              have h4 : St4 w wr ss i3 s s.A s.c 0 (s.body.map spl) := ⟨(hS i3 s hf).2 (Nat.le_refl _), by simp, by rw [List.take_of_length_le (by simp)], fun p hp => .inl hp, hS.next, hK⟩
              have Hf := Lib.hid hf
              clear hK hS hf
              go_wp2
              go_loopw [9, 10] (fun v i wx => ∃ (k : Nat) (A1 : Option Addr) (c1 : Nat) (ys : List Nat), k ≤ 70 ∧ i = .int .i64 k ∧ v = .slice A1 (s.body.length + k : Nat) c1 ∧ St4 w wx ss i3 s A1 c1 k ys) (fun _ i _ => 70 - (intOf i).toNat)
              case atStart => exact ⟨0, _, _, _, Nat.zero_le _, rfl, rfl, h4⟩
              case round =>
                clear h4
                obtain ⟨k, A1, c1, ys, hk, rfl, rfl, h4⟩ := hrel
                by_cases hlt4 : k < 70
                · have hmod := mod256' (k := k) (i := i3)
                  have Hown := Lib.hid h4.own
                  have Hlen := Lib.hid h4.len
                  have H4 := Lib.hid h4
                  clear h4
                  go_wp2_with (at_builtin; refine wpList_push2 .u8 ((k + i3) % 256) 5 rfl _ _ 22 rfl _ 1 Try.underlying22 Try.infoU8 rfl Hown.out (s.body.length + k) Hlen.out rfl rfl (by first | rfl | exact hmod | omega | go_num) (by omega) (by omega) (Nat.zero_le _) ?_; intro A2 c2 w5 hown5 hw5 hz5)
                  have Hn := Lib.hid (H4.out.push hun Hf.out hblt hown5 hw5)
                  clear hown5 hw5 hz5
                  go_wp2
                  go_roundw
                  case rel => exact ⟨k + 1, A2, c2, _, by omega, by go_num, rfl, Hn.out⟩
                  case measure => simp [intOf]; omega
                · obtain rfl : k = 70 := by omega
                  have hS := h4.rest
                  have hK := h4.kept
                  clear h4
                  go_wp2
                  go_roundw
                  case rel => exact ⟨i3 + 1, m + (s.body.length + 70), by omega, by go_num, by go_num, by omega, hK, hS⟩
                  case measure => simp [intOf]; omega
            · obtain rfl : i3 = i2 := by omega
              obtain ⟨W3, hW3⟩ : ∃ W3, W3 = wr := ⟨_, rfl⟩
              rw [← hW3] at hK hS
              have HK := Lib.hid hK
              have HS := Lib.hid hS
              clear hK hS
              go_wp2
              go_loopw [11] (fun i wx => ∃ i4 q : Nat, i4 ≤ i3 ∧ i = .int .i64 i4 ∧ wx = W3.drewN q) (fun i _ => i3 - (intOf i).toNat)
              case atStart => exact ⟨0, 0, Nat.zero_le _, rfl, hW3.symm⟩
              case round =>
                obtain ⟨i4, q, hi4, rfl, hw⟩ := hrel
                have hE : Ext W3 wr := by rw [hw]; exact (Ext.refl _).drewN q
                have hK : Kept w wr ss := HK.out.ext hE
                have Hw := Lib.hid hw
                clear hw
                by_cases hlt4 : i4 < i3
                · obtain ⟨b, o, s, rfl, hf, h1⟩ := (hx.kept hK hfx).at_ hlt4
                  obtain ⟨b', o', t, rfl, hg, g1⟩ := (hy.kept hK hfy).at_ hlt4
                  have hbb := hpair i4 s t hf hg
                  have hmt := List.mem_of_getElem? hg
                  have h3 := (HS.out i4 s hf).1.ext hE
                  have g3 := (ht t hmt).kept hK (hft t hmt)
                  have hbf := hl s (List.mem_of_getElem? hf)
                  have hus := hu s (List.mem_of_getElem? hf)
                  rw [hbb] at g1 g3
                  obtain ⟨sA, sc, body⟩ := s
                  obtain ⟨tA, tc, tbody⟩ := t
                  simp only at h1 h3 g1 g3 hbf hus
                  clear hbb hf hg hmt hK
                  have hji : (i4 : Int) < (i3 : Int) := by omega
                  have hbf2 : body.length ≤ 281474976710656 := by omega
                  go_wp2_with fail
                  go_quiet ((go_at_call 76; exact Calls.quiet_of (turned_yes (h3.drewN _) (g3.drewN _) hus hbf2)))
                  go_wp2
                  go_roundw
                  case rel => exact ⟨i4 + 1, _, by omega, by go_num, by rw [Hw.out, World.drewN_drewN]⟩
                  case measure => simp [intOf]; omega
                · obtain rfl : i4 = i3 := by omega
                  go_wp2
                  go_ret
                  exact ⟨by simp, hK⟩

/-- The bodies lie between these two sizes of the memory. -/
def Within (ss : List Sl) (lo hi : Nat) : Prop := ∀ s ∈ ss, ∀ p, s.A = some p → lo ≤ p.block ∧ p.block < hi

theorem Within.far_hi {ss : List Sl} {lo hi : Nat} (h : Within ss lo hi) {A : Option Addr} (hA : ∀ a, A = some a → hi ≤ a.block) : Far ss A := by
  intro s hs p q hp hq
  have h1 := h s hs p hp
  have h2 := hA q hq
  omega
theorem Within.far_lo {ss : List Sl} {lo hi : Nat} (h : Within ss lo hi) {A : Option Addr} (hA : ∀ a, A = some a → a.block < lo) : Far ss A := by
  intro s hs p q hp hq
  have h1 := h s hs p hp
  have h2 := hA q hq
  omega

theorem Kept.toExt {w w0 wr : World} {ss : List Sl} (h : Kept w wr ss) (he : Ext w0 w) (hs : ∀ s ∈ ss, ∀ p, s.A = some p → w0.heap.size ≤ p.block) : Ext w0 wr :=
  ⟨h.os.trans he.os, h.tape.trans he.tape, h.output.trans he.output, Nat.le_trans he.size h.size, fun b hb => (h.block b (Nat.lt_of_lt_of_le hb he.size) (fun s hs' p hp e => by have := hs s hs' p hp; omega)).trans (he.block b hb)⟩

end Go.Proofs.Ytjckfbpdnpehcaa
