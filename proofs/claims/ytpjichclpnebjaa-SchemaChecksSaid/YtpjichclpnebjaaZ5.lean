import Derived.Test.YtpjichclpnebjaaZF
import Derived.Test.YtpjichclpnebjaaZ4
import Derived.Deep.MidRow

-- part AK
/-
  Both answers are as wanted and lie apart; nothing but the first one's row has turned.
-/
namespace Go.Proofs.Ytpjichclpnebjaa
open Go.RowKit

/-- What of the three lists stays while 70 bytes go behind the first: the first's own beginning, and what lies elsewhere. -/
structure AsideK (w0 wr : World) (A A2 A3 A' : Option Addr) (n c' c0 j base : Nat) (sx xs ys : List Nat) : Prop where
  own : Own .u8 5 wr base A' c' ys
  len : ys.length = n + j
  pre : ys.take n = sx
  rd1 : Rd .u8 wr A n sx
  rd2 : Rd .u8 wr A2 n xs
  rd3 : Rd .u8 wr A3 n xs
  ne1 : 0 < n → ∀ a a1, A' = some a → A = some a1 → a1 = a ∨ a1.block ≠ a.block
  ne2 : 0 < n → ∀ a a2, A' = some a → A2 = some a2 → a2.block ≠ a.block
  ne3 : 0 < n → ∀ a a3, A' = some a → A3 = some a3 → a3.block ≠ a.block
  kept : Kept w0 wr [⟨A, c0, xs⟩]
  home : ∀ a, A' = some a → (∃ p, A = some p ∧ p.block = a.block) ∨ w0.heap.size ≤ a.block
  size : base ≤ wr.heap.size

theorem AsideK.push {w0 wr w1 : World} {A A2 A3 A' A1 : Option Addr} {n c' c0 c1 j base : Nat} {sx xs ys : List Nat} (h : AsideK w0 wr A A2 A3 A' n c' c0 j base sx xs ys) {x : Nat}
    (ho : Own .u8 5 w1 base A1 c1 (ys ++ [x])) (hw : A1 = A' ∧ wr.grownBy w1 (A'.map (·.block)) ∨ Ext wr w1 ∧ ∀ q, A1 = some q → wr.heap.size ≤ q.block) (hz : base ≤ w1.heap.size) :
    AsideK w0 w1 A A2 A3 A1 n c1 c0 (j + 1) base sx xs (ys ++ [x]) := by
  have hp : (ys ++ [x]).take n = sx := by rw [List.take_append_of_le_length (by have := h.len; omega)]; exact h.pre
  rcases hw with ⟨rfl, hg⟩ | ⟨he, hq⟩
  · have hne : ∀ {X : Option Addr}, (0 < n → ∀ a a2, A1 = some a → X = some a2 → a2.block ≠ a.block) → 0 < n → ∀ a, X = some a → some a.block ≠ A1.map (·.block) := by
      intro X hX hn a ha e
      cases hA : A1 with
      | none => rw [hA] at e; simp at e
      | some a1 => rw [hA] at e; simp at e; exact hX hn a1 a hA ha e
    refine ⟨ho, by have := h.len; simp; omega, hp, ?_, h.rd2.grown0 hg (hne h.ne2), h.rd3.grown0 hg (hne h.ne3), h.ne1, h.ne2, h.ne3, h.kept.grown hg ?_, h.home, hz⟩
    · by_cases hn : 0 < n
      · obtain ⟨b, o, hA, hb, _⟩ := h.rd1.2 hn
        obtain ⟨b', hA'⟩ := h.own.head (by have := h.len; omega)
        rcases h.ne1 hn _ _ hA' hA with e | e
        · have := ho.rd_take (n := n) (by have := h.len; simp; omega)
          rw [hp, hA', ← e, ← hA] at this
          exact this
        · exact h.rd1.grown hg (by rw [hA, hA']; rintro a ha; injection ha with ha; subst ha; simpa using e)
      · exact ⟨h.rd1.1, fun h0 => absurd h0 hn⟩
    · intro g hg'
      cases hA : A1 with
      | none => rw [hA] at hg'; simp at hg'
      | some a1 =>
        rw [hA] at hg'
        simp at hg'
        subst hg'
        rcases h.home a1 hA with ⟨p, hp, hpb⟩ | hl
        · exact .inr ⟨_, List.mem_singleton.2 rfl, p, hp, hpb⟩
        · exact .inl hl
  · have hne : ∀ {X : Option Addr} {zs : List Nat}, Rd .u8 wr X n zs → 0 < n → ∀ a a2, A1 = some a → X = some a2 → a2.block ≠ a.block := by
      intro X zs hX hn a a2 ha ha2
      have h1 := hq a ha
      have h2 := hX.lt hn a2 ha2
      omega
    exact ⟨ho, by have := h.len; simp; omega, hp, h.rd1.ext he, h.rd2.ext he, h.rd3.ext he, fun hn a a1 ha ha1 => .inr (hne h.rd1 hn a a1 ha ha1), hne h.rd2, hne h.rd3, h.kept.ext he, fun a ha => .inr (Nat.le_trans h.kept.size (hq a ha)), hz⟩

/-- Both answers are as wanted and lie apart: Apart says so. 'a' is a row of the caller's own; what b and want read lies elsewhere. -/
theorem apart_kept (A A2 A3 : Option Addr) (n c c2 c3 base : Nat) (xs : List Nat) (w : World) (hx : Own .u8 5 w base A c xs) (hl : xs.length = n) (hu : U8 xs)
    (hy : Rd .u8 w A2 n xs) (hz : Rd .u8 w A3 n xs) (ne2 : ∀ a a2, A = some a → A2 = some a2 → a2.block ≠ a.block) (ne3 : ∀ a a3, A = some a → A3 = some a3 → a3.block ≠ a.block)
    (hbw : base ≤ w.heap.size) (hn : n + 70 ≤ 180000000000000) :
    Calls Try.prog 38 #[.slice A n c, .slice A2 n c2, .slice A3 n c3] w fun e w' => e = .returned (.bool true) ∧ Kept w w' [⟨A, c, xs⟩] := by
  have Hl := Lib.hid hl
  clear hl
  have hx1 := hx.rd' Hl.out
  go_enter Try.func38, Try.ntmps38
  go_wp2_with fail
  refine (same_yes hx1 hz (by omega)).mono ?_
  rintro e w1 ⟨rfl, q1, rfl⟩
  go_wp2_with fail
  refine (same_yes (hy.drewN q1) (hz.drewN q1) (by omega)).mono ?_
  rintro e w1 ⟨rfl, q2, rfl⟩
  go_wp2_with fail
  refine (spoil_any A n c base xs _ (hx.ext ((Ext.refl _).drewN _)) Hl.out hu (by omega)).mono ?_
  rintro e w2 ⟨rfl, hx2, hg2⟩
  go_wp2_with fail
  have hsp : (xs.map spl).length = n := by rw [List.length_map, Hl.out]
  have hE2 : Kept w w2 [⟨A, c, xs⟩] := (Kept.ext (Kept.refl w _) ((Ext.refl w).drewN (q1 + q2))).grown hg2 (by
    intro g hg
    cases hA : A with
    | none => rw [hA] at hg; simp at hg
    | some a => rw [hA] at hg; simp at hg; subst hg; exact .inr ⟨_, List.mem_singleton.2 rfl, a, rfl, rfl⟩)
  have hne : ∀ {X : Option Addr}, (∀ a a2, A = some a → X = some a2 → a2.block ≠ a.block) → 0 < n → ∀ a, X = some a → some a.block ≠ A.map (·.block) := by
    intro X hX hn a ha e
    cases hA : A with
    | none => rw [hA] at e; simp at e
    | some a1 => rw [hA] at e; simp at e; exact hX a1 a hA ha e
  have h0 : ∃ ys, AsideK w w2 A A2 A3 A n c c 0 base (xs.map spl) xs ys := ⟨xs.map spl, hx2, hsp, List.take_of_length_le (Nat.le_of_eq hsp), hx2.rd' hsp, (hy.drewN (q1 + q2)).grown0 hg2 (hne ne2), (hz.drewN (q1 + q2)).grown0 hg2 (hne ne3), fun _ a a1 ha ha1 => .inl (by rw [ha] at ha1; injection ha1 with h; exact h.symm), fun _ => ne2, fun _ => ne3, hE2, fun a ha => .inl ⟨a, ha, rfl⟩, by have := hg2.size; simp at this; omega⟩
  clear hx2 hg2 hE2 hne hx1
  go_loopw [7, 8] (fun v i wr => ∃ (j : Nat) (A' : Option Addr) (c' : Nat) (ys : List Nat), j ≤ 70 ∧ i = .int .i64 j ∧ v = .slice A' (n + j : Nat) c' ∧ AsideK w wr A A2 A3 A' n c' c j base (xs.map spl) xs ys) (fun _ i _ => 70 - (intOf i).toNat)
  case atStart => obtain ⟨ys, h0⟩ := h0; exact ⟨0, _, _, ys, Nat.zero_le _, rfl, rfl, h0⟩
  case round =>
    clear h0
    obtain ⟨j, A', c', ys, hj, rfl, rfl, has⟩ := hrel
    have hsz := has.size
    by_cases hlt : j < 70
    · have hm := mod256 hlt
      have Hown := Lib.hid has.own
      have Hlen := Lib.hid has.len
      have Has := Lib.hid has
      clear has
      go_wp2_with (at_builtin; refine wpList_push2 .u8 j 5 rfl _ _ 59 rfl _ 1 Try.underlying59 Try.infoU8 rfl Hown.out (n + j) Hlen.out rfl rfl rfl (by omega) (by omega) hsz ?_; intro A1 c1 w1 hown1 hw1 hz1)
      have Hn := Lib.hid (Has.out.push hown1 hw1 hz1)
      clear hown1 hw1 hz1
      go_wp2
      go_roundw
      case rel => exact ⟨j + 1, A1, c1, _, by omega, by go_num, rfl, Hn.out⟩
      case measure => simp [intOf]; omega
    · obtain rfl : j = 70 := by omega
      have hr1 := has.rd1
      have hr2 := has.rd2
      have hr3 := has.rd3
      have he := has.kept
      clear has
      go_wp2_with fail
      refine (turned_yes hr1 hr3 hu (by omega)).mono ?_
      rintro e w3 ⟨rfl, q3, rfl⟩
      go_wp2_with fail
      refine (same_yes (hr2.drewN q3) (hr3.drewN q3) (by omega)).mono ?_
      rintro e w3 ⟨rfl, q4, rfl⟩
      go_wp2_with fail
      go_ret
      exact ⟨rfl, he.ext ((Ext.refl _).drewN _)⟩

end Go.Proofs.Ytpjichclpnebjaa

-- part H20
/-
  Layer 6: rows of cells whose texts lie apart; a row stored into; texts as a list of slices.
-/
namespace Go.Proofs.Ytpjichclpnebjaa
open Go.RowKit

def Ci.sl (x : Ci) : Sl := ⟨x.A, x.c, x.txt⟩

/-- The texts, each of the call's own, in blocks apart. -/
def TxtU (w : World) (base : Nat) (xs : List Ci) : Prop := (∀ x ∈ xs, Own .u8 5 w base x.A x.c x.txt) ∧ Unlike (xs.map Ci.sl)

theorem TxtX.toU {w : World} {base : Nat} {xs : List Ci} (h : TxtX w base xs) : TxtU w base xs := by
  refine ⟨h.1, ?_⟩
  have hp := List.pairwise_iff_getElem.1 h.2
  intro i j s t hi hj hne p q hp1 hq1
  rw [List.getElem?_map, Option.map_eq_some_iff] at hi hj
  obtain ⟨f, hf, rfl⟩ := hi
  obtain ⟨g, hg, rfl⟩ := hj
  obtain ⟨li, ei⟩ := List.getElem?_eq_some_iff.1 hf
  obtain ⟨lj, ej⟩ := List.getElem?_eq_some_iff.1 hg
  rcases Nat.lt_or_gt_of_ne hne with hl | hl
  · have := hp i j li lj hl p q (by rw [ei]; exact hp1) (by rw [ej]; exact hq1)
    omega
  · have := hp j i lj li hl q p (by rw [ej]; exact hq1) (by rw [ei]; exact hp1)
    omega
theorem TxtT.toX {w : World} {base : Nat} {ts : List Si} (h : TxtT w base ts) : TxtX w base (ts.map Si.cell) := by
  refine ⟨fun x hx => ?_, ?_⟩
  · obtain ⟨t, ht, rfl⟩ := List.mem_map.1 hx
    exact h.1 t ht
  · rw [List.pairwise_map]
    exact h.2
theorem TxtU.nil (w : World) (base : Nat) : TxtU w base [] := ⟨fun f h => (by cases h), fun i j s t h => by simp at h⟩
theorem TxtU.ext {w w' : World} {base : Nat} {xs : List Ci} (h : TxtU w base xs) (hb : Ext w w') : TxtU w' base xs := ⟨fun f hf => (h.1 f hf).ext hb, h.2⟩
theorem TxtU.mono {w : World} {base base' : Nat} {xs : List Ci} (h : TxtU w base xs) (hb : base' ≤ base) : TxtU w base' xs := ⟨fun f hf => (h.1 f hf).mono hb, h.2⟩
theorem TxtU.far {w w' : World} {base b : Nat} {xs : List Ci} (h : TxtU w base xs) (hg : w.grownBy w' (some b)) (hb : b < base) : TxtU w' base xs := ⟨fun f hf => (h.1 f hf).far hg hb, h.2⟩
theorem TxtU.grown {w w' : World} {base base' c : Nat} {A : Option Addr} {fs gs : List Ci} (h : TxtU w base fs) (k : OwnX w base' A c gs) (hg : w.grownBy w' (Value.slice A gs.length c).ownBlock) : TxtU w' base fs :=
  ⟨fun f hf => (h.1 f hf).grown hg (own_neX k (h.1 f hf)), h.2⟩
theorem TxtU.within {w : World} {base : Nat} {xs : List Ci} (h : TxtU w base xs) : Within (xs.map Ci.sl) base w.heap.size := by
  intro s hs p hp
  obtain ⟨f, hf, rfl⟩ := List.mem_map.1 hs
  exact (h.1 f hf).block p hp

theorem Unlike.put {xs : List Ci} {f : Ci} {base' : Nat} (h : Unlike (xs.map Ci.sl)) (hf : ∀ q, f.A = some q → base' ≤ q.block) (hl : ∀ g ∈ xs, ∀ p, g.A = some p → p.block < base') (i : Nat) : Unlike ((xs.set i f).map Ci.sl) := by
  intro a b s t ha hb hne p q hp hq
  rw [List.getElem?_map, Option.map_eq_some_iff] at ha hb
  obtain ⟨x, hx, rfl⟩ := ha
  obtain ⟨y, hy, rfl⟩ := hb
  rw [List.getElem?_set] at hx hy
  by_cases e1 : i = a
  · rw [if_pos e1] at hx
    split at hx
    · injection hx with hx
      subst hx
      rw [if_neg (by omega)] at hy
      have h1 := hf p hp
      have h2 := hl y (List.mem_of_getElem? hy) q hq
      omega
    · cases hx
  · rw [if_neg e1] at hx
    by_cases e2 : i = b
    · rw [if_pos e2] at hy
      split at hy
      · injection hy with hy
        subst hy
        have h1 := hf q hq
        have h2 := hl x (List.mem_of_getElem? hx) p hp
        omega
      · cases hy
    · rw [if_neg e2] at hy
      exact h a b x.sl y.sl (by rw [List.getElem?_map, hx]; rfl) (by rw [List.getElem?_map, hy]; rfl) hne p q hp hq

theorem TxtU.put {w : World} {base base' : Nat} {fs : List Ci} {f : Ci} (h : TxtU w base fs) (hf : Own .u8 5 w base' f.A f.c f.txt) (hb : base ≤ base') (hl : ∀ g ∈ fs, ∀ p, g.A = some p → p.block < base') (i : Nat) : TxtU w base (fs.set i f) := by
  refine ⟨fun g hg => ?_, h.2.put (fun q hq => (hf.block q hq).1) hl i⟩
  rcases List.mem_or_eq_of_mem_set hg with h1 | rfl
  · exact h.1 g h1
  · exact hf.mono hb

/-- A cell of nothing. -/
def Ci.none : Ci := ⟨false, 0, Option.none, 0, []⟩
theorem TxtU.nones (w : World) (base n : Nat) : TxtU w base (List.replicate n Ci.none) := by
  refine ⟨fun f h => ?_, ?_⟩
  · rw [List.eq_of_mem_replicate h]
    exact Own.nil ..
  · intro i j s t hi hj _ p q hp
    rw [List.getElem?_map, Option.map_eq_some_iff] at hi
    obtain ⟨x, hx, rfl⟩ := hi
    rw [List.eq_of_mem_replicate (List.mem_of_getElem? hx)] at hp
    cases hp

theorem xcells_cons (x : Ci) (r : List Ci) : xcells (x :: r) = x.cells ++ xcells r := by simp [xcells]
theorem xcells_set (x : Ci) : ∀ (xs : List Ci) (j : Nat), j < xs.length → xcells (xs.set j x) = (((xcells xs).set (j * 3) (.bool x.nul)).set (j * 3 + 1) (.int .i64 x.num)).set (j * 3 + 2) (.slice x.A x.txt.length x.c)
  | [], j, h => absurd h (by simp)
  | y :: r, 0, _ => by
    rw [List.set_cons_zero, xcells_cons, xcells_cons]
    simp [Ci.cells]
  | y :: r, j + 1, h => by
    rw [List.set_cons_succ, xcells_cons, xcells_cons, xcells_set x r j (by simpa using h)]
    have hl : y.cells.length = 3 := rfl
    rw [List.set_append_right _ _ (by omega), List.set_append_right _ _ (by omega), List.set_append_right _ _ (by omega), hl, show (j + 1) * 3 - 3 = j * 3 by omega, show (j + 1) * 3 + 1 - 3 = j * 3 + 1 by omega, show (j + 1) * 3 + 2 - 3 = j * 3 + 2 by omega]

/-- A place of an owned row of cells: it may be written; what the row is behind the store. -/
theorem OwnX.store {w : World} {base c : Nat} {A : Option Addr} {xs : List Ci} (h : OwnX w base A c xs) {j : Nat} (hj : j < xs.length) :
    ∃ g, A = some ⟨g, 0, Option.none⟩ ∧ base ≤ g ∧ g < w.heap.size ∧ xs.length ≤ c ∧ c ≤ 9223372036854775807 ∧ w.there g (j * 3) 3 ∧ ∀ x : Ci, OwnX (w.setCells g (j * 3) x.cells) base A c (xs.set j x) ∧ w.grownBy (w.setCells g (j * 3) x.cells) (some g) := by
  have h0 := h
  unfold OwnX at h0
  rcases h.2 with ⟨_, hn⟩ | ⟨g, cap, cur, hv, hg, hh, hnc, hcm, _⟩
  · omega
  · injection hv with hA hl hc
    subst hA
    subst hc
    have hlt : g < w.heap.size := (Array.getElem?_eq_some_iff.1 hh).1
    refine ⟨g, rfl, hg, hlt, hnc, by simpa [maxLen] using hcm, fun i hi => ⟨?_, World.ownsRow.frozenAt h0 _⟩, fun x => ?_⟩
    · rw [World.ownsRow.cellAt h0 _ (by omega)]
      rw [List.getElem?_eq_getElem (by rw [xcells_len]; omega)]
      rfl
    · obtain ⟨a1, b1⟩ := World.ownsRow.stored h0 (j * 3) (.bool x.nul)
      obtain ⟨a2, b2⟩ := World.ownsRow.stored a1 (j * 3 + 1) (.int .i64 x.num)
      obtain ⟨a3, b3⟩ := World.ownsRow.stored a2 (j * 3 + 2) (.slice x.A x.txt.length x.c)
      refine ⟨?_, World.grownBy.trans (World.grownBy.trans b1 b2) b3⟩
      unfold OwnX
      rw [List.length_set, xcells_set x xs j hj]
      exact a3

/-- 'make([]api.Cell, n)'. -/
theorem xcells_nones (n : Nat) : (madeCells (Value.agg #[.bool false, .int .i64 0, .slice Option.none 0 0]).cells (n * 3)).toList = xcells (List.replicate n Ci.none) := by
  apply List.ext_getElem?
  intro j
  by_cases hj : j < n * 3
  · have h2 := xcells_at (xs := List.replicate n Ci.none) (j := j / 3) (x := Ci.none) (by rw [List.getElem?_replicate, if_pos (by omega)]) (j % 3) (Nat.mod_lt _ (by decide))
    rw [show j / 3 * 3 + j % 3 = j by omega] at h2
    rw [h2]
    have h3 : j % 3 = 0 ∨ j % 3 = 1 ∨ j % 3 = 2 := by omega
    have h4 : (List.range (n * 3))[j]? = some j := by rw [List.getElem?_range hj]
    rcases h3 with e | e | e <;> simp [madeCells, Value.cells, e, Ci.none, Ci.cells, h4]
  · rw [List.getElem?_eq_none (by simp [madeCells]; omega), List.getElem?_eq_none (by rw [xcells_len]; simp; omega)]

theorem wpList_mkX {w : World} {ops : Array Oper} {rest : List Oper} {o : Oper} {a : Act} {Q : Exit → Act → World → Prop} (hgd : o.guard = Option.none) (l c : Operand)
    (hop : o.op = Op.makeSlice 25 l c) (kl kc : IntKind) {L C : Int} (n : Nat) (hl : a.eval l = .int kl L) (hc : a.eval c = .int kc C) (hL : L = (n : Int)) (hC : C = (n : Int)) (hb : n ≤ 4398046511104)
    (h : ∀ w', OwnX w' w.heap.size (some ⟨w.heap.size, 0, Option.none⟩) n (List.replicate n Ci.none) → Ext w w' → wpList Try.prog ops Q rest (a.put o.dst (.slice (some ⟨w.heap.size, 0, Option.none⟩) n n)) w') :
    wpList Try.prog ops Q (o :: rest) a w := by
  obtain ⟨i, hi0, hz, hsz, hbs⟩ := info_parts Try.infoCell
  refine wpList_make_full w hgd l c 25 hop w.heap.size 82 i _ 3 Try.underlying25 hi0 hz hsz kl kc L C n hl hc hL hC (by rw [hbs]; omega) (by unfold maxLen; omega) (Nat.le_refl _) ?_
  intro w' h1 h2
  refine h w' ?_ ⟨h2.os, h2.tape, h2.output, h2.size, fun j hj => h2.block j hj (by simp)⟩
  rw [xcells_nones] at h1
  unfold OwnX
  rw [List.length_replicate]
  exact h1

theorem RdX.kept {w wr : World} {A : Option Addr} {n : Nat} {xs : List Ci} {ss : List Sl} (h : RdX w A n xs) (hk : Kept w wr ss) (hf : 0 < n → Far ss A) (hb : ∀ x ∈ xs, 0 < x.txt.length → Far ss x.A) : RdX wr A n xs :=
  ⟨h.1, fun hn => by
    obtain ⟨b, o, e, hlt, hc⟩ := h.2 hn
    have hbl : wr.heap[b]? = w.heap[b]? := hk.block b hlt (fun s hs p hp => hf hn s hs p _ hp e)
    refine ⟨b, o, e, Nat.lt_of_lt_of_le hlt hk.size, fun j x hj => ?_⟩
    obtain ⟨h1, h2, h3, h4⟩ := hc j x hj
    exact ⟨(World.cell?_of_block (a := ⟨b, o + j * 3, Option.none⟩) hbl).trans h1, (World.cell?_of_block (a := ⟨b, o + j * 3 + 1, Option.none⟩) hbl).trans h2, (World.cell?_of_block (a := ⟨b, o + j * 3 + 2, Option.none⟩) hbl).trans h3, h4.rd.kept hk (hb x (List.mem_of_getElem? hj)), h4.u8, h4.lo, h4.hi, h4.len⟩⟩
theorem RdT.kept {w wr : World} {A : Option Addr} {n : Nat} {xs : List Si} {ss : List Sl} (h : RdT w A n xs) (hk : Kept w wr ss) (hf : 0 < n → Far ss A) (hb : ∀ x ∈ xs, 0 < x.cell.txt.length → Far ss x.cell.A) : RdT wr A n xs :=
  ⟨h.1, fun hn => by
    obtain ⟨b, o, e, hlt, hc⟩ := h.2 hn
    have hbl : wr.heap[b]? = w.heap[b]? := hk.block b hlt (fun s hs p hp => hf hn s hs p _ hp e)
    refine ⟨b, o, e, Nat.lt_of_lt_of_le hlt hk.size, fun j x hj => ?_⟩
    obtain ⟨h0, h1, h2, h3, h4⟩ := hc j x hj
    exact ⟨(World.cell?_of_block (a := ⟨b, o + j * 4, Option.none⟩) hbl).trans h0, (World.cell?_of_block (a := ⟨b, o + j * 4 + 1, Option.none⟩) hbl).trans h1, (World.cell?_of_block (a := ⟨b, o + j * 4 + 2, Option.none⟩) hbl).trans h2, (World.cell?_of_block (a := ⟨b, o + j * 4 + 3, Option.none⟩) hbl).trans h3, h4.rd.kept hk (hb x (List.mem_of_getElem? hj)), h4.u8, h4.lo, h4.hi, h4.len⟩⟩

theorem OwnX.block {w : World} {base c : Nat} {A : Option Addr} {xs : List Ci} (h : OwnX w base A c xs) : ∀ a, A = some a → base ≤ a.block ∧ a.block < w.heap.size := by
  rintro a rfl
  exact World.ownsRow.lt h a.block rfl
theorem OwnT.block {w : World} {base c : Nat} {A : Option Addr} {xs : List Si} (h : OwnT w base A c xs) : ∀ a, A = some a → base ≤ a.block ∧ a.block < w.heap.size := by
  rintro a rfl
  exact World.ownsRow.lt h a.block rfl

set_option maxHeartbeats 400000 in
theorem texts_any (A : Option Addr) (n c : Nat) (xs : List Ci) (w : World) (hx : RdX w A n xs) (hn : n ≤ 1048576) :
    Calls Try.prog 30 #[.slice A n c] w fun e w' => ∃ A' c', e = .returned (.slice A' n c') ∧ OwnS w' w.heap.size A' c' (xs.map Ci.sl) ∧ Ext w w' := by
  have Hl := Lib.hid hx.1
  go_enter Try.func30, Try.ntmps30
  go_wp2
  go_loopw [3, 4] (fun v i wr => ∃ (j : Nat) (A' : Option Addr) (c' : Nat), j ≤ n ∧ i = .int .i64 j ∧ v = .slice A' j c' ∧ OwnS wr w.heap.size A' c' ((xs.map Ci.sl).take j) ∧ Below w.heap.size w wr) (fun _ i _ => n - (intOf i).toNat)
  case atStart => exact ⟨0, _, _, Nat.zero_le _, rfl, rfl, OwnS.made _ (Nat.le_refl _), (Ext.refl w).alloc _⟩
  case round =>
    obtain ⟨j, A', c', hj, rfl, rfl, hown, hb⟩ := hrel
    have hz := hb.size
    by_cases hlt : j < n
    · obtain ⟨b, o, f, rfl, hbl, hf, h1, h2, h3, hin⟩ := (hx.ext hb).at_ hlt
      have htl : ((xs.map Ci.sl).take j).length = j := by rw [List.length_take, List.length_map, Hl.out]; omega
      have hnx : (xs.map Ci.sl).take (j + 1) = (xs.map Ci.sl).take j ++ [f.sl] := by
        rw [List.take_add_one, List.getElem?_map, hf]
        rfl
      obtain ⟨xn, xi, xA, xc, xt⟩ := f
      simp only at h1 h2 h3
      have Htl := Lib.hid htl
      have Hnx := Lib.hid hnx
      have hX := (Ext.refl wr).alloc (.cells #[.slice xA xt.length xc] 59)
      have hown2 := hown.ext hX
      have i0 : (0 : Int) ≤ (j : Int) := by omega
      have i1 : (j : Int) < (n : Int) := by omega
      clear htl hnx hf hin
      go_wp2_with (at_builtin; refine wpList_pushS (w0 := w) ⟨xA, xc, xt⟩ rfl _ _ rfl hown2 j Htl.out rfl rfl (heap_alloc_new wr _) (by omega) (Ext.trans hb hX) (by simp; omega) ?_; intro A1 c1 w1 hown1 hb1 hz1)
      go_roundw
      case rel => exact ⟨j + 1, A1, c1, by omega, by go_num, rfl, by rw [Hnx.out]; exact hown1, hb1⟩
      case measure => simp [intOf]; omega
    · obtain rfl : j = n := by omega
      rw [List.take_of_length_le (by rw [List.length_map, Hl.out]; exact Nat.le_refl _)] at hown
      go_wp2
      go_ret
      exact ⟨_, _, rfl, hown, hb⟩

set_option maxHeartbeats 400000 in
theorem setTexts_any (A : Option Addr) (n c : Nat) (xs : List Si) (w : World) (hx : RdT w A n xs) (hn : n ≤ 1048576) :
    Calls Try.prog 44 #[.slice A n c] w fun e w' => ∃ A' c', e = .returned (.slice A' n c') ∧ OwnS w' w.heap.size A' c' ((xs.map Si.cell).map Ci.sl) ∧ Ext w w' := by
  have Hl := Lib.hid hx.1
  go_enter Try.func44, Try.ntmps44
  go_wp2
  go_loopw [3, 4] (fun v i wr => ∃ (j : Nat) (A' : Option Addr) (c' : Nat), j ≤ n ∧ i = .int .i64 j ∧ v = .slice A' j c' ∧ OwnS wr w.heap.size A' c' (((xs.map Si.cell).map Ci.sl).take j) ∧ Below w.heap.size w wr) (fun _ i _ => n - (intOf i).toNat)
  case atStart => exact ⟨0, _, _, Nat.zero_le _, rfl, rfl, OwnS.made _ (Nat.le_refl _), (Ext.refl w).alloc _⟩
  case round =>
    obtain ⟨j, A', c', hj, rfl, rfl, hown, hb⟩ := hrel
    have hz := hb.size
    by_cases hlt : j < n
    · obtain ⟨b, o, f, rfl, hbl, hf, h0, h1, h2, h3, hin⟩ := (hx.ext hb).at_ hlt
      have htl : (((xs.map Si.cell).map Ci.sl).take j).length = j := by rw [List.length_take, List.length_map, List.length_map, Hl.out]; omega
      have hnx : ((xs.map Si.cell).map Ci.sl).take (j + 1) = ((xs.map Si.cell).map Ci.sl).take j ++ [f.cell.sl] := by
        rw [List.take_add_one, List.getElem?_map, List.getElem?_map, hf]
        rfl
      obtain ⟨p, xn, xi, xA, xc, xt⟩ := f
      simp only at h0 h1 h2 h3
      have Htl := Lib.hid htl
      have Hnx := Lib.hid hnx
      have hX := (Ext.refl wr).alloc (.cells #[.slice xA xt.length xc] 59)
      have hown2 := hown.ext hX
      have i0 : (0 : Int) ≤ (j : Int) := by omega
      have i1 : (j : Int) < (n : Int) := by omega
      clear htl hnx hf hin
      go_wp2_with (at_builtin; refine wpList_pushS (w0 := w) ⟨xA, xc, xt⟩ rfl _ _ rfl hown2 j Htl.out rfl rfl (heap_alloc_new wr _) (by omega) (Ext.trans hb hX) (by simp; omega) ?_; intro A1 c1 w1 hown1 hb1 hz1)
      go_roundw
      case rel => exact ⟨j + 1, A1, c1, by omega, by go_num, rfl, by rw [Hnx.out]; exact hown1, hb1⟩
      case measure => simp [intOf]; omega
    · obtain rfl : j = n := by omega
      rw [List.take_of_length_le (by rw [List.length_map, List.length_map, Hl.out]; exact Nat.le_refl _)] at hown
      go_wp2
      go_ret
      exact ⟨_, _, rfl, hown, hb⟩

end Go.Proofs.Ytpjichclpnebjaa
