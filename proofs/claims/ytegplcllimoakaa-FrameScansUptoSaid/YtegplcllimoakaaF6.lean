/-
  The document's answers of layer 4, by definition: the frames' bodies as a list of slices.
-/
import Derived.Test.YtegplcllimoakaaF5
namespace Go.Proofs.Ytegplcllimoakaa
open Go.RowKit

theorem Try.infoS : (Try.prog.info? 22).map (fun i => (i.zero, i.size, i.bytes)) = some (some (.slice none 0 0), 1, 24) := by kernel_rfl

/-- A slice that lies somewhere, and what it reads as. -/
structure Sl where
  A : Option Addr
  c : Nat
  body : List Nat

def Sl.v (s : Sl) : Value := .slice s.A s.body.length s.c
def Fr.sl (f : Fr) : Sl := ⟨f.A, f.c, f.body⟩

/-- A row of slices of the call's own. -/
def OwnS (w : World) (base : Nat) (A : Option Addr) (c : Nat) (ss : List Sl) : Prop := w.ownsRow base 22 1 (.slice A ss.length c) ss.length (ss.map Sl.v)

theorem OwnS.made {base : Nat} (w : World) (hb : base ≤ w.heap.size) : OwnS (w.alloc (.cells #[] 22)) base (some ⟨w.heap.size, 0, none⟩) 0 [] :=
  World.ownsRow_made w #[] 0 hb (by simp [maxLen]) (by simp)
theorem OwnS.ext {w w' : World} {base c : Nat} {A : Option Addr} {ss : List Sl} (h : OwnS w base A c ss) (hb : Ext w w') : OwnS w' base A c ss := by
  refine World.ownsRow.kept (row := none) h ⟨hb.os, hb.tape, hb.output, hb.size, fun i hi _ => hb.block i hi⟩ ?_
  cases hv : (Value.slice A ss.length c).ownBlock <;> simp

/-- 'append(out, s)'. -/
theorem wpList_pushS {w0 w : World} {ops : Array Oper} {rest : List Oper} {o : Oper} {a : Act} {Q : Exit → Act → World → Prop} (f : Sl) (hgd : o.guard = none) (s y : Operand)
    (ho : o.op = .call { callee := .builtin .append, args := #[s, y], argTypes := #[57, 57] })
    {base : Nat} {A : Option Addr} {c : Nat} {ss : List Sl} (hown : OwnS w base A c ss) (n : Nat) (hn : ss.length = n) (hs : a.eval s = .slice A n c)
    {g : Nat} (hy : a.eval y = .slice (some ⟨g, 0, none⟩) 1 1) (hg : w.heap[g]? = some (.cells #[.slice f.A f.body.length f.c] 22))
    (hlen : n ≤ 1048576) (hb : Below base w0 w) (hbase : base ≤ w.heap.size)
    (h : ∀ A' c' w', OwnS w' base A' c' (ss ++ [f]) → Below base w0 w' → base ≤ w'.heap.size → wpList Try.prog ops Q rest (a.put o.dst (.slice A' (n + 1) c')) w') :
    wpList Try.prog ops Q (o :: rest) a w := by
  subst hn
  obtain ⟨i, hi0, hz, hsz, hbs⟩ := info_parts Try.infoS
  refine wpList_append_own_wide w hgd s y 57 ho base 22 i _ 1 24 Try.underlying57 hi0 hz hsz hbs rfl (by decide) _ ss.length (ss.map Sl.v) hs hown
    ⟨g, 0, none⟩ 1 1 [f.v] hy rfl ?_ ?_ (by unfold maxLen; omega) (by omega) hbase ?_
  · intro j u hj
    match j, hj with
    | 0, hj =>
      simp at hj
      subst hj
      have := cell_of_row w g 0 _ _ (0, 0) hg
      simpa [Addr.add, Sl.v] using this
  · intro u hu
    simp at hu
    subst hu
    rfl
  · intro v' w' hown' hgr _
    have hform : ∃ A' c', v' = .slice A' (ss.length + 1) c' := by
      rcases hown'.2 with ⟨_, h0⟩ | ⟨g, cap, cur, hv, _⟩
      · omega
      · exact ⟨_, _, hv⟩
    obtain ⟨A', c', rfl⟩ := hform
    have hb' : Below base w0 w' := Below.grown hb hgr hbase (fun g hg' => (hown.lt g hg').1)
    refine h A' c' w' ?_ hb' ?_
    · unfold OwnS
      rw [List.length_append, List.map_append]
      exact hown'
    · have := hgr.size
      omega

set_option maxHeartbeats 400000 in
theorem bodies_any (A : Option Addr) (n c : Nat) (fs : List Fr) (w : World) (hx : RdF w A n fs) (hn : n ≤ 1048576) :
    Calls Try.prog 39 #[.slice A n c] w fun e w' => ∃ A' c', e = .returned (.slice A' n c') ∧ OwnS w' w.heap.size A' c' (fs.map Fr.sl) ∧ Ext w w' := by
  have Hl := Lib.hid hx.1
  go_enter Try.func39, Try.ntmps39
  go_wp2
  go_loopw [3, 4] (fun v i wr => ∃ (j : Nat) (A' : Option Addr) (c' : Nat), j ≤ n ∧ i = .int .i64 j ∧ v = .slice A' j c' ∧ OwnS wr w.heap.size A' c' ((fs.map Fr.sl).take j) ∧ Below w.heap.size w wr) (fun _ i _ => n - (intOf i).toNat)
  case atStart => exact ⟨0, _, _, Nat.zero_le _, rfl, rfl, OwnS.made _ (Nat.le_refl _), (Ext.refl w).alloc _⟩
  case round =>
    obtain ⟨j, A', c', hj, rfl, rfl, hown, hb⟩ := hrel
    have hz := hb.size
    by_cases hlt : j < n
    · obtain ⟨b, o, f, rfl, hbl, hf, h1, h2, h3⟩ := (hx.ext hb).at_ hlt
      have htl : ((fs.map Fr.sl).take j).length = j := by rw [List.length_take, List.length_map, Hl.out]; omega
      have hnx : (fs.map Fr.sl).take (j + 1) = (fs.map Fr.sl).take j ++ [f.sl] := by
        rw [List.take_add_one, List.getElem?_map, hf]
        rfl
      obtain ⟨k, fA, fc, body⟩ := f
      simp only at h1 h2 h3
      have Htl := Lib.hid htl
      have Hnx := Lib.hid hnx
      have hX := (Ext.refl wr).alloc (.cells #[.slice fA body.length fc] 22)
      have hown2 := hown.ext hX
      clear htl hnx hf
      go_wp2_with (at_builtin; refine wpList_pushS (w0 := w) ⟨fA, fc, body⟩ rfl _ _ rfl hown2 j Htl.out rfl rfl (heap_alloc_new wr _) (by omega) (Ext.trans hb hX) (by simp; omega) ?_; intro A1 c1 w1 hown1 hb1 hz1)
      go_roundw
      case rel => exact ⟨j + 1, A1, c1, by omega, by go_num, rfl, by rw [Hnx.out]; exact hown1, hb1⟩
      case measure => simp [intOf]; omega
    · obtain rfl : j = n := by omega
      rw [List.take_of_length_le (by rw [List.length_map, Hl.out]; exact Nat.le_refl _)] at hown
      go_wp2
      go_ret
      exact ⟨_, _, rfl, hown, hb⟩

end Go.Proofs.Ytegplcllimoakaa
