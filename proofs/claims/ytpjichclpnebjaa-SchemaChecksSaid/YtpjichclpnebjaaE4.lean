/-
  A cell's own copy, and two cells compared: what all of the document's answers share.
-/
import Derived.Test.YtpjichclpnebjaaE3
import Derived.Deep.RegionHeld3
import Derived.Test.YtpjichclpnebjaaR1
namespace Go.Proofs.Ytpjichclpnebjaa
open Go.RowKit

theorem Ext.undrew' {w w' : World} (h : Ext w.drew w') : Ext w w' := ⟨h.os, h.tape, h.output, h.size, h.block⟩

theorem grown_setCell (w : World) (g i : Nat) (v : Value) : w.grownBy (w.setCell ⟨g, i, none⟩ v) (some g) :=
  ⟨rfl, rfl, rfl, by simp [World.setCell], fun k _ hne => heap_setCell_other w ⟨g, i, none⟩ k v (fun e => hne (by rw [e]))⟩

/-- A function with one struct result, which lies in a cell of the call's own. -/
theorem results_cell1 {P : Program} {fn : Func} {p : Tmp} {ty : TypeId} (h : fn.results = #[.cell p ty]) (tmps : Array Value) (w : World) (g : Nat) (T : TypeId) (cs : Array Value) (fr : Nat × Nat) (d : TypeDesc)
    (hp : tmps.getD p undef = .pointer (some ⟨g, 0, none⟩)) (hg : w.heap[g]? = some (.cells cs T fr))
    (hu : P.underlying ty = some d) (hd : (match d with | .struct _ | .array _ _ => true | _ => false) = true) (hi : (P.info? ty).map (·.size) = some cs.size) :
    (results fn tmps).run P w = .ok (.agg cs) w := by
  have hp' : tmps[p]?.getD undef = .pointer (some ⟨g, 0, none⟩) := by simpa using hp
  simp [results, h, hp', asAddr, run_loadVar_row w g T ty cs fr d hg hu hd hi]

theorem results_cell3 {P : Program} {fn : Func} {p t u : Tmp} {ty : TypeId} (h : fn.results = #[.cell p ty, .tmp t, .tmp u]) (tmps : Array Value) (w : World) (g : Nat) (T : TypeId) (cs : Array Value) (fr : Nat × Nat) (d : TypeDesc)
    (hp : tmps.getD p undef = .pointer (some ⟨g, 0, none⟩)) (hg : w.heap[g]? = some (.cells cs T fr))
    (hu : P.underlying ty = some d) (hd : (match d with | .struct _ | .array _ _ => true | _ => false) = true) (hi : (P.info? ty).map (·.size) = some cs.size) :
    (results fn tmps).run P w = .ok (.tuple #[.agg cs, tmps.getD t undef, tmps.getD u undef]) w := by
  have hp' : tmps[p]?.getD undef = .pointer (some ⟨g, 0, none⟩) := by simpa using hp
  simp [results, h, hp', asAddr, run_loadVar_row w g T ty cs fr d hg hu hd hi]

/-- A cell stored into a block that the call has laid. -/
theorem wpList_store_cell {ops : Array Oper} {rest : List Oper} {o : Oper} {a : Act} {w : World} {Q : Exit → Act → World → Prop} (hgd : o.guard = none) (x y : Operand) (ho : o.op = .store 82 x y)
    (g : Nat) (u v s : Value) (hx : a.eval x = .pointer (some ⟨g, 0, none⟩)) (hy : a.eval y = .agg #[u, v, s]) {u0 v0 s0 : Value} (hg : w.heap[g]? = some (.cells #[u0, v0, s0] 82)) (h1 : u.oneCell' = true) (h2 : v.oneCell' = true) (h3 : s.oneCell' = true)
    (h : wpList Try.prog ops Q rest (a.put o.dst undef) (w.setRow g #[u, v, s])) : wpList Try.prog ops Q (o :: rest) a w :=
  wpList_store_row hgd 82 x y ho g #[u, v, s] hx hy 82 #[u0, v0, s0] hg (by kernel_rfl) rfl (by simp [h1, h2, h3]) h

/-- Own is kept where another block alone is written. -/
theorem Own.far {k : IntKind} {e : TypeId} {w w' : World} {base c b : Nat} {A : Option Addr} {xs : List Nat} (h : Own k e w base A c xs) (hg : w.grownBy w' (some b)) (hb : b < base) : Own k e w' base A c xs :=
  h.grown hg fun a ha e => by
    injection e with e
    have := (h.block a ha).1
    omega

/-- The world with a cell boxed, and a cell of the call's own for its result. -/
structure Boxed (w W : World) (nul : Bool) (num : Int) (A : Option Addr) (n c : Nat) : Prop where
  ext : Ext w W
  size : W.heap.size = w.heap.size + 2
  box : ∀ w', Ext (w.alloc (.cells #[.bool nul, .int .i64 num, .slice A n c] 82)) w' → w'.cell? ⟨w.heap.size, 0, none⟩ = some (.bool nul) ∧ w'.cell? ⟨w.heap.size, 1, none⟩ = some (.int .i64 num) ∧ w'.cell? ⟨w.heap.size, 2, none⟩ = some (.slice A n c)
  mid : Ext (w.alloc (.cells #[.bool nul, .int .i64 num, .slice A n c] 82)) W
  res : ∀ w', Ext W w' → w'.heap[w.heap.size + 1]? = some (.cells #[.bool false, .int .i64 0, .slice none 0 0] 82)

theorem boxed (w : World) (nul : Bool) (num : Int) (A : Option Addr) (n c : Nat) :
    Boxed w ((w.alloc (.cells #[.bool nul, .int .i64 num, .slice A n c] 82)).alloc (.cells #[.bool false, .int .i64 0, .slice none 0 0] 82)) nul num A n c := by
  have h1 : ∀ w', Ext (w.alloc (.cells #[.bool nul, .int .i64 num, .slice A n c] 82)) w' → w'.heap[w.heap.size]? = some (.cells #[.bool nul, .int .i64 num, .slice A n c] 82) := fun w' he => Ext.kept he
  refine ⟨((Ext.refl w).alloc _).alloc _, by simp, fun w' he => ?_, (Ext.refl _).alloc _, fun w' he => ?_⟩
  · exact ⟨cell_of_row w' w.heap.size 0 _ _ (0, 0) (h1 w' he), cell_of_row w' w.heap.size 1 _ _ (0, 0) (h1 w' he), cell_of_row w' w.heap.size 2 _ _ (0, 0) (h1 w' he)⟩
  · have h := Ext.kept he
    simpa using h

set_option maxHeartbeats 1600000 in
theorem twin_any (nul : Bool) (num : Int) (A : Option Addr) (n c : Nat) (txt : List Nat) (w : World) (hx : Rd .u8 w A n txt) (hn : n ≤ 140737488355328) :
    Calls Try.prog 59 #[.agg #[.bool nul, .int .i64 num, .slice A n c]] w fun e w' => ∃ A' c', e = .returned (.agg #[.bool nul, .int .i64 num, .slice A' n c']) ∧ Own .u8 5 w' w.heap.size A' c' txt ∧ Ext w w' := by
  obtain ⟨W7, hW7⟩ : ∃ W7, W7 = w.alloc (.cells #[.bool nul, .int .i64 num, .slice A n c] 82) := ⟨_, rfl⟩
  have hB := boxed w nul num A n c
  obtain ⟨W8, hW8⟩ : ∃ W8, W8 = (w.alloc (.cells #[.bool nul, .int .i64 num, .slice A n c] 82)).alloc (.cells #[.bool false, .int .i64 0, .slice none 0 0] 82) := ⟨_, rfl⟩
  rw [← hW8] at hB
  have hx8 := hx.ext hB.ext
  have hs7 : W7.heap.size = w.heap.size + 1 := by rw [hW7]; simp
  have hM := hB.mid
  have hBx := hB.box
  rw [← hW7] at hM hBx
  have K1 := Lib.hid hB.res
  have K3 := Lib.hid hBx
  have hM' := Lib.hid hM
  have HB := Lib.hid hB
  have Hs7 := Lib.hid (Nat.le_of_eq hs7)
  clear hM hBx hB hs7 hW7
  go_enter Try.func59, Try.ntmps59
  go_wp2_with fail
  rw [← hW8]
  have g8 := K3.out _ hM'.out
  have g80 := g8.1
  have g81 := g8.2.1
  have g82 := g8.2.2
  clear hW8 hx
  go_region_held3 (fun w' => w'.cell? ⟨w.heap.size, 0, none⟩ = some (.bool nul) ∧ w'.cell? ⟨w.heap.size, 1, none⟩ = some (.int .i64 num) ∧ w'.cell? ⟨w.heap.size, 2, none⟩ = some (.slice A n c))
    (first | exact g8 | exact K3.out _ (hM'.out.trans he6.undrew') | exact K3.out _ (hM'.out.trans he6) | exact K3.out _ ((((hM'.out.trans he6.undrew').setCell Hs7.out _).setCell Hs7.out _).setCell Hs7.out _) | fail)
    (first
      | (go_at_call 48; refine (copy_any _ _ _ txt _ ?_ hn).mono ?_; exact hx8; rintro e w6 ⟨A6, c6, rfl, hown6, he6⟩; have hK6 := K1.out w6 (by first | exact he6.undrew' | exact he6); have kc0 := cell_of_row w6 (w.heap.size + 1) 0 _ _ (0, 0) hK6; have kc1 := cell_of_row w6 (w.heap.size + 1) 1 _ _ (0, 0) hK6; have kc2 := cell_of_row w6 (w.heap.size + 1) 2 _ _ (0, 0) hK6; have kf0 := frozen_of_row w6 (w.heap.size + 1) 0 _ _ hK6; have kf1 := frozen_of_row w6 (w.heap.size + 1) 1 _ _ hK6; have kf2 := frozen_of_row w6 (w.heap.size + 1) 2 _ _ hK6; simp only [List.getElem?_toArray, List.getElem?_cons_zero, List.getElem?_cons_succ] at kc0 kc1 kc2; have HK6 := Lib.hid hK6; clear hK6)
      | fail)
  have e1 : w6.heap[w.heap.size + 1]? = some (.cells #[.bool false, .int .i64 0, .slice none 0 0] 82) := HK6.out
  have e2 := heap_setCell_same _ (w.heap.size + 1) 0 _ _ (.bool nul) e1
  have e3 := heap_setCell_same _ (w.heap.size + 1) 1 _ _ (.int .i64 num) e2
  have e4 := heap_setCell_same _ (w.heap.size + 1) 2 _ _ (.slice A6 n c6) e3
  have hle : w.heap.size + 2 ≤ W8.drew.heap.size := Nat.le_of_eq HB.out.size.symm
  have ho := (((hown6.mono hle).far (grown_setCell w6 (w.heap.size + 1) 0 (.bool nul)) (by omega)).far (grown_setCell _ (w.heap.size + 1) 1 (.int .i64 num)) (by omega)).far (grown_setCell _ (w.heap.size + 1) 2 (.slice A6 n c6)) (by omega)
  have hE := ((((HB.out.ext.trans he6.undrew').setCell (p := ⟨w.heap.size + 1, 0, none⟩) (Nat.le_succ _) (.bool nul)).setCell (p := ⟨w.heap.size + 1, 1, none⟩) (Nat.le_succ _) (.int .i64 num))).setCell (p := ⟨w.heap.size + 1, 2, none⟩) (Nat.le_succ _) (.slice A6 n c6)
  go_wp2_with fail
  apply bodyPost_ret
  · exact results_cell1 rfl _ _ (w.heap.size + 1) 82 #[.bool nul, .int .i64 num, .slice A6 n c6] (0, 0) _ rfl e4 Try.underlying82 rfl (by kernel_rfl)
  · rfl
  exact ⟨A6, c6, rfl, ho.mono (by omega), hE⟩

end Go.Proofs.Ytpjichclpnebjaa
