/-
  Layer 10: rows of bytes of the call's own, made by append or of a string: what is written into them and behind them.
-/
import Derived.Test.YtpdppldkebfikaaDM1
namespace Go.Proofs.Ytpdppldkebfikaa
open Go.RowKit

section
variable {w w' : World} {base c : Nat} {A : Option Addr} {xs : List Nat}

theorem OwnM.at_ (h : OwnM w base A c xs) {j : Nat} (hj : j < xs.length) :
    ∃ b, A = some ⟨b, 0, none⟩ ∧ base ≤ b ∧ b < w.heap.size ∧ w.cell? ⟨b, j, none⟩ = some (.int .u8 ((xs.getD j 0 : Nat) : Int)) ∧ w.frozen? ⟨b, j, none⟩ = false ∧
      ∀ y : Nat, OwnM (w.setCell ⟨b, j, none⟩ (.int .u8 (y : Int))) base A c (xs.set j y) ∧ w.grownBy (w.setCell ⟨b, j, none⟩ (.int .u8 (y : Int))) (some b) := by
  have hr := h.rd
  obtain ⟨g, cur, rfl, h2, h3, h4, h5, h6, h7⟩ := h
  have hlt : g < w.heap.size := (Array.getElem?_eq_some_iff.1 h3).1
  refine ⟨g, rfl, h2, hlt, ?_, ?_, fun y => ⟨?_, ?_⟩⟩
  · obtain ⟨b', o', e, _, hc⟩ := hr.2 (by omega)
    injection e with e
    injection e with e1 e2
    subst e1 e2
    have := hc j hj
    rwa [Nat.zero_add] at this
  · simp only [World.frozen?, h3, Bool.and_eq_false_iff, decide_eq_false_iff_not]
    left
    omega
  · refine ⟨g, cur.setIfInBounds j (.int .u8 (y : Int)), rfl, h2, ?_, by rw [List.length_set]; exact h4, h5, by simpa using h6, ?_⟩
    · rw [setCell_eq_setRow w g j cur _ _ _ h3]
      exact setRow_heap w g cur _ _ _ h3
    · rw [List.length_set, Array.toList_setIfInBounds, List.take_set, h7, List.map_set]
  · rw [setCell_eq_setRow w g j cur _ _ _ h3]
    exact ⟨rfl, rfl, rfl, by simp, fun k _ hk => setRow_other w g k _ (fun e => hk (by simp [e]))⟩

/-- A row of bytes of the call's own. -/
def OwnZ (w : World) (base : Nat) (A : Option Addr) (c : Nat) (xs : List Nat) : Prop := Own .u8 5 w base A c xs ∨ OwnM w base A c xs
theorem OwnZ.ext (h : OwnZ w base A c xs) (he : Ext w w') : OwnZ w' base A c xs := h.imp (fun h => h.ext he) (fun h => h.ext he)
theorem OwnZ.grown (h : OwnZ w base A c xs) {row : Option Nat} (hg : w.grownBy w' row) (hne : ∀ a, A = some a → some a.block ≠ row) : OwnZ w' base A c xs := h.imp (fun h => h.grown hg hne) (fun h => h.grown hg hne)
theorem OwnZ.block (h : OwnZ w base A c xs) : ∀ a, A = some a → base ≤ a.block ∧ a.block < w.heap.size := h.elim (fun h => h.block) (fun h => h.block)
theorem OwnZ.mono (h : OwnZ w base A c xs) {base' : Nat} (hb : base' ≤ base) : OwnZ w base' A c xs := h.imp (fun h => h.mono hb) (fun h => h.mono hb)
theorem OwnZ.rd (h : OwnZ w base A c xs) : Rd .u8 w A xs.length xs := h.elim (fun h => h.rd) (fun h => h.rd)
theorem OwnZ.rd' (h : OwnZ w base A c xs) {n : Nat} (hn : xs.length = n) : Rd .u8 w A n xs := hn ▸ h.rd
theorem OwnZ.at_ (h : OwnZ w base A c xs) {j : Nat} (hj : j < xs.length) :
    ∃ b, A = some ⟨b, 0, none⟩ ∧ base ≤ b ∧ b < w.heap.size ∧ w.cell? ⟨b, j, none⟩ = some (.int .u8 ((xs.getD j 0 : Nat) : Int)) ∧ w.frozen? ⟨b, j, none⟩ = false ∧
      ∀ y : Nat, OwnZ (w.setCell ⟨b, j, none⟩ (.int .u8 (y : Int))) base A c (xs.set j y) ∧ w.grownBy (w.setCell ⟨b, j, none⟩ (.int .u8 (y : Int))) (some b) := by
  rcases h with h | h
  · obtain ⟨b, h1, h2, h3, h4, h5, h6⟩ := h.at_ hj
    exact ⟨b, h1, h2, h3, h4, h5, fun y => ⟨.inl (h6 y).1, (h6 y).2⟩⟩
  · obtain ⟨b, h1, h2, h3, h4, h5, h6⟩ := h.at_ hj
    exact ⟨b, h1, h2, h3, h4, h5, fun y => ⟨.inr (h6 y).1, (h6 y).2⟩⟩
theorem OwnZ.head (h : OwnZ w base A c xs) (hn : 0 < xs.length) : ∃ b, A = some ⟨b, 0, none⟩ := by
  obtain ⟨b, hb, _⟩ := h.at_ hn
  exact ⟨b, hb⟩
theorem OwnZ.rd_take (h : OwnZ w base A c xs) {n : Nat} (hn : n ≤ xs.length) : Rd .u8 w A n (xs.take n) := by
  refine ⟨by rw [List.length_take]; omega, fun h0 => ?_⟩
  obtain ⟨b, o, hA, hlt, hc⟩ := h.rd.2 (by omega)
  refine ⟨b, o, hA, hlt, fun j hj => ?_⟩
  rw [hc j (by omega)]
  simp [List.getD, hj]
end

set_option maxRecDepth 100000 in
/-- 'append(out, x)' onto a row that was made of a string. -/
theorem run_pushM {w W : World} {base c : Nat} {A : Option Addr} {xs : List Nat} (x : Nat) (hown : OwnM w base A c xs) (ty : TypeId) (hW : W = w.alloc (.cells #[.int .u8 (x : Int)] 5)) (hn : (xs.length + 1) + (xs.length + 1) / 4 + 192 ≤ 281474976710656) (hbase : base ≤ w.heap.size) :
    ∃ A' c' w', (Builtin.append_ #[34, 34] ty #[.slice A xs.length c, .slice (some ⟨w.heap.size, 0, none⟩) 1 1]).run Try.prog W = .ok (.slice A' (xs.length + 1) c') w' ∧
      OwnZ w' base A' c' (xs ++ [x]) ∧ (A' = A ∧ w.grownBy w' (A.map (·.block)) ∨ Ext w w' ∧ ∀ q, A' = some q → w.heap.size ≤ q.block) ∧ base ≤ w'.heap.size := by
  obtain ⟨i, hi0, hz, hsz, hbs⟩ := info_parts Try.infoU8
  have hWs : W.heap.size = w.heap.size + 1 := by subst hW; simp
  have hWx : Ext w W := by subst hW; exact (Ext.refl w).alloc _
  have hcell : ∀ j u, [Value.int .u8 (x : Int)][j]? = some u → W.cell? ((⟨w.heap.size, 0, none⟩ : Addr).add j) = some u := by
    subst hW
    intro j u hj
    match j, hj with
    | 0, hj => simp at hj; subst hj; simp [Addr.add]
  have hmap : (xs ++ [x]).map (fun x : Nat => Value.int .u8 (x : Int)) = (xs.map fun x : Nat => Value.int .u8 (x : Int)) ++ [.int .u8 (x : Int)] := by simp
  have hlen2 : (xs ++ [x]).length = xs.length + 1 := by simp
  have hrdW := (hown.ext hWx).rd
  obtain ⟨g, cur, rfl, h2, h3w, h4, h5, h6, h7⟩ := hown
  have hglt : g < w.heap.size := (Array.getElem?_eq_some_iff.1 h3w).1
  have h3 : W.heap[g]? = some (.cells cur 5 (c, c + 1)) := (hWx.block g hglt).trans h3w
  have ht := Try.underlying34
  by_cases hroom : xs.length + 1 ≤ c
  · have hf := run_firstCells_some (P := Try.prog) W i.size 1 ⟨w.heap.size, 0, none⟩ 1 1 [.int .u8 (x : Int)] (by simp [hsz]) hcell
    rw [hsz] at hf
    have hfro : W.frozen? ⟨g, xs.length, none⟩ = false := by
      simp only [World.frozen?, h3, Bool.and_eq_false_iff, decide_eq_false_iff_not]
      left
      omega
    have hc0 : W.cell? ⟨g, xs.length, none⟩ = some cur[xs.length] := by simp [World.cell?, h3, show xs.length < cur.size by omega]
    have hst : (storeCells ⟨g, xs.length, none⟩ [.int .u8 (x : Int)] 0).run Try.prog W = .ok () (W.setRow g (cur.setIfInBounds xs.length (.int .u8 (x : Int)))) := by
      have hs1 : (store ((⟨g, xs.length, none⟩ : Addr).add 0) (.int .u8 (x : Int))).run Try.prog W = .ok () (W.setRow g (cur.setIfInBounds xs.length (.int .u8 (x : Int)))) := by
        rw [show (⟨g, xs.length, none⟩ : Addr).add 0 = ⟨g, xs.length, none⟩ from by unfold Addr.add; split <;> simp_all, run_store Try.prog W _ _ _ rfl, hc0]
        simp [hfro, setCell_eq_setRow W g xs.length cur _ _ _ h3]
      simp only [storeCells, Sem.run_bind, hs1, Result.andThen_ok, Sem.run_pure]
    refine ⟨some ⟨g, 0, none⟩, c, W.setRow g (cur.setIfInBounds xs.length (.int .u8 (x : Int))), ?_, .inr ⟨g, cur.setIfInBounds xs.length (.int .u8 (x : Int)), rfl, h2, setRow_heap W g cur _ _ _ h3, by rw [hlen2]; exact hroom, h5, by simpa using h6, ?_⟩, .inl ⟨rfl, ?_⟩, ?_⟩
    · simp [Builtin.append_, run_underlying ht, sizeOf, typeInfo, hi0, Builtin.lenOf, hroom, hf, hsz, Addr.add_lit, hst]
    · rw [hlen2, hmap, Array.toList_setIfInBounds, ← h7]
      have hl : xs.length < cur.toList.length := by simpa using (show xs.length < cur.size by omega)
      rw [List.take_succ_eq_append_getElem (by simpa using hl), List.take_set_of_le (Nat.le_refl _), List.getElem_set_self]
    · exact ⟨hWx.os, hWx.tape, hWx.output, (by have := hWx.size; simpa using this), fun j hj hne => (setRow_other W g j _ (fun e => hne (by simp [e]))).trans (hWx.block j hj)⟩
    · have := hWx.size; simp; omega
  · have holds : ∀ j u, (xs.map fun x : Nat => Value.int .u8 (x : Int))[j]? = some u → W.cell? ((⟨g, 0, none⟩ : Addr).add j) = some u := by
      intro j u hu
      have hj : j < xs.length := by have := (List.getElem?_eq_some_iff.1 hu).1; simpa using this
      obtain ⟨b', o', e, _, hc⟩ := hrdW.2 (by omega)
      injection e with e
      injection e with e1 e2
      subst e1 e2
      have h1 := hc j hj
      rw [List.getElem?_map, List.getElem?_eq_getElem hj, Option.map_some] at hu
      injection hu with hu
      rw [Addr.add_lit, h1, ← hu, List.getD, List.getElem?_eq_getElem hj]
      rfl
    have hr := run_append_grow (P := Try.prog) W 34 ty 5 i _ ht hi0 hz ⟨g, 0, none⟩ xs.length c _ (by rw [hsz]; simp) holds ⟨w.heap.size, 0, none⟩ 1 1 [.int .u8 (x : Int)] (by simp [hsz]) hcell (by omega) (by omega) (growslice_fits_wide (by omega) (by rw [hbs]; omega))
    have hge := grownCap_ge W (xs.length + 1) c 5
    have hnew : ∀ (cap : Nat) (cur : Array Value), xs.length + 1 ≤ cap → cap ≤ maxLen → cur.size = cap * 1 → cur.toList.take (xs.length + 1) = (xs ++ [x]).map (fun x : Nat => Value.int .u8 (x : Int)) →
        Own .u8 5 (W.drew.alloc (.cells cur 5)) base (some ⟨W.heap.size, 0, none⟩) cap (xs ++ [x]) ∧ Ext w (W.drew.alloc (.cells cur 5)) := by
      intro cap cur hc hm hcs ht
      refine ⟨⟨by simp, .inr ⟨W.heap.size, cap, cur, by rw [hlen2], by omega, heap_alloc_new W.drew _, by rw [hlen2]; exact hc, hm, hcs, by rw [hlen2, Nat.mul_one]; exact ht⟩⟩, hWx.drew.alloc _⟩
    obtain ⟨ho1, he1⟩ := hnew (grownCap W (xs.length + 1) c 5) ((xs.map fun x : Nat => Value.int .u8 (x : Int)).toArray ++ [.int .u8 (x : Int)].toArray ++ Builtin.zeroCells (Value.int .u8 0).cells (grownCap W (xs.length + 1) c 5 - (xs.length + 1))) hge (grownCap_le_maxLen W _ _ _ (by unfold maxLen; omega)) (by simp only [Array.size_append, List.size_toArray, size_zeroCells, show (Value.int .u8 0).cells.size = 1 from rfl, List.length_singleton, List.length_map]; omega) (by
        simp only [Array.toList_append, List.append_assoc]
        rw [← List.append_assoc, ← hmap, ← hlen2, show (xs ++ [x]).length = ((xs ++ [x]).map fun x : Nat => Value.int .u8 (x : Int)).length from by simp]
        exact List.take_left)
    exact ⟨_, _, _, hr, .inl ho1, .inr ⟨he1, fun q hq => by injection hq with hq; subst hq; simp; omega⟩, Nat.le_trans hbase he1.size⟩

/-- 'append(out, x)' onto a row of the call's own: it lies where it lay, or in a new block. -/
theorem wpList_pushZ {w : World} {ops : Array Oper} {rest : List Oper} {o : Oper} {a : Act} {Q : Exit → Act → World → Prop} (x : Nat) (hgd : o.guard = none) (s y : Operand)
    (ho : o.op = .call { callee := .builtin .append, args := #[s, y], argTypes := #[34, 34] })
    {base : Nat} {A : Option Addr} {c : Nat} {xs : List Nat} (hown : OwnZ w base A c xs) (n : Nat) (hn : xs.length = n) (hs : a.eval s = .slice A n c)
    (hy : a.eval y = .slice (some ⟨w.heap.size, 0, none⟩) 1 1)
    {X : Int} (hX : X = (x : Int)) (hlen : ((n + 1) + (n + 1) / 4 + 192) * 1 ≤ 281474976710656) (hbase : base ≤ w.heap.size)
    (h : ∀ A' c' w', OwnZ w' base A' c' (xs ++ [x]) → (A' = A ∧ w.grownBy w' (A.map (·.block)) ∨ Ext w w' ∧ ∀ q, A' = some q → w.heap.size ≤ q.block) → base ≤ w'.heap.size → wpList Try.prog ops Q rest (a.put o.dst (.slice A' (n + 1) c')) w') :
    wpList Try.prog ops Q (o :: rest) a (w.alloc (.cells #[.int .u8 X] 5)) := by
  rcases hown with hown | hown
  · exact wpList_push2 .u8 x 5 hgd s y 34 ho _ 1 Try.underlying34 Try.infoU8 rfl hown n hn hs hy hX hlen (by omega) hbase (fun A' c' w' h1 h2 h3 => h A' c' w' (.inl h1) h2 h3)
  · subst hX
    subst hn
    refine wpList_plain hgd fun _ hK => ?_
    obtain ⟨A', c', w', hr, h2, h3, h4⟩ := run_pushM x hown o.type rfl (by omega) hbase
    unfold Oper.wp execOp
    simp only [ho, resolve, invoke, builtin, Sem.run_bind, Sem.run_pure, Result.andThen_ok, List.map_toArray, List.map_cons, List.map_nil, hs, hy, hr]
    exact hK _ _ (h A' c' w' h2 h3 h4)

end Go.Proofs.Ytpdppldkebfikaa
