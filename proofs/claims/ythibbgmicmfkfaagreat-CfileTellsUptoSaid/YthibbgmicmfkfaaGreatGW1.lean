import Derived.WalkKit
import Derived.Deep.QuietTactic
import Derived.BigQuiet
import Derived.Deep.Draws
import Derived.Lib.Hide
import Derived.Maps.AppendAt
import Derived.Deep.DeepAppendWide
import Derived.Test.YthibbgmicmfkfaaGreatProg
import Derived.ProofKit
import Derived.OpenShut
import Derived.ShutString
import Derived.ChangeOld
import Derived.Below
import Derived.SizedLaws
import Derived.Laws.OwnMore
import Derived.Laws.AppendOwnNone
import Derived.Lib.AppendZeros
import Derived.Shelf.Strconv.Itoa0
import Derived.Lib.BitFns
namespace Go.Proofs.YthibbgmicmfkfaaGreat
open Go.RowKit
set_option maxRecDepth 100000
def Ext (w w' : World) : Prop := Below w.heap.size w w'
theorem Ext.below {a b : World} (h : Ext a b) : Below a.heap.size a b := h
theorem Ext.refl (w : World) : Ext w w := Below.refl _ _
theorem Ext.trans {a b c : World} (h : Ext a b) (k : Ext b c) : Ext a c := Below.trans h (Below.mono k h.size)
theorem Ext.size {a b : World} (h : Ext a b) : a.heap.size ≤ b.heap.size := Below.size h
theorem Ext.drewN {a b : World} (h : Ext a b) (n : Nat) : Ext a (b.drewN n) := ⟨h.os, h.tape, h.output, (have hs := Below.size h.below; hs), h.block⟩
theorem Ext.drew {a b : World} (h : Ext a b) : Ext a b.drew := ⟨h.os, h.tape, h.output, (have hs := Below.size h.below; hs), h.block⟩
theorem Ext.alloc {a b : World} (h : Ext a b) (o : Obj) : Ext a (b.alloc o) := Below.alloc h (Below.size h) o
theorem Ext.of_drewN (w : World) (n : Nat) : Ext w (w.drewN n) := (Ext.refl w).drewN n
theorem Ext.setCell {a b : World} (h : Ext a b) {p : Addr} (hp : a.heap.size ≤ p.block) (u : Value) : Ext a (b.setCell p u) := Below.setCell h hp u
def Rd (k : IntKind) (w : World) (A : Option Addr) (n : Nat) (xs : List Nat) : Prop :=
 xs.length = n ∧ (0 < n → ∃ b o, A = some ⟨b, o, none⟩ ∧ b < w.heap.size ∧ ∀ j, j < n → w.cell? ⟨b, o + j, none⟩ = some (.int k ((xs.getD j 0 : Nat) : Int)))
section
variable {k : IntKind} {w w' : World} {n : Nat} {A : Option Addr} {xs : List Nat}
theorem Rd.len (h : Rd k w A n xs) : xs.length = n := h.1
theorem Rd.nil (k : IntKind) (w : World) (A : Option Addr) : Rd k w A 0 [] := ⟨rfl, fun h => absurd h (by omega)⟩
theorem Rd.at_ (h : Rd k w A n xs) {j : Nat} (hj : j < n) : ∃ b o, A = some ⟨b, o, none⟩ ∧ b < w.heap.size ∧ w.cell? ⟨b, o + j, none⟩ = some (.int k ((xs.getD j 0 : Nat) : Int)) := by
 obtain ⟨b, o, e, hb, hc⟩ := h.2 (by omega)
 exact ⟨b, o, e, hb, hc j hj⟩
theorem Rd.ext (h : Rd k w A n xs) (hb : Ext w w') : Rd k w' A n xs :=
 ⟨h.1, fun hn => by
   obtain ⟨b, o, e, hlt, hc⟩ := h.2 hn
   exact ⟨b, o, e, Nat.lt_of_lt_of_le hlt hb.size, fun j hj => (Below.cell hb (p := ⟨b, o + j, none⟩) hlt).trans (hc j hj)⟩⟩
theorem Rd.grown (h : Rd k w A n xs) {row : Option Nat} (hg : w.grownBy w' row) (hne : ∀ a, A = some a → some a.block ≠ row) : Rd k w' A n xs :=
 ⟨h.1, fun hn => by
   obtain ⟨b, o, e, hlt, hc⟩ := h.2 hn
   exact ⟨b, o, e, Nat.lt_of_lt_of_le hlt hg.size, fun j hj => (World.cell?_of_block (w := w) (a := ⟨b, o + j, none⟩) (hg.block b hlt (hne _ e))).trans (hc j hj)⟩⟩
end
def Own (k : IntKind) (e : TypeId) (w : World) (base : Nat) (A : Option Addr) (c : Nat) (xs : List Nat) : Prop :=
 w.ownsRow base e 1 (.slice A xs.length c) xs.length (xs.map fun x : Nat => Value.int k (x : Int))
section
variable {k : IntKind} {e : TypeId} {w w' : World} {base c : Nat} {A : Option Addr} {xs : List Nat}
theorem Own.rd (h : Own k e w base A c xs) : Rd k w A xs.length xs := by
 refine ⟨rfl, fun hn => ?_⟩
 obtain ⟨_, h2⟩ := h
 rcases h2 with ⟨_, h0⟩ | ⟨g, cap, cur, hv, hg, hh, hnc, hcm, hcs, htake⟩
 · omega
 · injection hv with hA hl hc
   subst hA
   have hlt : g < w.heap.size := (Array.getElem?_eq_some_iff.1 hh).1
   refine ⟨g, 0, rfl, hlt, fun j hj => ?_⟩
   rw [cell_of_row w g (0 + j) cur e (0, 0) hh]
   have hu : cur.toList[j]? = some (.int k ((xs.getD j 0 : Nat) : Int)) := by
     have h3 : (cur.toList.take (xs.length * 1))[j]? = some (Value.int k ((xs.getD j 0 : Nat) : Int)) := by
       rw [htake, List.getElem?_map, List.getElem?_eq_getElem hj]
       simp [hj]
     rw [List.getElem?_take] at h3
     split at h3
     · exact h3
     · cases h3
   simpa using hu
theorem Own.rd' (h : Own k e w base A c xs) {n : Nat} (hn : xs.length = n) : Rd k w A n xs := hn ▸ h.rd
theorem Own.nil (k : IntKind) (e : TypeId) (w : World) (base : Nat) : Own k e w base none 0 [] := World.ownsRow_nil w base e 1
theorem Own.ext (h : Own k e w base A c xs) (hb : Ext w w') : Own k e w' base A c xs := by
 refine World.ownsRow.kept (row := none) h ⟨hb.os, hb.tape, hb.output, hb.size, fun i hi _ => hb.block i hi⟩ ?_
 cases hv : (Value.slice A xs.length c).ownBlock <;> simp
theorem Own.mono (h : Own k e w base A c xs) {base' : Nat} (hb : base' ≤ base) : Own k e w base' A c xs := by
 refine ⟨h.1, ?_⟩
 rcases h.2 with hn | ⟨g, cap, cur, hv, hg, r⟩
 · exact Or.inl hn
 · exact Or.inr ⟨g, cap, cur, hv, Nat.le_trans hb hg, r⟩
theorem Own.block (h : Own k e w base A c xs) : ∀ a, A = some a → base ≤ a.block ∧ a.block < w.heap.size := by
 rintro a rfl
 exact h.lt a.block rfl
theorem Own.made (k : IntKind) (e : TypeId) (w : World) (hb : base ≤ w.heap.size) : Own k e (w.alloc (.cells #[] e)) base (some ⟨w.heap.size, 0, none⟩) 0 [] :=
 World.ownsRow_made w #[] 0 hb (by simp [maxLen]) (by simp)
end
theorem wpList_push {P : Program} {w0 w : World} {ops : Array Oper} {rest : List Oper} {o : Oper} {a : Act} {Q : Exit → Act → World → Prop} (k : IntKind) (x : Nat) (e : TypeId) (hgd : o.guard = none) (s y : Operand) (t : TypeId)
   (ho : o.op = .call { callee := .builtin .append, args := #[s, y], argTypes := #[t, t] })
   (z : Value) (bytes : Nat) (ht : P.underlying t = some (.slice e)) (hi : (P.info? e).map (fun i => (i.zero, i.size, i.bytes)) = some (some z, 1, bytes)) (hzs : z.cells.size = 1)
   {base : Nat} {A : Option Addr} {c : Nat} {xs : List Nat} (hown : Own k e w base A c xs) (n : Nat) (hn : xs.length = n) (hs : a.eval s = .slice A n c)
   (hy : a.eval y = .slice (some ⟨w.heap.size, 0, none⟩) 1 1)
   {X : Int} (hX : X = (x : Int)) (hlen : ((n + 1) + (n + 1) / 4 + 192) * bytes ≤ 281474976710656) (hby : 0 < bytes) (hb : Below base w0 w) (hbase : base ≤ w.heap.size)
   (h : ∀ A' c' w', Own k e w' base A' c' (xs ++ [x]) → Below base w0 w' → base ≤ w'.heap.size → wpList P ops Q rest (a.put o.dst (.slice A' (n + 1) c')) w') :
   wpList P ops Q (o :: rest) a (w.alloc (.cells #[.int k X] e)) := by
 subst hX
 subst hn
 obtain ⟨i, hi0, hz, hsz, hbs⟩ := info_parts hi
 have hle : xs.length + 1 ≤ 281474976710656 := Nat.le_trans (Nat.le_trans (by omega) (Nat.le_mul_of_pos_right ((xs.length + 1) + (xs.length + 1) / 4 + 192) hby)) hlen
 refine wpList_append_own_wide _ hgd s y t ho base e i z 1 bytes ht hi0 hz hsz hbs hzs (by decide) _ xs.length (xs.map fun x : Nat => Value.int k (x : Int)) hs (hown.alloc _)
   ⟨w.heap.size, 0, none⟩ 1 1 [.int k (x : Int)] hy rfl ?_ ?_ (by unfold maxLen; omega) hlen (by simp; omega) ?_
 · intro j u hj
   match j, hj with
   | 0, hj => simp at hj; subst hj; simp [Addr.add]
 · intro u hu; simp at hu; subst hu; rfl
 · intro v' w' hown' hg _
   have hform : ∃ A' c', v' = .slice A' (xs.length + 1) c' := by
     rcases hown'.2 with ⟨_, h0⟩ | ⟨g, cap, cur, hv, _⟩
     · omega
     · exact ⟨_, _, hv⟩
   obtain ⟨A', c', rfl⟩ := hform
   have hb' : Below base w0 w' := Below.grown (Below.alloc hb hbase _) hg (by simp; omega) (fun g hg' => (hown.lt g hg').1)
   refine h A' c' w' ?_ hb' ?_
   · unfold Own
     simpa using hown'
   · have := hg.size
     simp at this
     omega
section
variable {k : IntKind} {e : TypeId} {w w' : World} {base c : Nat} {A : Option Addr} {xs : List Nat}
theorem Own.at_ (h : Own k e w base A c xs) {j : Nat} (hj : j < xs.length) :
   ∃ b, A = some ⟨b, 0, none⟩ ∧ base ≤ b ∧ b < w.heap.size ∧ w.cell? ⟨b, j, none⟩ = some (.int k ((xs.getD j 0 : Nat) : Int)) ∧ w.frozen? ⟨b, j, none⟩ = false ∧
     ∀ y : Nat, Own k e (w.setCell ⟨b, j, none⟩ (.int k (y : Int))) base A c (xs.set j y) ∧ w.grownBy (w.setCell ⟨b, j, none⟩ (.int k (y : Int))) (some b) := by
 have h0 := h
 rcases h.2 with ⟨_, hn⟩ | ⟨g, cap, cur, hv, hg, hh, _⟩
 · omega
 · injection hv with hA hl hc
   subst hA
   subst hc
   have hlt : g < w.heap.size := (Array.getElem?_eq_some_iff.1 hh).1
   refine ⟨g, rfl, hg, hlt, ?_, World.ownsRow.frozenAt h0 j, fun y => ?_⟩
   · rw [World.ownsRow.cellAt h0 j (by omega), List.getElem?_map, List.getElem?_eq_getElem hj]
     simp [hj]
   · obtain ⟨h1, h2⟩ := World.ownsRow.stored h0 j (.int k (y : Int))
     refine ⟨?_, h2⟩
     unfold Own
     rw [List.length_set, List.map_set]
     exact h1
theorem Own.grown (h : Own k e w base A c xs) {row : Option Nat} (hg : w.grownBy w' row) (hne : ∀ a, A = some a → some a.block ≠ row) : Own k e w' base A c xs := by
 refine World.ownsRow.kept h hg ?_
 cases A with
 | none => exact Or.inl rfl
 | some a => exact Or.inr (hne a rfl)
end
theorem wpList_push2 {P : Program} {w : World} {ops : Array Oper} {rest : List Oper} {o : Oper} {a : Act} {Q : Exit → Act → World → Prop} (k : IntKind) (x : Nat) (e : TypeId) (hgd : o.guard = none) (s y : Operand) (t : TypeId)
   (ho : o.op = .call { callee := .builtin .append, args := #[s, y], argTypes := #[t, t] })
   (z : Value) (bytes : Nat) (ht : P.underlying t = some (.slice e)) (hi : (P.info? e).map (fun i => (i.zero, i.size, i.bytes)) = some (some z, 1, bytes)) (hzs : z.cells.size = 1)
   {base : Nat} {A : Option Addr} {c : Nat} {xs : List Nat} (hown : Own k e w base A c xs) (n : Nat) (hn : xs.length = n) (hs : a.eval s = .slice A n c)
   (hy : a.eval y = .slice (some ⟨w.heap.size, 0, none⟩) 1 1)
   {X : Int} (hX : X = (x : Int)) (hlen : ((n + 1) + (n + 1) / 4 + 192) * bytes ≤ 281474976710656) (hby : 0 < bytes) (hbase : base ≤ w.heap.size)
   (h : ∀ A' c' w', Own k e w' base A' c' (xs ++ [x]) → (A' = A ∧ w.grownBy w' (A.map (·.block)) ∨ Ext w w' ∧ ∀ q, A' = some q → w.heap.size ≤ q.block) → base ≤ w'.heap.size → wpList P ops Q rest (a.put o.dst (.slice A' (n + 1) c')) w') :
   wpList P ops Q (o :: rest) a (w.alloc (.cells #[.int k X] e)) := by
 subst hX
 subst hn
 obtain ⟨i, hi0, hz, hsz, hbs⟩ := info_parts hi
 have hle : xs.length + 1 ≤ 281474976710656 := Nat.le_trans (Nat.le_trans (by omega) (Nat.le_mul_of_pos_right ((xs.length + 1) + (xs.length + 1) / 4 + 192) hby)) hlen
 refine wpList_plain hgd fun _ hK => ?_
 generalize hW : w.alloc (.cells #[.int k (x : Int)] e) = W
 have hWs : W.heap.size = w.heap.size + 1 := by subst hW; simp
 have hWx : Ext w W := by subst hW; exact (Ext.refl w).alloc _
 have hcell : ∀ j u, [Value.int k (x : Int)][j]? = some u → W.cell? ((⟨w.heap.size, 0, none⟩ : Addr).add j) = some u := by
   subst hW
   intro j u hj
   match j, hj with
   | 0, hj => simp at hj; subst hj; simp [Addr.add]
 have h1 : ∀ u ∈ [Value.int k (x : Int)], u.oneCell' = true := by intro u hu; simp at hu; subst hu; rfl
 have hlen2 : (xs ++ [x]).length = xs.length + 1 := by simp
 have hmap : (xs ++ [x]).map (fun x : Nat => Value.int k (x : Int)) = (xs.map fun x : Nat => Value.int k (x : Int)) ++ [.int k (x : Int)] := by simp
 have hal : Own k e W base A c xs := hown.ext hWx
 suffices hrun : ∃ A' c' w', (Builtin.append_ #[t, t] o.type #[.slice A xs.length c, .slice (some ⟨w.heap.size, 0, none⟩) 1 1]).run P W = .ok (.slice A' (xs.length + 1) c') w' ∧
     Own k e w' base A' c' (xs ++ [x]) ∧ (A' = A ∧ w.grownBy w' (A.map (·.block)) ∨ Ext w w' ∧ ∀ q, A' = some q → w.heap.size ≤ q.block) ∧ base ≤ w'.heap.size by
   obtain ⟨A', c', w', hr, h2, h3, h4⟩ := hrun
   unfold Oper.wp execOp
   simp only [ho, resolve, invoke, builtin, Sem.run_bind, Sem.run_pure, Result.andThen_ok, List.map_toArray, List.map_cons, List.map_nil, hs, hy, hr]
   exact hK _ _ (h A' c' w' h2 h3 h4)
 have hnew : ∀ (cap : Nat) (cur : Array Value), xs.length + 1 ≤ cap → cap ≤ maxLen → cur.size = cap * 1 → cur.toList.take (xs.length + 1) = (xs ++ [x]).map (fun x : Nat => Value.int k (x : Int)) →
     Own k e (W.drew.alloc (.cells cur e)) base (some ⟨W.heap.size, 0, none⟩) cap (xs ++ [x]) ∧ Ext w (W.drew.alloc (.cells cur e)) := by
   intro cap cur hc hm hcs ht
   refine ⟨⟨by simp, .inr ⟨W.heap.size, cap, cur, by rw [hlen2], by omega, heap_alloc_new W.drew _, by rw [hlen2]; exact hc, hm, hcs, by rw [hlen2, Nat.mul_one]; exact ht⟩⟩, hWx.drew.alloc _⟩
 rcases hal.2 with ⟨hv, h0⟩ | ⟨g, cap, cur, hv, hbg, hh, hnc, hcm, hcs, htake⟩
 · injection hv with hA hl hc
   subst hA
   subst hc
   have hx0 : xs = [] := List.eq_nil_of_length_eq_zero h0
   subst hx0
   have hr := run_append_nil (P := P) W t o.type e i z ht hi0 hz ⟨w.heap.size, 0, none⟩ 1 1 [.int k (x : Int)] (by simp [hsz]) hcell (by omega) (by omega) (by rw [hbs]; simp at hlen; omega)
   have hge := grownCap_ge W 1 0 e
   obtain ⟨ho1, he1⟩ := hnew (grownCap W 1 0 e) ([.int k (x : Int)].toArray ++ Builtin.zeroCells z.cells (grownCap W 1 0 e - 1)) (by simpa using hge) (grownCap_le_maxLen W 1 0 e (by simp [maxLen])) (by simp only [Array.size_append, List.size_toArray, size_zeroCells, hzs, List.length_singleton]; omega) (by simp)
   exact ⟨_, _, _, by simpa using hr, ho1, .inr ⟨he1, fun q hq => by injection hq with hq; subst hq; simp; omega⟩, Nat.le_trans hbase he1.size⟩
 · injection hv with hA hl hc
   subst hA
   subst hc
   by_cases hroom : xs.length + 1 ≤ c
   · have hr := run_append_room (P := P) W t o.type e i ht hi0 g xs.length c cur hh ⟨w.heap.size, 0, none⟩ 1 1 [.int k (x : Int)] (by simp [hsz]) hcell h1 hroom (by rw [hsz, hcs]; simp; omega)
     have hgw : g ≠ w.heap.size := by
       rintro rfl
       have := (hown.block _ rfl).2
       simp at this
     refine ⟨_, _, _, hr, ⟨by simp, .inr ⟨g, c, _, by rw [hlen2], hbg, setRow_heap W g cur _ e _ hh, by rw [hlen2]; exact hroom, hcm, ?_, ?_⟩⟩, .inl ⟨rfl, ?_⟩, ?_⟩
     · simp only [List.size_toArray, List.length_append, List.length_take, List.length_drop, Array.length_toList, hsz, List.length_singleton]
       omega
     · rw [hlen2, hsz, hmap, htake, Nat.mul_one]
       have : (xs.map (fun x : Nat => Value.int k (x : Int)) ++ [Value.int k (x : Int)]).length = xs.length + 1 := by simp
       rw [← this]
       exact List.take_left
     · exact ⟨hWx.os, hWx.tape, hWx.output, (by have := hWx.size; simpa using this), fun j hj hne => (setRow_other W g j _ (fun e => hne (by simp [e]))).trans (hWx.block j hj)⟩
     · have := hWx.size; simp; omega
   · have holds : ∀ j u, (xs.map fun x : Nat => Value.int k (x : Int))[j]? = some u → W.cell? ((⟨g, 0, none⟩ : Addr).add j) = some u := World.ownsRow.cells hal (g := g) rfl
     have hr := run_append_grow (P := P) W t o.type e i z ht hi0 hz ⟨g, 0, none⟩ xs.length c _ (by rw [hsz]; simp) holds ⟨w.heap.size, 0, none⟩ 1 1 [.int k (x : Int)] (by simp [hsz]) hcell (by omega) (by omega) (growslice_fits_wide (by omega) (by rw [hbs]; exact hlen))
     have hge := grownCap_ge W (xs.length + 1) c e
     obtain ⟨ho1, he1⟩ := hnew (grownCap W (xs.length + 1) c e) ((xs.map fun x : Nat => Value.int k (x : Int)).toArray ++ [.int k (x : Int)].toArray ++ Builtin.zeroCells z.cells (grownCap W (xs.length + 1) c e - (xs.length + 1))) hge (grownCap_le_maxLen W _ _ e (by unfold maxLen; omega)) (by simp only [Array.size_append, List.size_toArray, size_zeroCells, hzs, List.length_singleton, List.length_map]; omega) (by
         simp only [Array.toList_append, List.append_assoc]
         rw [← List.append_assoc, ← hmap, ← hlen2, show (xs ++ [x]).length = ((xs ++ [x]).map fun x : Nat => Value.int k (x : Int)).length from by simp]
         exact List.take_left)
     exact ⟨_, _, _, hr, ho1, .inr ⟨he1, fun q hq => by injection hq with hq; subst hq; simp; omega⟩, Nat.le_trans hbase he1.size⟩
theorem wpList_mk {P : Program} {w : World} {ops : Array Oper} {rest : List Oper} {o : Oper} {a : Act} {Q : Exit → Act → World → Prop} (k : IntKind) (e : TypeId) (hgd : o.guard = none) (l c : Operand) (t : TypeId)
   (hop : o.op = Op.makeSlice t l c) (bytes : Nat) (ht : P.underlying t = some (.slice e)) (hi : (P.info? e).map (fun i => (i.zero, i.size, i.bytes)) = some (some (.int k 0), 1, bytes))
   (kl kc : IntKind) {L C : Int} (n : Nat) (hl : a.eval l = .int kl L) (hc : a.eval c = .int kc C) (hL : L = (n : Int)) (hC : C = (n : Int)) (hb : bytes * n ≤ 281474976710656) (hn : n ≤ 9223372036854775807)
   (h : ∀ w', Own k e w' w.heap.size (some ⟨w.heap.size, 0, none⟩) n (List.replicate n 0) → Ext w w' → wpList P ops Q rest (a.put o.dst (.slice (some ⟨w.heap.size, 0, none⟩) n n)) w') :
   wpList P ops Q (o :: rest) a w := by
 obtain ⟨i, hi0, hz, hsz, hbs⟩ := info_parts hi
 refine wpList_make_full w hgd l c t hop w.heap.size e i (.int k 0) 1 ht hi0 hz hsz kl kc L C n hl hc hL hC (by rw [hbs]; exact hb) (by unfold maxLen; omega) (Nat.le_refl _) ?_
 intro w' h1 h2
 refine h w' ?_ ⟨h2.os, h2.tape, h2.output, h2.size, fun j hj => h2.block j hj (by simp)⟩
 unfold Own
 have e1 : (madeCells (Value.int k 0).cells (n * 1)).toList = List.replicate n (Value.int k 0) := by
   rw [Nat.mul_one]; exact toList_madeCells_one _ _
 rw [e1] at h1
 simpa using h1
theorem Rd.lit (k : IntKind) (e : TypeId) (w : World) (xs : List Nat) : Rd k (w.alloc (.cells (xs.map fun x : Nat => Value.int k (x : Int)).toArray e)) (some ⟨w.heap.size, 0, none⟩) xs.length xs := by
 refine ⟨rfl, fun hn => ⟨w.heap.size, 0, rfl, by simp, fun j hj => ?_⟩⟩
 rw [cell_of_row _ w.heap.size (0 + j) _ e (0, 0) (heap_alloc_new w _)]
 simp [hj]
theorem Rd.lit_at (k : IntKind) (e : TypeId) (w : World) (xs : List Nat) {b n : Nat} (hb : w.heap.size = b) (hn : xs.length = n) : Rd k (w.alloc (.cells (xs.map fun x : Nat => Value.int k (x : Int)).toArray e)) (some ⟨b, 0, none⟩) n xs := by
 subst hb
 subst hn
 exact Rd.lit k e w xs
theorem Own.cap {k : IntKind} {e : TypeId} {w : World} {base c : Nat} {A : Option Addr} {xs : List Nat} (h : Own k e w base A c xs) : xs.length ≤ c ∧ c ≤ 9223372036854775807 := by
 rcases h.2 with ⟨hv, h0⟩ | ⟨g, cap, cur, hv, hg, hh, hnc, hcm, _⟩
 · injection hv with hA hl hc
   omega
 · injection hv with hA hl hc
   subst hc
   exact ⟨hnc, by simpa [maxLen] using hcm⟩
open Go.ChangeShapes Go.WideShapes Go.ChangeAt Go.RowKit
open Go.ChangeMaps (open_string shut_string)
theorem Tryz.own : ownKnob Tryz.prog.godebug = none := by kernel_rfl
theorem Tryz.laidOut : laidOutB Tryz.prog = true := by kernel_rfl
theorem wf_u8 {n : Int} (h : (Lit.int .u8 n).wf = true) : 0 ≤ n ∧ n < 256 := by
 simp [Lit.wf, IntKind.min, IntKind.max, IntKind.bits, IntKind.signed] at h; omega
theorem wf_u32 {n : Int} (h : (Lit.int .u32 n).wf = true) : 0 ≤ n ∧ n < 4294967296 := by
 simp [Lit.wf, IntKind.min, IntKind.max, IntKind.bits, IntKind.signed] at h; omega
theorem wf_i64 {n : Int} (h : (Lit.int .i64 n).wf = true) : -9223372036854775808 ≤ n ∧ n ≤ 9223372036854775807 := by
 simp [Lit.wf, IntKind.min, IntKind.max, IntKind.bits, IntKind.signed] at h; omega
theorem open_nums {H : Type} {enc : TypeId × Value → H} {P : Program} {W : World} {k : IntKind} {t e : TypeId} {M : Int} {a : Option Addr} {len cap bytes : Nat} {d : DataW H} {p : List MemPlace}
   (ht : P.underlying t = some (.slice e)) (he : P.underlying e = some (.int k)) (hc : P.cellsOf e = 1) (hby : P.bytesOf e = bytes) (hM : ∀ n : Int, (Lit.int k n).wf = true → 0 ≤ n ∧ n < M)
   (h : DataW.Trod enc P W 0 (fun _ => true) true t (.slice a len cap) d p)
   {ts : List TypeId} {ds : List (DataW H)} (hsz : (DataW.weightsEach P ts ds).all (· ≤ reachBytes) = true) (j : Nat) (htj : ts[j]? = some t) (hdj : ds[j]? = some d) :
   ∃ xs : List Nat, Rd k W a len xs ∧ (∀ v ∈ xs, (v : Int) < M) ∧ len * bytes ≤ 140737488351232 ∧ (len = 0 ∨ ∃ elems spare, d = .slice elems spare ∧ elems.length = len) := by
 obtain ⟨fuel, hf⟩ := h
 rcases open_ints ht he hc hf with ⟨hcs, hx⟩ | ⟨x, l, c, zs, hcs, _, hl, hm, hz, hx, hcell, hwz⟩
 · simp [Value.cells] at hcs
   obtain ⟨rfl, rfl, rfl⟩ := hcs
   exact ⟨[], Rd.nil .., (by intro v hv; cases hv), by omega, .inl rfl⟩
 · simp [Value.cells] at hcs
   obtain ⟨rfl, rfl, rfl⟩ := hcs
   simp only [Prod.mk.injEq] at hx
   obtain ⟨rfl, _⟩ := hx
   have hzl : zs.length = cap := by simpa using hz
   have hr := sized_slice hsz (j := j) (t := t) (e := e) htj hdj ht
   rw [hby] at hr
   simp only [lits, List.length_map, List.length_take, List.length_drop, reachBytes] at hr
   have hr2 : len * bytes ≤ cap * bytes := Nat.mul_le_mul_right _ hl
   have hw : ∀ i, i < len → 0 ≤ zs.getD i 0 ∧ zs.getD i 0 < M := by
     intro i hi
     have hlt : i < zs.length := by omega
     have := hM _ (hwz _ (List.getElem_mem hlt))
     simpa [List.getD, hlt] using this
   refine ⟨(zs.take len).map Int.toNat, ⟨by rw [List.length_map, List.length_take]; omega, fun hn => ?_⟩, ?_, ?_, .inr ⟨_, _, rfl, by simp [lits]; omega⟩⟩
   · have hc0 := hcell 0 (by omega)
     obtain ⟨b, o, spot⟩ := x
     have hspot : spot = none := by simpa [Addr.add] using World.cell?_spot hc0
     subst hspot
     refine ⟨b, o, rfl, ?_, fun i hi => ?_⟩
     · have hb := World.block_lt_of_cell? W _ hc0
       simpa [Addr.add] using hb
     · have h1 := hcell i (by omega)
       rw [add_plain] at h1
       rw [h1]
       have h2 := (hw i hi).1
       have hlt : i < zs.length := by omega
       have h3 : (((zs.take len).map Int.toNat).getD i 0 : Nat) = (zs.getD i 0).toNat := by simp [List.getD, hi, hlt]
       rw [h3, Int.toNat_of_nonneg h2]
   · intro v hv
     obtain ⟨n, hn, rfl⟩ := List.mem_map.1 hv
     have := hM _ (hwz _ (List.mem_of_mem_take hn))
     omega
   · have : min len zs.length + (zs.length - len) = cap := by omega
     rw [this] at hr
     omega
theorem Tryz.infoU8 : (Tryz.prog.info? 5).map (fun i => (i.zero, i.size, i.bytes)) = some (some (.int .u8 0), 1, 1) := by kernel_rfl
def pw (k : Nat) : Nat := 2 ^ k
theorem pw_succ (k : Nat) : pw (k + 1) = pw k * 2 := Nat.pow_succ ..
theorem pw_le {j k : Nat} (h : j ≤ k) : pw j ≤ pw k := Nat.pow_le_pow_right (by omega) h
theorem pw_63 : pw 63 = 9223372036854775808 := by decide
theorem take_next (xs : List Nat) (j : Nat) (h : j < xs.length) : xs.take (j + 1) = xs.take j ++ [xs.getD j 0] := by
 rw [List.take_succ_eq_append_getElem h]; simp [List.getD, h]
set_option maxHeartbeats 400000 in
theorem copy_any (A : Option Addr) (n c : Nat) (xs : List Nat) (w : World) (hx : Rd .u8 w A n xs) (hn : n ≤ 140737488355328) :
   Calls Tryz.prog 38 #[.slice A n c] w fun e w' => ∃ A' c', e = .returned (.slice A' n c') ∧ Own .u8 5 w' w.heap.size A' c' xs ∧ Ext w w' := by
 have hl := hx.len
 go_enter Tryz.func38, Tryz.ntmps38
 go_wp2
 go_loopw [3, 4] (fun v i wr => ∃ (j : Nat) (A' : Option Addr) (c' : Nat), j ≤ n ∧ i = .int .i64 j ∧ v = .slice A' j c' ∧ Own .u8 5 wr w.heap.size A' c' (xs.take j) ∧ Below w.heap.size w wr) (fun _ i _ => n - (intOf i).toNat)
 case atStart => exact ⟨0, _, _, Nat.zero_le _, rfl, rfl, Own.made _ _ _ (Nat.le_refl _), (Ext.refl w).alloc _⟩
 case round =>
   obtain ⟨j, A', c', hj, rfl, rfl, hown, hb⟩ := hrel
   have hz := hb.size
   by_cases hlt : j < n
   · obtain ⟨b, o, rfl, hbl, hc⟩ := (hx.ext hb).at_ hlt
     have htl : (xs.take j).length = j := by rw [List.length_take]; omega
     have Htl := Lib.hid htl
     have Hl := Lib.hid hl
     clear htl hl
     go_wp2_with (at_builtin; refine wpList_push .u8 (xs.getD j 0) 5 rfl _ _ 22 rfl _ 1 Tryz.underlying22 Tryz.infoU8 rfl hown j Htl.out rfl rfl rfl (by omega) (by omega) hb hz ?_; intro A1 c1 w1 hown1 hb1 hz1)
     go_roundw
     case rel => exact ⟨j + 1, A1, c1, by omega, by go_num, rfl, by rw [take_next _ _ (by have := Hl.out; omega)]; exact hown1, hb1⟩
     case measure => simp [intOf]; omega
   · obtain rfl : j = n := by omega
     go_wp2
     go_ret
     rw [List.take_of_length_le (by omega)] at hown
     exact ⟨_, _, rfl, hown, hb⟩
theorem eq_of_getD {xs ys : List Nat} (hl : xs.length = ys.length) (h : ∀ j, j < xs.length → xs.getD j 0 = ys.getD j 0) : xs = ys := by
 apply List.ext_getElem hl
 intro j h1 h2
 have := h j h1
 simpa [List.getD, h1, h2] using this
set_option maxHeartbeats 400000 in
theorem same_any (A A' : Option Addr) (n c n' c' : Nat) (xs ys : List Nat) (w : World) (hx : Rd .u8 w A n xs) (hy : Rd .u8 w A' n' ys) (hn : n ≤ 281474976710656) (hn' : n' ≤ 281474976710656) :
   Calls Tryz.prog 33 #[.slice A n c, .slice A' n' c'] w fun e w' => e = .returned (.bool (decide (xs = ys))) ∧ ∃ q, w' = w.drewN q := by
 have hl := hx.len
 have hl' := hy.len
 have Hl := Lib.hid hl
 have Hl' := Lib.hid hl'
 clear hl hl'
 by_cases hd : n = n'
 · subst hd
   go_enter Tryz.func33, Tryz.ntmps33
   go_wp2
   go_loopw [5] (fun i wr => ∃ j q : Nat, j ≤ n ∧ i = .int .i64 j ∧ wr = w.drewN q ∧ ∀ t, t < j → xs.getD t 0 = ys.getD t 0) (fun i _ => n - (intOf i).toNat)
   case atStart => exact ⟨0, 0, Nat.zero_le _, rfl, rfl, fun t ht => absurd ht (by omega)⟩
   case round =>
     obtain ⟨j, q, hj, rfl, rfl, hsame⟩ := hrel
     have Hs := Lib.hid hsame
     clear hsame
     by_cases hlt : j < n
     · obtain ⟨b, o, rfl, hbl, hc⟩ := hx.at_ hlt
       obtain ⟨b', o', rfl, hbl', hc'⟩ := hy.at_ hlt
       obtain ⟨u, hu⟩ : ∃ u, u = xs.getD j 0 := ⟨_, rfl⟩
       obtain ⟨v, hv⟩ : ∃ v, v = ys.getD j 0 := ⟨_, rfl⟩
       rw [← hu] at hc
       rw [← hv] at hc'
       have Hu := Lib.hid hu
       have Hv := Lib.hid hv
       clear hu hv
       have hji : (j : Int) < (n : Int) := by omega
       by_cases huv : u = v
       · have hne : ((u : Int) != (v : Int)) = false := by simp [huv]
         have Huv := Lib.hid huv
         clear huv
         go_wp2_with fail
         go_quiet (fail)
         go_wp2
         go_roundw
         case rel => exact ⟨j + 1, _, by omega, by go_num, rfl, fun t ht => by
           by_cases h : t < j
           · exact Hs.out t h
           · obtain rfl : t = j := by omega
             exact Hu.out.symm.trans (Huv.out.trans Hv.out)⟩
         case measure => simp [intOf]; omega
       · have hne : ((u : Int) != (v : Int)) = true := by rw [bne_iff_ne]; omega
         go_wp2_with fail
         go_quiet (fail)
         go_wp2
         go_ret
         exact ⟨by rw [decide_eq_false (by rintro rfl; exact huv (Hu.out.trans Hv.out.symm))]; rfl, _, World.drewN_drewN ..⟩
     · obtain rfl : j = n := by omega
       go_wp2
       go_ret
       exact ⟨by rw [decide_eq_true (eq_of_getD (Hl.out.trans Hl'.out.symm) fun t ht => Hs.out t (Hl.out ▸ ht))]; rfl, q, rfl⟩
 · have hb : ((n : Int) != (n' : Int)) = true := by rw [bne_iff_ne]; omega
   go_enter Tryz.func33, Tryz.ntmps33
   go_wp2
   go_ret
   exact ⟨by rw [decide_eq_false (by rintro rfl; exact hd (Hl.out.symm.trans Hl'.out))]; rfl, 0, rfl⟩
def U8 (xs : List Nat) : Prop := ∀ x ∈ xs, x < 256
instance (xs : List Nat) : Decidable (U8 xs) := inferInstanceAs (Decidable (∀ x ∈ xs, x < 256))
theorem U8.at_ {xs : List Nat} (h : U8 xs) (j : Nat) : xs.getD j 0 < 256 := by
 by_cases hj : j < xs.length
 · have := h _ (List.getElem_mem hj); simpa [List.getD, hj] using this
 · simp [List.getD, hj]
set_option maxHeartbeats 400000 in
theorem cat_any (A A2 : Option Addr) (n c n2 c2 : Nat) (xs ys : List Nat) (w : World) (hx : Rd .u8 w A n xs) (hy : Rd .u8 w A2 n2 ys) (hn : n + n2 ≤ 180000000000000) :
   Calls Tryz.prog 71 #[.slice A n c, .slice A2 n2 c2] w fun e w' => ∃ A' c', e = .returned (.slice A' (n + n2 : Nat) c') ∧ Own .u8 5 w' w.heap.size A' c' (xs ++ ys) ∧ Ext w w' := by
 have hl := hx.len
 have hl2 := hy.len
 have Hl := Lib.hid hl
 have Hl2 := Lib.hid hl2
 clear hl hl2
 go_enter Tryz.func71, Tryz.ntmps71
 go_wp2
 go_loopw [5, 6] (fun v i wr => ∃ (j : Nat) (A' : Option Addr) (c' : Nat), j ≤ n ∧ i = .int .i64 j ∧ v = .slice A' j c' ∧ Own .u8 5 wr w.heap.size A' c' (xs.take j) ∧ Below w.heap.size w wr) (fun _ i _ => n - (intOf i).toNat)
 case atStart => exact ⟨0, _, _, Nat.zero_le _, rfl, rfl, Own.made _ _ _ (Nat.le_refl _), (Ext.refl w).alloc _⟩
 case round =>
   obtain ⟨j, A', c', hj, rfl, rfl, hown, hb⟩ := hrel
   have hz := hb.size
   by_cases hlt : j < n
   · obtain ⟨b, o, rfl, hbl, hc⟩ := (hx.ext hb).at_ hlt
     have htl : (xs.take j).length = j := by rw [List.length_take, Hl.out]; omega
     have Htl := Lib.hid htl
     clear htl
     go_wp2_with (at_builtin; refine wpList_push .u8 (xs.getD j 0) 5 rfl _ _ 22 rfl _ 1 Tryz.underlying22 Tryz.infoU8 rfl hown j Htl.out rfl rfl rfl (by omega) (by omega) hb hz ?_; intro A1 c1 w1 hown1 hb1 hz1)
     go_roundw
     case rel => exact ⟨j + 1, A1, c1, by omega, by go_num, rfl, by rw [take_next _ _ (by have := Hl.out; omega)]; exact hown1, hb1⟩
     case measure => simp [intOf]; omega
   · obtain rfl : j = n := by omega
     rw [List.take_of_length_le (Nat.le_of_eq Hl.out)] at hown
     have h0 : Own .u8 5 wr w.heap.size A' c' (xs ++ ys.take 0) := by simpa using hown
     go_wp2
     go_loopw [5, 7] (fun v i wr => ∃ (q : Nat) (A' : Option Addr) (c' : Nat), q ≤ n2 ∧ i = .int .i64 q ∧ v = .slice A' (j + q : Nat) c' ∧ Own .u8 5 wr w.heap.size A' c' (xs ++ ys.take q) ∧ Below w.heap.size w wr) (fun _ i _ => n2 - (intOf i).toNat)
     case atStart => exact ⟨0, _, _, Nat.zero_le _, rfl, rfl, h0, hb⟩
     case round =>
       clear hown h0 hb hz
       obtain ⟨q, A', c', hq, rfl, rfl, hown, hb⟩ := hrel
       have hz := hb.size
       by_cases hlt : q < n2
       · obtain ⟨b, o, rfl, hbl, hc⟩ := (hy.ext hb).at_ hlt
         have htl : (xs ++ ys.take q).length = j + q := by rw [List.length_append, List.length_take, Hl2.out, Hl.out]; omega
         have Htl := Lib.hid htl
         clear htl
         go_wp2_with (at_builtin; refine wpList_push .u8 (ys.getD q 0) 5 rfl _ _ 22 rfl _ 1 Tryz.underlying22 Tryz.infoU8 rfl hown (j + q) Htl.out rfl rfl rfl (by omega) (by omega) hb hz ?_; intro A1 c1 w1 hown1 hb1 hz1)
         go_roundw
         case rel => exact ⟨q + 1, A1, c1, by omega, by go_num, rfl, by rw [take_next _ _ (by have := Hl2.out; omega), ← List.append_assoc]; exact hown1, hb1⟩
         case measure => simp [intOf]; omega
       · obtain rfl : q = n2 := by omega
         rw [List.take_of_length_le (Nat.le_of_eq Hl2.out)] at hown
         go_wp2
         go_ret
         exact ⟨_, _, rfl, hown, hb⟩
theorem grownBy_ext {w0 w w' : World} {row : Option Nat} (h : Ext w0 w) (hg : w.grownBy w' row) (hr : ∀ g, row = some g → w0.heap.size ≤ g) : Ext w0 w' :=
 ⟨hg.os.trans h.os, hg.tape.trans h.tape, hg.output.trans h.output, Nat.le_trans h.size hg.size, fun i hi => (hg.block i (Nat.lt_of_lt_of_le hi h.size) (fun e => by have := hr i e.symm; omega)).trans (h.block i hi)⟩
theorem Rd.lt {k : IntKind} {w : World} {A : Option Addr} {n : Nat} {xs : List Nat} (h : Rd k w A n xs) (hn : 0 < n) : ∀ a, A = some a → a.block < w.heap.size := by
 obtain ⟨b, o, rfl, hb, _⟩ := h.2 hn
 intro a ha
 injection ha with ha
 subst ha
 exact hb
def RdSS (w : World) (A : Option Addr) (n : Nat) (xss : List (List Nat)) : Prop :=
 xss.length = n ∧ (0 < n → ∃ b o, A = some ⟨b, o, none⟩ ∧ b < w.heap.size ∧ ∀ j, j < n → ∃ a m c, w.cell? ⟨b, o + j, none⟩ = some (.slice a m c) ∧ Rd .u8 w a m (xss.getD j []))
theorem RdSS.len {w : World} {A : Option Addr} {n : Nat} {xss : List (List Nat)} (h : RdSS w A n xss) : xss.length = n := h.1
theorem RdSS.at_ {w : World} {A : Option Addr} {n : Nat} {xss : List (List Nat)} (h : RdSS w A n xss) {j : Nat} (hj : j < n) :
   ∃ b o a m c, A = some ⟨b, o, none⟩ ∧ b < w.heap.size ∧ w.cell? ⟨b, o + j, none⟩ = some (.slice a m c) ∧ Rd .u8 w a m (xss.getD j []) := by
 obtain ⟨b, o, e, hb, hc⟩ := h.2 (by omega)
 obtain ⟨a, m, c, h1, h2⟩ := hc j hj
 exact ⟨b, o, a, m, c, e, hb, h1, h2⟩
theorem RdSS.ext {w w' : World} {A : Option Addr} {n : Nat} {xss : List (List Nat)} (h : RdSS w A n xss) (hb : Ext w w') : RdSS w' A n xss :=
 ⟨h.1, fun hn => by
   obtain ⟨b, o, e, hlt, hc⟩ := h.2 hn
   refine ⟨b, o, e, Nat.lt_of_lt_of_le hlt hb.size, fun j hj => ?_⟩
   obtain ⟨a, m, c, h1, h2⟩ := hc j hj
   exact ⟨a, m, c, (Below.cell hb (p := ⟨b, o + j, none⟩) hlt).trans h1, h2.ext hb⟩⟩
theorem RdSS.lit (e : TypeId) (w : World) (ss : List (Option Addr × Nat × Nat)) (xss : List (List Nat)) (hl : xss.length = ss.length)
   (h : ∀ j, j < ss.length → Rd .u8 w (ss.getD j (none, 0, 0)).1 (ss.getD j (none, 0, 0)).2.1 (xss.getD j [])) :
   RdSS (w.alloc (.cells (ss.map fun s => Value.slice s.1 s.2.1 s.2.2).toArray e)) (some ⟨w.heap.size, 0, none⟩) ss.length xss := by
 refine ⟨hl, fun hn => ⟨w.heap.size, 0, rfl, by simp, fun j hj => ⟨(ss.getD j (none, 0, 0)).1, (ss.getD j (none, 0, 0)).2.1, (ss.getD j (none, 0, 0)).2.2, ?_, (h j hj).ext ((Ext.refl w).alloc _)⟩⟩⟩
 rw [cell_of_row _ w.heap.size (0 + j) _ e (0, 0) (heap_alloc_new w _)]
 simp [hj]
theorem RdSS.one (e : TypeId) (w : World) {b n c : Nat} {A : Option Addr} {xs : List Nat} (hb : w.heap.size = b) (h : Rd .u8 w A n xs) :
   RdSS (w.alloc (.cells #[.slice A n c] e)) (some ⟨b, 0, none⟩) 1 [xs] := by
 subst hb
 exact RdSS.lit e w [(A, n, c)] [xs] rfl (fun j hj => by
   obtain rfl : j = 0 := by simp at hj; omega
   exact h)
theorem RdSS.two (e : TypeId) (w : World) {b n c n2 c2 : Nat} {A A2 : Option Addr} {xs ys : List Nat} (hb : w.heap.size = b) (h : Rd .u8 w A n xs) (h2 : Rd .u8 w A2 n2 ys) :
   RdSS (w.alloc (.cells #[.slice A n c, .slice A2 n2 c2] e)) (some ⟨b, 0, none⟩) 2 [xs, ys] := by
 subst hb
 exact RdSS.lit e w [(A, n, c), (A2, n2, c2)] [xs, ys] rfl (fun j hj => by
   have hj2 : j < 2 := hj
   rcases (show j = 0 ∨ j = 1 by omega) with rfl | rfl
   · exact h
   · exact h2)
theorem RdSS.three (e : TypeId) (w : World) {b n c n2 c2 n3 c3 : Nat} {A A2 A3 : Option Addr} {xs ys zs : List Nat} (hb : w.heap.size = b) (h : Rd .u8 w A n xs) (h2 : Rd .u8 w A2 n2 ys) (h3 : Rd .u8 w A3 n3 zs) :
   RdSS (w.alloc (.cells #[.slice A n c, .slice A2 n2 c2, .slice A3 n3 c3] e)) (some ⟨b, 0, none⟩) 3 [xs, ys, zs] := by
 subst hb
 exact RdSS.lit e w [(A, n, c), (A2, n2, c2), (A3, n3, c3)] [xs, ys, zs] rfl (fun j hj => by
   have hj2 : j < 3 := hj
   rcases (show j = 0 ∨ j = 1 ∨ j = 2 by omega) with rfl | rfl | rfl
   · exact h
   · exact h2
   · exact h3)
theorem take_nextL (xss : List (List Nat)) (j : Nat) (h : j < xss.length) : xss.take (j + 1) = xss.take j ++ [xss.getD j []] := by
 rw [List.take_succ_eq_append_getElem h]; simp [List.getD, h]
def cat (xss : List (List Nat)) (j : Nat) : List Nat := (xss.take j).flatten
theorem cat_zero (xss : List (List Nat)) : cat xss 0 = [] := rfl
theorem cat_succ {xss : List (List Nat)} {j : Nat} (h : j < xss.length) : cat xss (j + 1) = cat xss j ++ xss.getD j [] := by rw [cat, take_nextL _ _ h]; simp [cat]
theorem cat_all (xss : List (List Nat)) : cat xss xss.length = xss.flatten := by simp [cat]
def U8s (xss : List (List Nat)) : Prop := ∀ xs ∈ xss, U8 xs
theorem U8s.at_ {xss : List (List Nat)} (h : U8s xss) (j : Nat) : U8 (xss.getD j []) := by
 by_cases hj : j < xss.length
 · have := h _ (List.getElem_mem hj); simpa [List.getD, hj] using this
 · simp [List.getD, hj]; intro v hv; cases hv
theorem U8s.cat {xss : List (List Nat)} (h : U8s xss) (j : Nat) : U8 (cat xss j) := by
 intro v hv
 obtain ⟨l, hl, hv⟩ := List.mem_flatten.1 hv
 exact h l (List.mem_of_mem_take hl) v hv
theorem cat_le {xss : List (List Nat)} {j : Nat} : (cat xss j).length ≤ xss.flatten.length := by
 have : xss.flatten = cat xss j ++ (xss.drop j).flatten := by rw [cat, ← List.flatten_append, List.take_append_drop]
 rw [this, List.length_append]
 omega
theorem run_append_none {P : Program} {w : World} {base : Nat} {e : TypeId} (t ty : TypeId) (i : TypeInfo) (size c : Nat) (ht : P.underlying t = some (.slice e)) (hi : P.info? e = some i)
   (v : Value) (n : Nat) (xs : List Value) (hown : w.ownsRow base e size v n xs) :
   (Builtin.append_ #[t, t] ty #[v, .slice none 0 c]).run P w = .ok v w := by
 rcases hown.2 with ⟨rfl, rfl⟩ | ⟨g, cap, cur, rfl, _, _, hnc, _⟩
 · simp [Builtin.append_, run_underlying ht, sizeOf, typeInfo, hi, Builtin.lenOf, Builtin.firstCells]
 · simp [Builtin.append_, run_underlying ht, sizeOf, typeInfo, hi, Builtin.lenOf, Builtin.firstCells, hnc, storeCells]
theorem wpList_pushes {P : Program} {w0 w : World} {ops : Array Oper} {rest : List Oper} {o : Oper} {a : Act} {Q : Exit → Act → World → Prop} (k : IntKind) (e : TypeId) (hgd : o.guard = none) (s y : Operand) (t : TypeId)
   (ho : o.op = .call { callee := .builtin .append, args := #[s, y], argTypes := #[t, t] })
   (z : Value) (bytes : Nat) (ht : P.underlying t = some (.slice e)) (hi : (P.info? e).map (fun i => (i.zero, i.size, i.bytes)) = some (some z, 1, bytes)) (hzs : z.cells.size = 1)
   {base : Nat} {A A2 : Option Addr} {c m c2 : Nat} {xs ys : List Nat} (hown : Own k e w base A c xs) (n : Nat) (hn : xs.length = n) (hs : a.eval s = .slice A n c)
   (hy : a.eval y = .slice A2 m c2) (hrd : Rd k w A2 m ys) (hlen : ((n + m) + (n + m) / 4 + 192) * bytes ≤ 281474976710656) (hby : 0 < bytes) (hb : Below base w0 w) (hbase : base ≤ w.heap.size)
   (h : ∀ A' c' w', Own k e w' base A' c' (xs ++ ys) → Below base w0 w' → base ≤ w'.heap.size → wpList P ops Q rest (a.put o.dst (.slice A' (n + m : Nat) c')) w') :
   wpList P ops Q (o :: rest) a w := by
 subst hn
 obtain ⟨i, hi0, hz, hsz, hbs⟩ := info_parts hi
 have hle : xs.length + m ≤ 281474976710656 := Nat.le_trans (Nat.le_trans (by omega) (Nat.le_mul_of_pos_right ((xs.length + m) + (xs.length + m) / 4 + 192) hby)) hlen
 have hyl := hrd.len
 cases A2 with
 | none =>
   have hm : m = 0 := by
     rcases Nat.eq_zero_or_pos m with h0 | h0
     · exact h0
     · obtain ⟨b, o, he, _⟩ := hrd.2 h0
       cases he
   subst hm
   obtain rfl : ys = [] := List.eq_nil_of_length_eq_zero hyl
   refine wpList_plain hgd fun K hK => ?_
   have hrun := run_append_none (P := P) (w := w) t o.type i 1 c2 ht hi0 _ _ _ hown
   unfold Oper.wp
   simp [execOp, ho, resolve, invoke, builtin, hs, hy, hrun, Result.andThen]
   have hh := h A c w (by simpa using hown) hb hbase
   exact hK _ _ hh
 | some ad =>
   refine wpList_append_own_wide _ hgd s y t ho base e i z 1 bytes ht hi0 hz hsz hbs hzs (by decide) _ xs.length (xs.map fun x : Nat => Value.int k (x : Int)) hs hown
     ad m c2 (ys.map fun x : Nat => Value.int k (x : Int)) hy (by simp [hyl]) ?_ ?_ (by unfold maxLen; omega) hlen hbase ?_
   · intro j u hj
     have hjl : j < ys.length := by
       have := (List.getElem?_eq_some_iff.1 hj).1
       simpa using this
     obtain ⟨b, o', he, hbl, hc⟩ := hrd.at_ (j := j) (by omega)
     injection he with he
     subst he
     have hadd : (⟨b, o', none⟩ : Addr).add j = ⟨b, o' + j, none⟩ := by simp [Addr.add]
     rw [hadd, hc]
     rw [List.getElem?_map, List.getElem?_eq_getElem hjl] at hj
     simp at hj
     simp [← hj, hjl]
   · intro u hu
     obtain ⟨x, _, rfl⟩ := List.mem_map.1 hu
     rfl
   · intro v' w' hown' hg hnil
     have hform : ∃ A' c', v' = .slice A' (xs.length + m) c' := by
       rcases hown'.2 with ⟨hv, h0⟩ | ⟨g, cap, cur, hv, _⟩
       · exact ⟨none, 0, by rw [hv, h0]⟩
       · exact ⟨_, _, hv⟩
     obtain ⟨A', c', rfl⟩ := hform
     have hb' : Below base w0 w' := Below.grown hb hg hbase (fun g hg' => (hown.lt g hg').1)
     refine h A' c' w' ?_ hb' ?_
     · unfold Own
       rw [List.length_append, hyl, List.map_append]
       exact hown'
     · have := hg.size
       omega
theorem Ext.setRow {a b : World} (h : Ext a b) {g : Nat} (hg : a.heap.size ≤ g) (cs : Array Value) : Ext a (b.setRow g cs) :=
 ⟨h.os, h.tape, h.output, by have := h.size; simpa using this, fun i hi => (setRow_other b g i cs (by omega)).trans (h.block i hi)⟩
theorem grown_setRow (w : World) (g : Nat) (cs : Array Value) : w.grownBy (w.setRow g cs) (some g) :=
 ⟨rfl, rfl, rfl, by simp, fun i _ hne => setRow_other w g i cs (fun e => hne (by rw [e]))⟩
theorem Ext.kept {w w' : World} {o : Obj} (h : Ext (w.alloc o) w') : w'.heap[w.heap.size]? = some o := by
 rw [h.block w.heap.size (by simp)]
 exact heap_alloc_new w o
end Go.Proofs.YthibbgmicmfkfaaGreat
-- part SL
namespace Go.Proofs.YthibbgmicmfkfaaGreat
open Go.RowKit
set_option maxRecDepth 100000
theorem Tryz.infoS : (Tryz.prog.info? 22).map (fun i => (i.zero, i.size, i.bytes)) = some (some (.slice none 0 0), 1, 24) := by kernel_rfl
structure Sl where
 A : Option Addr
 c : Nat
 body : List Nat
def Sl.v (s : Sl) : Value := .slice s.A s.body.length s.c
def OwnS (w : World) (base : Nat) (A : Option Addr) (c : Nat) (ss : List Sl) : Prop := w.ownsRow base 22 1 (.slice A ss.length c) ss.length (ss.map Sl.v)
theorem OwnS.block {w : World} {base c : Nat} {A : Option Addr} {ss : List Sl} (h : OwnS w base A c ss) : ∀ a, A = some a → base ≤ a.block ∧ a.block < w.heap.size := by
 rintro a rfl
 exact h.lt a.block rfl
end Go.Proofs.YthibbgmicmfkfaaGreat
-- part F7
namespace Go.Proofs.YthibbgmicmfkfaaGreat
open Go.RowKit
structure Kept (w wr : World) (ss : List Sl) : Prop where
 os : wr.os = w.os
 tape : wr.tape = w.tape
 output : wr.output = w.output
 size : w.heap.size ≤ wr.heap.size
 block : ∀ b, b < w.heap.size → (∀ s ∈ ss, ∀ p, s.A = some p → p.block ≠ b) → wr.heap[b]? = w.heap[b]?
theorem Kept.refl (w : World) (ss : List Sl) : Kept w w ss := ⟨rfl, rfl, rfl, Nat.le_refl _, fun _ _ _ => rfl⟩
theorem Kept.ext {w wr w' : World} {ss : List Sl} (h : Kept w wr ss) (he : Ext wr w') : Kept w w' ss :=
 ⟨he.os.trans h.os, he.tape.trans h.tape, he.output.trans h.output, Nat.le_trans h.size he.size, fun b hb hn => (he.block b (Nat.lt_of_lt_of_le hb h.size)).trans (h.block b hb hn)⟩
def Far (ss : List Sl) (A : Option Addr) : Prop := ∀ s ∈ ss, ∀ p q, s.A = some p → A = some q → p.block ≠ q.block
def RdL (w : World) (A : Option Addr) (n : Nat) (ss : List Sl) : Prop :=
 ss.length = n ∧ (0 < n → ∃ b o, A = some ⟨b, o, none⟩ ∧ b < w.heap.size ∧ ∀ j s, ss[j]? = some s → w.cell? ⟨b, o + j, none⟩ = some s.v)
theorem RdL.kept {w wr : World} {A : Option Addr} {n : Nat} {ss tt : List Sl} (h : RdL w A n tt) (hk : Kept w wr ss) (hf : 0 < n → Far ss A) : RdL wr A n tt :=
 ⟨h.1, fun hn => by
   obtain ⟨b, o, e, hlt, hc⟩ := h.2 hn
   refine ⟨b, o, e, Nat.lt_of_lt_of_le hlt hk.size, fun j s hj => ?_⟩
   rw [← hc j s hj]
   exact World.cell?_of_block (a := ⟨b, o + j, none⟩) (hk.block b hlt (fun s hs p hp => hf hn s hs p _ hp e))⟩
theorem OwnS.rdL {w : World} {base c : Nat} {A : Option Addr} {ss : List Sl} (h : OwnS w base A c ss) : RdL w A ss.length ss := by
 refine ⟨rfl, fun hn => ?_⟩
 rcases h.2 with ⟨_, h0⟩ | ⟨g, cap, cur, hv, hg, hh, hnc, hcm, hcs, htake⟩
 · omega
 · injection hv with hA hl hc
   subst hA
   refine ⟨g, 0, rfl, (Array.getElem?_eq_some_iff.1 hh).1, fun j s hj => ?_⟩
   have hjl : j < ss.length := (List.getElem?_eq_some_iff.1 hj).1
   rw [cell_of_row w g _ cur _ (0, 0) hh, Nat.zero_add]
   have h1 : (cur.toList.take (ss.length * 1))[j]? = some s.v := by rw [htake, List.getElem?_map, hj]; rfl
   rw [List.getElem?_take, if_pos (by omega)] at h1
   simpa using h1
theorem RdL.at_ {w : World} {A : Option Addr} {n : Nat} {ss : List Sl} (h : RdL w A n ss) {j : Nat} (hj : j < n) :
   ∃ b o s, A = some ⟨b, o, none⟩ ∧ ss[j]? = some s ∧ w.cell? ⟨b, o + j, none⟩ = some (.slice s.A s.body.length s.c) := by
 obtain ⟨b, o, e, hlt, hc⟩ := h.2 (by omega)
 have hjl : j < ss.length := by rw [h.1]; exact hj
 have hf : ss[j]? = some ss[j] := List.getElem?_eq_getElem hjl
 exact ⟨b, o, _, e, hf, hc j _ hf⟩
end Go.Proofs.YthibbgmicmfkfaaGreat
-- part F8
namespace Go.Proofs.YthibbgmicmfkfaaGreat
open Go.RowKit
end Go.Proofs.YthibbgmicmfkfaaGreat
namespace Go.Proofs.YthibbgmicmfkfaaGreat
open Go.RowKit
set_option maxRecDepth 100000
theorem Tryz.elemU8 : Tryz.prog.elem 22 = 5 := by kernel_rfl
theorem run_sizeU8 (w : World) : (sizeOf (Tryz.prog.elem 22)).run Tryz.prog w = .ok 1 w := by
 obtain ⟨i, hi0, hz, hsz, hbs⟩ := info_parts Tryz.infoU8
 rw [Tryz.elemU8]
 simp [sizeOf, typeInfo, hi0, hsz]
theorem Tryz.underSl : Tryz.prog.underlying 22 = some (.slice (Tryz.prog.elem 22)) := by kernel_rfl
def offA (A : Option Addr) (k m : Nat) : Option Addr := if m = k then A else A.map (·.add k)
theorem Rd.offA {w : World} {A : Option Addr} {n k m : Nat} {bs : List Nat} (h : Rd .u8 w A n bs) (hk : k ≤ n) (hm : n ≤ m) : Rd .u8 w (offA A k m) (n - k) (bs.drop k) := by
 refine ⟨by rw [List.length_drop, h.1], fun hn => ?_⟩
 obtain ⟨b, o, rfl, hb, hc⟩ := h.2 (by omega)
 refine ⟨b, o + k, by unfold Go.Proofs.YthibbgmicmfkfaaGreat.offA; rw [if_neg (by omega)]; simp [Addr.add], hb, fun j hj => ?_⟩
 have := hc (k + j) (by omega)
 rw [Nat.add_assoc, this]
 simp [List.getD, List.getElem?_drop]
theorem run_from (A : Option Addr) (n c k : Nat) (hk : k ≤ n) : ∀ W : World, (Instr.slice 22 (.slice A n c) (some (.int .i64 (k : Int))) none none).run Tryz.prog W = .ok (.slice (offA A k c) (n - k : Nat) (c - k : Nat)) W := by
 intro W
 rw [run_slice_l W _ A n c Tryz.underSl .i64 k (by omega) (by omega), run_sizeU8]
 simp only [Result.andThen, sliced, Int.toNat_natCast, Nat.mul_one]
 rfl
theorem run_upto (kh : IntKind) (A : Option Addr) (n c k : Nat) (hk : k ≤ c) : ∀ W : World, (Instr.slice 22 (.slice A n c) none (some (.int kh (k : Int))) none).run Tryz.prog W = .ok (.slice A k c) W := by
 intro W
 rw [run_slice_h W _ A n c Tryz.underSl kh k (by omega) (by omega), run_sizeU8]
 simp only [Result.andThen, sliced, Int.toNat_natCast, Nat.mul_one, Nat.sub_zero]
 congr 1
 split
 · rfl
 · cases A with
   | none => rfl
   | some a => simp [Addr.add]
theorem run_cut (A : Option Addr) (n c l h : Nat) (hl : l ≤ h) (hh : h ≤ c) : ∀ W : World, (Instr.slice 22 (.slice A n c) (some (.int .i64 (l : Int))) (some (.int .i64 (h : Int))) none).run Tryz.prog W = .ok (.slice (offA A l c) (h - l : Nat) (c - l : Nat)) W := by
 intro W
 rw [run_slice_lh W _ A n c Tryz.underSl .i64 .i64 l h (by omega) (by omega) (by omega), run_sizeU8]
 simp only [Result.andThen, sliced, Int.toNat_natCast, Nat.mul_one]
 rfl
theorem Rd.upto {w : World} {A : Option Addr} {n k : Nat} {bs : List Nat} (h : Rd .u8 w A n bs) (hk : k ≤ n) : Rd .u8 w A k (bs.take k) := by
 refine ⟨by rw [List.length_take, h.1]; omega, fun hn => ?_⟩
 obtain ⟨b, o, e, hb, hc⟩ := h.2 (by omega)
 refine ⟨b, o, e, hb, fun j hj => ?_⟩
 rw [hc j (by omega)]
 simp [List.getD, hj]
theorem Rd.cut {w : World} {A : Option Addr} {n l h c : Nat} {bs : List Nat} (hr : Rd .u8 w A n bs) (hl : l ≤ h) (hh : h ≤ n) (hc : n ≤ c) : Rd .u8 w (Go.Proofs.YthibbgmicmfkfaaGreat.offA A l c) (h - l) ((bs.drop l).take (h - l)) :=
 (hr.offA (k := l) (m := c) (by omega) hc).upto (by omega)
def pk (w : Nat) : List Nat → Nat
 | [] => 0
 | v :: r => v + 2 ^ w * pk w r
def upk (w : Nat) : Nat → Nat → List Nat
 | 0, _ => []
 | n + 1, N => N % 2 ^ w :: upk w n (N / 2 ^ w)
def Wd (w : Nat) (vs : List Nat) : Prop := ∀ v ∈ vs, v < 2 ^ w
theorem Wd.nil (w : Nat) : Wd w [] := by intro v hv; cases hv
theorem Wd.tail {w v : Nat} {r : List Nat} (h : Wd w (v :: r)) : Wd w r := fun x hx => h x (List.mem_cons_of_mem _ hx)
theorem Wd.head {w v : Nat} {r : List Nat} (h : Wd w (v :: r)) : v < 2 ^ w := h v List.mem_cons_self
theorem U8_wd {b : List Nat} : U8 b ↔ Wd 8 b := Iff.rfl
theorem upk_len (w n N : Nat) : (upk w n N).length = n := by
 induction n generalizing N with
 | zero => rfl
 | succ n ih => simp [upk, ih]
theorem upk_wd (w n N : Nat) : Wd w (upk w n N) := by
 induction n generalizing N with
 | zero => exact Wd.nil w
 | succ n ih =>
   intro v hv
   rcases List.mem_cons.1 hv with rfl | h
   · exact Nat.mod_lt _ (Nat.two_pow_pos w)
   · exact ih _ v h
theorem two_pow_mul_succ (w n : Nat) : 2 ^ (w * (n + 1)) = 2 ^ w * 2 ^ (w * n) := by rw [← Nat.pow_add]; congr 1; rw [Nat.mul_succ, Nat.add_comm]
theorem pk_lt {w : Nat} {vs : List Nat} (h : Wd w vs) : pk w vs < 2 ^ (w * vs.length) := by
 induction vs with
 | nil => simp [pk]
 | cons v r ih =>
   have h1 := h.head
   have h2 := ih h.tail
   rw [List.length_cons, two_pow_mul_succ, pk]
   calc v + 2 ^ w * pk w r < 2 ^ w + 2 ^ w * pk w r := by omega
     _ = 2 ^ w * (pk w r + 1) := by rw [Nat.mul_succ, Nat.add_comm]
     _ ≤ 2 ^ w * 2 ^ (w * r.length) := Nat.mul_le_mul_left _ h2
theorem upk_pk {w : Nat} {vs : List Nat} (h : Wd w vs) : upk w vs.length (pk w vs) = vs := by
 induction vs with
 | nil => rfl
 | cons v r ih =>
   rw [List.length_cons, upk, pk, Nat.add_mul_mod_self_left, Nat.mod_eq_of_lt h.head, Nat.add_mul_div_left _ _ (Nat.two_pow_pos w), Nat.div_eq_of_lt h.head, Nat.zero_add, ih h.tail]
theorem pk_upk (w n N : Nat) : pk w (upk w n N) = N % 2 ^ (w * n) := by
 induction n generalizing N with
 | zero => simp [upk, pk, Nat.mod_one]
 | succ n ih => rw [upk, pk, ih, two_pow_mul_succ, Nat.mod_mul]
theorem upk_mod (w n N K : Nat) (hK : w * n ≤ K) : upk w n (N % 2 ^ K) = upk w n N := by
 induction n generalizing N K with
 | zero => rfl
 | succ n ih =>
   rw [Nat.mul_succ] at hK
   have hw : 2 ^ K = 2 ^ w * 2 ^ (K - w) := by rw [← Nat.pow_add]; congr 1; omega
   rw [upk, upk, hw, Nat.mod_mul_right_mod, Nat.mod_mul_right_div_self, ih _ (K - w) (by omega)]
theorem upk_snoc (w n N : Nat) : upk w (n + 1) N = upk w n N ++ [N / 2 ^ (w * n) % 2 ^ w] := by
 induction n generalizing N with
 | zero => simp [upk]
 | succ n ih => rw [upk, ih, upk, List.cons_append, Nat.div_div_eq_div_mul, ← two_pow_mul_succ]
theorem upk_at (w n N i : Nat) (h : i < n) : (upk w n N).getD i 0 = N / 2 ^ (w * i) % 2 ^ w := by
 induction n generalizing N i with
 | zero => omega
 | succ n ih =>
   cases i with
   | zero => simp [upk]
   | succ i => rw [upk, List.getD_cons_succ, ih _ _ (by omega), Nat.div_div_eq_div_mul, ← two_pow_mul_succ]
theorem upk_take (w n N i : Nat) (h : i ≤ n) : (upk w n N).take i = upk w i N := by
 induction n generalizing N i with
 | zero => obtain rfl : i = 0 := by omega
           rfl
 | succ n ih =>
   cases i with
   | zero => rfl
   | succ i => rw [upk, List.take_succ_cons, ih _ _ (by omega), upk]
theorem pk_at {w : Nat} {vs : List Nat} (h : Wd w vs) (i : Nat) : pk w vs / 2 ^ (w * i) % 2 ^ w = vs.getD i 0 := by
 by_cases hi : i < vs.length
 · rw [← upk_at w vs.length _ i hi, upk_pk h]
 · have := pk_lt h
   rw [Nat.div_eq_of_lt (Nat.lt_of_lt_of_le this (Nat.pow_le_pow_right (by omega) (Nat.mul_le_mul_left _ (by omega)))), Nat.zero_mod]
   simp [List.getD, Nat.le_of_not_lt hi]
theorem pk_snoc (w : Nat) (vs : List Nat) (v : Nat) : pk w (vs ++ [v]) = pk w vs + 2 ^ (w * vs.length) * v := by
 induction vs with
 | nil => simp [pk]
 | cons x r ih => rw [List.cons_append, pk, ih, pk, List.length_cons, two_pow_mul_succ, Nat.mul_add, Nat.mul_assoc, Nat.add_assoc]
theorem upk_add {w n N i d : Nat} (h : i < n) (hd : N / 2 ^ (w * i) % 2 ^ w + d < 2 ^ w) : upk w n (N + 2 ^ (w * i) * d) = (upk w n N).set i (N / 2 ^ (w * i) % 2 ^ w + d) := by
 induction n generalizing N i with
 | zero => omega
 | succ n ih =>
   cases i with
   | zero =>
     simp only [Nat.mul_zero, Nat.pow_zero, Nat.div_one, Nat.one_mul] at hd ⊢
     have h1 : (N + d) % 2 ^ w = N % 2 ^ w + d := by
       rw [← Nat.div_add_mod N (2 ^ w), Nat.add_assoc, Nat.mul_add_mod, Nat.mod_eq_of_lt hd]; simp
     have h2 : (N + d) / 2 ^ w = N / 2 ^ w := by
       rw [← Nat.div_add_mod N (2 ^ w), Nat.add_assoc, Nat.mul_add_div (Nat.two_pow_pos w), Nat.div_eq_of_lt hd]
       simp [Nat.mul_add_div (Nat.two_pow_pos w), Nat.div_eq_of_lt (Nat.mod_lt N (Nat.two_pow_pos w))]
     rw [upk, upk, List.set_cons_zero, h1, h2]
   | succ i =>
     rw [two_pow_mul_succ, ← Nat.div_div_eq_div_mul] at hd
     rw [upk, upk, List.set_cons_succ, two_pow_mul_succ, Nat.mul_assoc, Nat.add_mul_mod_self_left, Nat.add_mul_div_left _ _ (Nat.two_pow_pos w), ih (by omega) hd, Nat.div_div_eq_div_mul]
theorem upk_zero (w n : Nat) : upk w n 0 = List.replicate n 0 := by
 induction n with
 | zero => rfl
 | succ n ih => simp [upk, ih, List.replicate_succ]
open Go.Shelf
def lenRen : Go.Shelf.Ren := ⟨fun | 129 => 201 | n => n, fun | 53 => 69 | 3 => 3 | 4 => 4 | 46 => 129 | 5 => 5 | 9 => 9 | n => n, fun | n => n⟩
theorem lenLays : Go.Proofs.Lays.n129 Tryz.prog lenRen := {
 mixed := by kernel_rfl
 f129 := Tryz.func201.trans (congrArg some (by kernel_rfl))
 t3 := Tryz.underlying3
 a3 := Tryz.isAgg3
 z3 := Tryz.sizeOf3
 v3 := Tryz.zeroValue3
 t4 := Tryz.underlying4
 a4 := Tryz.isAgg4
 z4 := Tryz.sizeOf4
 v4 := Tryz.zeroValue4
 t5 := Tryz.underlying5
 a5 := Tryz.isAgg5
 z5 := Tryz.sizeOf5
 v5 := Tryz.zeroValue5
 t9 := Tryz.underlying9
 a9 := Tryz.isAgg9
 z9 := Tryz.sizeOf9
 v9 := Tryz.zeroValue9
 t46 := Tryz.underlying129
 a46 := Tryz.isAgg129
 z46 := Tryz.sizeOf129
 v46 := Tryz.zeroValue129
 t53 := Tryz.underlying69
 a53 := Tryz.isAgg69
 z53 := Tryz.sizeOf69
 v53 := Tryz.zeroValue69 }
theorem lib_len64 (x : Int) (w : World) (h0 : 0 ≤ x) (h1 : x ≤ 18446744073709551615) :
   Calls Tryz.prog 201 #[.int .u64 x] w fun e w' => e = .returned (.int .i64 (Lib.bitLen x.toNat)) ∧ w' = w := Any.bits_Len64 lenLays x w h0 h1
def bl (x : Nat) : Nat := if x = 0 then 0 else Nat.log2 x + 1
theorem bl_le {x k : Nat} : bl x ≤ k ↔ x < 2 ^ k := by
 unfold bl
 by_cases h : x = 0
 · simp [h, Nat.two_pow_pos]
 · rw [if_neg h, ← Nat.log2_lt h]; omega
theorem bl_zero : bl 0 = 0 := rfl
theorem bl_half {x : Nat} (h : 0 < x) : bl x = bl (x / 2) + 1 := by
 apply Nat.le_antisymm
 · rw [bl_le, Nat.pow_succ]
   have h1 := bl_le.1 (Nat.le_refl (bl (x / 2)))
   omega
 · have h1 := bl_le.1 (Nat.le_refl (bl x))
   have hp : 0 < bl x := by
     rcases Nat.eq_zero_or_pos (bl x) with h0 | h0
     · rw [h0] at h1; omega
     · exact h0
   have h2 : bl (x / 2) ≤ bl x - 1 := by
     rw [bl_le]
     have h3 : 2 ^ bl x = 2 * 2 ^ (bl x - 1) := by rw [Nat.mul_comm, ← Nat.pow_succ]; congr 1; omega
     omega
   omega
theorem bl_or (a b : Nat) : bl (a ||| b) = max (bl a) (bl b) := by
 apply Nat.le_antisymm
 · rw [bl_le]
   exact Nat.or_lt_two_pow (bl_le.1 (Nat.le_max_left ..)) (bl_le.1 (Nat.le_max_right ..))
 · apply Nat.max_le.2
   refine ⟨bl_le.2 (Nat.lt_of_le_of_lt Nat.left_le_or (bl_le.1 (Nat.le_refl _))), bl_le.2 (Nat.lt_of_le_of_lt Nat.right_le_or (bl_le.1 (Nat.le_refl _)))⟩
theorem bl_64 {x : Nat} (h : x < 18446744073709551616) : bl x ≤ 64 := bl_le.2 h
theorem bitLen_bl (x : Nat) (h : x < 18446744073709551616) : Lib.bitLen x = bl x := by
 induction x using Nat.strongRecOn with
 | ind x ih =>
   by_cases h0 : x = 0
   · subst h0; rfl
   · rw [Lib.bitLen_half x h0 h, ih (x / 2) (by omega) (by omega), bl_half (x := x) (by omega), Nat.add_comm]
def wdt (vs : List Nat) : Nat := vs.foldl (fun m v => max m (bl v)) 0
theorem wdt_snoc (vs : List Nat) (v : Nat) : wdt (vs ++ [v]) = max (wdt vs) (bl v) := by simp [wdt, List.foldl_append]
theorem foldl_max_le (vs : List Nat) (m k : Nat) : vs.foldl (fun m v => max m (bl v)) m ≤ k ↔ m ≤ k ∧ ∀ v ∈ vs, bl v ≤ k := by
 induction vs generalizing m with
 | nil => simp
 | cons x r ih => rw [List.foldl_cons, ih]; simp [Nat.max_le, and_assoc]
theorem wdt_le {vs : List Nat} {k : Nat} : wdt vs ≤ k ↔ Wd k vs := by
 unfold wdt Wd
 rw [foldl_max_le]
 simp [bl_le]
def U64 (vs : List Nat) : Prop := ∀ v ∈ vs, v < 18446744073709551616
theorem U64.at_ {xs : List Nat} (h : U64 xs) (j : Nat) : xs.getD j 0 < 18446744073709551616 := by
 by_cases hj : j < xs.length
 · have := h _ (List.getElem_mem hj); simpa [List.getD, hj] using this
 · simp [List.getD, hj]
instance (vs : List Nat) : Decidable (U64 vs) := inferInstanceAs (Decidable (∀ v ∈ vs, v < 18446744073709551616))
theorem U64_wd {b : List Nat} : U64 b ↔ Wd 64 b := Iff.rfl
def orAll (vs : List Nat) : Nat := vs.foldl (fun m v => m ||| v) 0
theorem orAll_snoc (vs : List Nat) (v : Nat) : orAll (vs ++ [v]) = orAll vs ||| v := by simp [orAll, List.foldl_append]
theorem foldl_or_bl (vs : List Nat) (m : Nat) : bl (vs.foldl (fun m v => m ||| v) m) = vs.foldl (fun m v => max m (bl v)) (bl m) := by
 induction vs generalizing m with
 | nil => rfl
 | cons x r ih => rw [List.foldl_cons, ih, List.foldl_cons, bl_or]
theorem orAll_bl (vs : List Nat) : bl (orAll vs) = wdt vs := foldl_or_bl vs 0
theorem orAll_lt {vs : List Nat} (h : U64 vs) : orAll vs < 18446744073709551616 := by
 have := (wdt_le (k := 64)).2 h
 rw [← orAll_bl, bl_le] at this
 exact this
theorem bl_shift (s : Nat) : ∀ {x : Nat}, 2 ^ s ≤ x → bl x = s + bl (x / 2 ^ s) := by
 induction s with
 | zero => intro x _; simp
 | succ s ih =>
   intro x h
   rw [Nat.pow_succ] at h
   have h1 := Nat.two_pow_pos s
   rw [bl_half (x := x) (by omega), ih (x := x / 2) (by omega), Nat.div_div_eq_div_mul, Nat.mul_comm 2, ← Nat.pow_succ, Nat.succ_eq_add_one]
   omega
theorem len64_any (x : Nat) (w : World) (hx : x < 18446744073709551616) :
   Calls Tryz.prog 201 #[.int .u64 x] w fun e w' => e = .returned (.int .i64 (bl x)) ∧ w = w' :=
 (lib_len64 x w (by omega) (by omega)).mono fun e w' ⟨h1, h2⟩ => ⟨by rw [h1, Int.toNat_natCast, bitLen_bl x hx], h2.symm⟩
theorem ret_int {k : IntKind} {a b : Int} (h : a = b) : Ending.returned (.int k a) = .returned (.int k b) := by rw [h]
def vputN : Nat → Nat → List Nat
 | 0, u => [u]
 | s + 1, u => (u % 128 + 128) :: vputN s (u / 128)
def vput (u : Nat) : List Nat := vputN ((bl u - 1) / 7) u
def vsize (u : Nat) : Nat := (bl u - 1) / 7 + 1
theorem vputN_len (s u : Nat) : (vputN s u).length = s + 1 := by
 induction s generalizing u with
 | zero => rfl
 | succ s ih => simp [vputN, ih]
theorem vput_len (u : Nat) : (vput u).length = vsize u := vputN_len _ _
theorem vsize_le {u : Nat} (h : u < 18446744073709551616) : vsize u ≤ 10 := by have := bl_64 h; unfold vsize; omega
theorem bl_128 {u : Nat} (h : 128 ≤ u) : bl u = bl (u / 128) + 7 := by
 have h1 := bl_shift 7 (show 2 ^ 7 ≤ u from h)
 rw [show (2 : Nat) ^ 7 = 128 from rfl] at h1
 omega
theorem bl_small {u : Nat} (h : u < 128) : bl u ≤ 7 := bl_le.2 h
theorem vput_big {u : Nat} (h : 128 ≤ u) : vput u = (u % 128 + 128) :: vput (u / 128) := by
 unfold vput
 have h1 := bl_128 h
 have h2 : 1 ≤ bl (u / 128) := by
   rcases Nat.eq_zero_or_pos (bl (u / 128)) with h0 | h0
   · have := bl_le.1 (Nat.le_of_eq h0); omega
   · exact h0
 rw [show (bl u - 1) / 7 = (bl (u / 128) - 1) / 7 + 1 from by omega, vputN]
theorem vput_small {u : Nat} (h : u < 128) : vput u = [u] := by
 unfold vput
 have h1 := bl_small h
 rw [show (bl u - 1) / 7 = 0 from by omega, vputN]
theorem vputN_u8 {s u : Nat} (h : u < 2 ^ (7 * s + 7)) : U8 (vputN s u) := by
 induction s generalizing u with
 | zero => intro x hx; simp [vputN] at hx; subst hx; have : (2 : Nat) ^ (7 * 0 + 7) = 128 := rfl; omega
 | succ s ih =>
   intro x hx
   rcases List.mem_cons.1 hx with rfl | h1
   · omega
   · refine ih ?_ x h1
     apply Nat.div_lt_of_lt_mul
     rw [show (128 : Nat) = 2 ^ 7 from rfl, ← Nat.pow_add, show 7 + (7 * s + 7) = 7 * (s + 1) + 7 from by omega]
     exact h
theorem vput_u8 (u : Nat) : U8 (vput u) := by
 refine vputN_u8 ?_
 exact Nat.lt_of_lt_of_le (bl_le.1 (Nat.le_refl (bl u))) (Nat.pow_le_pow_right (by omega) (by omega))
set_option maxHeartbeats 400000 in
theorem refPut_any (u : Nat) (w : World) (hu : u < 18446744073709551616) :
   Calls Tryz.prog 94 #[.int .u64 u] w fun e w' => ∃ A' c', e = .returned (.slice A' (vput u).length c') ∧ Own .u8 5 w' w.heap.size A' c' (vput u) ∧ Ext w w' := by
 have hs := vsize_le hu
 rw [vput_len]
 obtain ⟨V, hV⟩ : ∃ V, V = vput u := ⟨_, rfl⟩
 have hVl : V.length = vsize u := by rw [hV, vput_len]
 rw [← hV]
 obtain ⟨s, hss⟩ : ∃ s, s = vsize u := ⟨_, rfl⟩
 rw [← hss] at hs hVl ⊢
 have HV := Lib.hid hV
 have HVl := Lib.hid hVl
 clear hV hVl hss
 go_enter Tryz.func94, Tryz.ntmps94
 go_wp2
 go_loopw [0, 3] (fun y v wr => ∃ (x : Nat) (P : List Nat) (A' : Option Addr) (c' : Nat), x ≤ u ∧ y = .int .u64 x ∧ v = .slice A' P.length c' ∧ Hid (P ++ vput x = V) ∧ Own .u8 5 wr w.heap.size A' c' P ∧ Below w.heap.size w wr) (fun y _ _ => (intOf y).toNat)
 case atStart => exact ⟨u, [], _, _, Nat.le_refl _, rfl, rfl, HV.out.symm, Own.made _ _ _ (Nat.le_refl _), (Ext.refl w).alloc _⟩
 case round =>
   obtain ⟨x, P, A', c', hxu, rfl, rfl, HP, hown, hb⟩ := hrel
   have hz := hb.size
   have hPl : P.length ≤ 9 := by
     have h1 := congrArg List.length HP.out
     rw [List.length_append, vput_len, HVl.out] at h1
     unfold vsize at h1
     omega
   by_cases hbig : 128 ≤ x
   · have hN := Lib.hid (show (P ++ [x % 128 + 128]) ++ vput (x / 128) = V by rw [List.append_assoc, List.singleton_append, ← vput_big hbig]; exact HP.out)
     have hm : IntKind.u8.wrap ((x : Int) % 128 + 128) = (x : Int) % 128 + 128 := IntWalk.u8_in _ (by omega)
     go_wp2_with (at_builtin; refine wpList_push .u8 (x % 128 + 128) 5 rfl _ _ 22 rfl _ 1 Tryz.underlying22 Tryz.infoU8 rfl hown P.length rfl rfl rfl (by omega) (by omega) (by omega) hb hz ?_; intro A1 c1 w1 hown1 hb1 hz1)
     go_roundw
     case rel => exact ⟨x / 128, P ++ [x % 128 + 128], A1, c1, by omega, by go_num, by simp, hN.out, hown1, hb1⟩
     case measure => simp [intOf]; omega
   · have hN := Lib.hid (show P ++ [x] = V by rw [← vput_small (by omega)]; exact HP.out)
     have hm : IntKind.u8.wrap (x : Int) = (x : Int) := IntWalk.u8_in _ (by omega)
     go_wp2_with (at_builtin; refine wpList_push .u8 x 5 rfl _ _ 22 rfl _ 1 Tryz.underlying22 Tryz.infoU8 rfl hown P.length rfl rfl rfl (by omega) (by omega) (by omega) hb hz ?_; intro A1 c1 w1 hown1 hb1 hz1)
     go_ret
     rw [hN.out] at hown1
     have hl : P.length + 1 = s := by rw [← HVl.out, ← hN.out]; simp
     exact ⟨A1, c1, by rw [← hl]; rfl, hown1, hb1⟩
theorem size_any (u : Nat) (w : World) (hu : u < 18446744073709551616) :
   Calls Tryz.prog 185 #[.int .u64 u] w fun e w' => e = .returned (.int .i64 (vsize u)) ∧ w = w' := by
 have hor := u64_or_nat u 1 hu (by omega)
 have hlt : u ||| 1 < 18446744073709551616 := Nat.or_lt_two_pow (n := 64) hu (by omega)
 have hbl : bl (u ||| 1) = max (bl u) 1 := by rw [bl_or]; rfl
 have h64 := bl_64 hlt
 have hsz : ((bl (u ||| 1) : Int) + 6) / 7 = (vsize u : Int) := by unfold vsize; omega
 have Hsz := Lib.hid hsz
 have Hor := Lib.hid hor
 clear hor hsz hbl
 go_enter Tryz.func185, Tryz.ntmps185
 go_wp2_with fail
 rw [show (1 : Int) = ((1 : Nat) : Int) from rfl] at *
 rw [Hor.out]
 refine (len64_any _ _ hlt).mono ?_
 rintro e w1 ⟨rfl, rfl⟩
 go_wp2
 go_ret
 exact ⟨ret_int Hsz.out, rfl⟩
theorem vputN_step {s x : Nat} (P : List Nat) : P ++ vputN (s + 1) x = (P ++ [x % 128 + 128]) ++ vputN s (x / 128) := by rw [List.append_assoc]; rfl
theorem more_bits {x : Nat} : bits .or .u8 ((x : Int) % 256) 128 = ((x % 128 + 128 : Nat) : Int) := by
 rw [show (x : Int) % 256 = ((x % 256 : Nat) : Int) from by omega, show (128 : Int) = ((128 : Nat) : Int) from rfl, u8_or_nat _ _ (by omega) (by omega)]
 congr 1
 by_cases h : x % 256 < 128
 · rw [Nat.or_comm, nat_join 7 128 _ (by decide) (by omega)]; omega
 · have h2 : x % 256 = (x % 128) ||| 128 := by rw [Nat.or_comm, nat_join 7 128 _ (by decide) (by omega)]; omega
   rw [h2, Nat.or_assoc, Nat.or_self, Nat.or_comm, nat_join 7 128 _ (by decide) (by omega)]; omega
theorem shift_lt {x k : Nat} (h : x < 2 ^ (7 * (k + 1) + 7)) : x / 128 < 2 ^ (7 * k + 7) := by
 apply Nat.div_lt_of_lt_mul
 rw [show (128 : Nat) = 2 ^ 7 from rfl, ← Nat.pow_add, show 7 + (7 * k + 7) = 7 * (k + 1) + 7 from by omega]
 exact h
set_option maxHeartbeats 400000 in
theorem add_any (A : Option Addr) (n c base : Nat) (bs : List Nat) (u : Nat) (w0 w : World) (hown : Own .u8 5 w base A c bs) (hn : bs.length = n) (hb : Below base w0 w) (hz : base ≤ w.heap.size) (hu : u < 18446744073709551616) (hlen : n + 10 ≤ 180000000000000) :
   Calls Tryz.prog 150 #[.slice A n c, .int .u64 u] w fun e w' => ∃ A' c', e = .returned (.slice A' (n + vsize u : Nat) c') ∧ Own .u8 5 w' base A' c' (bs ++ vput u) ∧ Below base w0 w' ∧ base ≤ w'.heap.size := by
 have hs := vsize_le hu
 obtain ⟨s, hss⟩ : ∃ s, vsize u = s + 1 := ⟨(bl u - 1) / 7, rfl⟩
 have hV : bs ++ vputN s u = bs ++ vput u := by unfold vput; rw [show s = (bl u - 1) / 7 from by unfold vsize at hss; omega]
 rw [hss] at hs ⊢
 rw [← hV]
 obtain ⟨V, hVe⟩ : ∃ V, V = bs ++ vputN s u := ⟨_, rfl⟩
 rw [← hVe]
 have hub : u < 2 ^ (7 * s + 7) := Nat.lt_of_lt_of_le (bl_le.1 (Nat.le_refl (bl u))) (Nat.pow_le_pow_right (by omega) (by unfold vsize at hss; omega))
 have HV := Lib.hid hVe
 have Hub := Lib.hid hub
 clear hub
 have Hss := Lib.hid hss
 have Hn := Lib.hid hn
 clear hV hVe hss hn
 go_enter Tryz.func150, Tryz.ntmps150
 go_wp2_with fail
 refine (size_any _ _ hu).mono ?_
 rintro e w1 ⟨rfl, rfl⟩
 rw [Hss.out]
 go_wp2_with fail
 go_loopw [0, 1, 8] (fun v y i wr => ∃ (j x : Nat) (P : List Nat) (A' : Option Addr) (c' : Nat), j ≤ s ∧ i = .int .i64 j ∧ x < 18446744073709551616 ∧ y = .int .u64 x ∧ v = .slice A' (n + j : Nat) c' ∧ Hid (P ++ vputN (s - j) x = V ∧ P.length = n + j ∧ x < 2 ^ (7 * (s - j) + 7)) ∧ Own .u8 5 wr base A' c' P ∧ Below base w0 wr ∧ base ≤ wr.heap.size) (fun _ _ i _ => s - (intOf i).toNat)
 case atStart => exact ⟨0, u, bs, _, _, Nat.zero_le _, rfl, hu, rfl, rfl, ⟨HV.out.symm, Hn.out, Hub.out⟩, hown, hb, hz⟩
 case round =>
   clear hown hb hz
   obtain ⟨j, x, P, A', c', hj, rfl, hx, rfl, rfl, HP, hown, hb, hz⟩ := hrel
   by_cases hlt : j < s
   · have hN := Lib.hid (show (P ++ [x % 128 + 128]) ++ vputN (s - (j + 1)) (x / 128) = V ∧ (P ++ [x % 128 + 128]).length = n + (j + 1) ∧ x / 128 < 2 ^ (7 * (s - (j + 1)) + 7) from ⟨by rw [← vputN_step, show s - (j + 1) + 1 = s - j from by omega]; exact HP.out.1, by rw [List.length_append, HP.out.2.1]; rfl, shift_lt (by rw [show s - (j + 1) + 1 = s - j from by omega]; exact HP.out.2.2)⟩)
     have Hm := Lib.hid (more_bits (x := x))
     go_wp2_with (at_builtin; refine wpList_push .u8 (x % 128 + 128) 5 rfl _ _ 22 rfl _ 1 Tryz.underlying22 Tryz.infoU8 rfl hown (n + j) HP.out.2.1 rfl rfl Hm.out (by omega) (by omega) hb hz ?_; intro A1 c1 w1 hown1 hb1 hz1)
     go_roundw
     case rel => exact ⟨j + 1, x / 128, P ++ [x % 128 + 128], A1, c1, by omega, by go_num, by omega, by go_num, rfl, hN.out, hown1, hb1, hz1⟩
     case measure => simp [intOf]; omega
   · obtain rfl : j = s := by omega
     have hN := Lib.hid (show P ++ [x] = V by have h := HP.out.1; rw [Nat.sub_self] at h; exact h)
     have hx7 : x < 128 := by have h := HP.out.2.2; rw [Nat.sub_self] at h; exact h
     go_wp2_with (at_builtin; refine wpList_push .u8 x 5 rfl _ _ 22 rfl _ 1 Tryz.underlying22 Tryz.infoU8 rfl hown (n + j) HP.out.2.1 rfl rfl (by omega) (by omega) (by omega) hb hz ?_; intro A1 c1 w1 hown1 hb1 hz1)
     go_ret
     rw [hN.out] at hown1
     exact ⟨A1, c1, rfl, hown1, hb1, hz1⟩
theorem put_any (u : Nat) (w : World) (hu : u < 18446744073709551616) :
   Calls Tryz.prog 110 #[.int .u64 u] w fun e w' => ∃ A' c', e = .returned (.slice A' (vput u).length c') ∧ Own .u8 5 w' w.heap.size A' c' (vput u) ∧ Ext w w' := by
 rw [vput_len]
 go_enter Tryz.func110, Tryz.ntmps110
 go_wp2_with fail
 refine (add_any none 0 0 w.heap.size [] u w w (Own.nil ..) rfl (Below.refl _ _) (Nat.le_refl _) hu (by omega)).mono ?_
 rintro e w1 ⟨A1, c1, rfl, hown1, hb1, _⟩
 rw [Nat.zero_add]
 go_wp2
 go_ret
 exact ⟨A1, c1, rfl, hown1, hb1⟩
end Go.Proofs.YthibbgmicmfkfaaGreat
