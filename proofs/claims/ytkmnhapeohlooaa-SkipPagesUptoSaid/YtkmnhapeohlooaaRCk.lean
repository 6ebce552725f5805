/-
  One element of several cells appended to a row of the call's own, whatever world it is done in; where the row then lies.
-/
import Derived.Test.YtkmnhapeohlooaaGR
namespace Go.Proofs.Ytkmnhapeohlooaa
open Go.RowKit

theorem run_pushK {P : Program} {w : World} (e t ty : TypeId) (z : Value) (sz bytes : Nat) (ht : P.underlying t = some (.slice e)) (hi : (P.info? e).map (fun i => (i.zero, i.size, i.bytes)) = some (some z, sz, bytes)) (hzs : z.cells.size = sz)
    {base : Nat} {A : Option Addr} {c : Nat} {vs : List Value} (us : List Value) (hus : us.length = sz) (hu1 : ∀ u ∈ us, u.oneCell' = true) (n : Nat) (hown : w.ownsRow base e sz (.slice A n c) n vs) {g0 : Nat} (hg0 : w.heap[g0]? = some (.cells us.toArray e))
    (hlen : ((n + 1) + (n + 1) / 4 + 192) * bytes ≤ 281474976710656) (hby : 0 < bytes) (hbase : base ≤ w.heap.size) :
    ∃ A' c' w', (Builtin.append_ #[t, t] ty #[.slice A n c, .slice (some ⟨g0, 0, none⟩) 1 1]).run P w = .ok (.slice A' (n + 1) c') w' ∧
      w'.ownsRow base e sz (.slice A' (n + 1) c') (n + 1) (vs ++ us) ∧ (A' = A ∧ w.grownBy w' (A.map (·.block)) ∨ Ext w w' ∧ ∀ q, A' = some q → w.heap.size ≤ q.block) ∧ base ≤ w'.heap.size := by
  obtain ⟨i, hi0, hz, hsz, hbs⟩ := info_parts hi
  have hvl : vs.length = n * sz := hown.1
  have hle : n + 1 ≤ 281474976710656 := Nat.le_trans (Nat.le_trans (by omega) (Nat.le_mul_of_pos_right ((n + 1) + (n + 1) / 4 + 192) hby)) hlen
  have hcell : ∀ j u, us[j]? = some u → w.cell? ((⟨g0, 0, none⟩ : Addr).add j) = some u := by
    intro j u hj
    rw [show (⟨g0, 0, none⟩ : Addr).add j = ⟨g0, j, none⟩ from by unfold Addr.add; split <;> simp_all]
    rw [cell_of_row w g0 j _ _ (0, 0) hg0, List.getElem?_toArray]
    exact hj
  have hul : us.length = 1 * i.size := by rw [hus, hsz]; omega
  have hlen2 : (vs ++ us).length = (n + 1) * sz := by rw [List.length_append, hvl, hus, Nat.add_mul]; omega
  have hnew : ∀ (cap : Nat) (cur : Array Value), n + 1 ≤ cap → cap ≤ maxLen → cur.size = cap * sz → cur.toList.take ((n + 1) * sz) = vs ++ us →
      (w.drew.alloc (.cells cur e)).ownsRow base e sz (.slice (some ⟨w.heap.size, 0, none⟩) (n + 1) cap) (n + 1) (vs ++ us) ∧ Ext w (w.drew.alloc (.cells cur e)) := by
    intro cap cur hc hm hcs htk
    exact ⟨⟨hlen2, .inr ⟨w.heap.size, cap, cur, rfl, hbase, heap_alloc_new w.drew _, hc, hm, hcs, htk⟩⟩, (Ext.refl w).drew.alloc _⟩
  have hzc : ∀ cap, n + 1 ≤ cap → (vs.toArray ++ us.toArray ++ Builtin.zeroCells z.cells (cap - (n + 1))).size = cap * sz := by
    intro cap hc
    simp only [Array.size_append, List.size_toArray, size_zeroCells, hzs, hvl, hus]
    obtain ⟨d, rfl⟩ : ∃ d, cap = n + 1 + d := ⟨cap - (n + 1), by omega⟩
    rw [show n + 1 + d - (n + 1) = d by omega]
    simp only [Nat.add_mul, Nat.one_mul]
  have hzt : ∀ k : Array Value, (vs.toArray ++ us.toArray ++ k).toList.take ((n + 1) * sz) = vs ++ us := by
    intro k
    simp only [Array.toList_append, List.append_assoc]
    rw [← List.append_assoc, ← hlen2]
    exact List.take_left
  rcases hown.2 with ⟨hv, h0⟩ | ⟨g, cap, cur, hv, hbg, hh, hnc, hcm, hcs, htake⟩
  · injection hv with hA hl hc
    subst hA
    subst hc
    subst h0
    have hx0 : vs = [] := List.eq_nil_of_length_eq_zero (by rw [hvl]; omega)
    subst hx0
    have hr := run_append_nil (P := P) w t ty e i z ht hi0 hz ⟨g0, 0, none⟩ 1 1 us hul hcell (by omega) (by omega) (by rw [hbs]; simp at hlen; omega)
    have hge := grownCap_ge w 1 0 e
    obtain ⟨ho1, he1⟩ := hnew (grownCap w 1 0 e) (us.toArray ++ Builtin.zeroCells z.cells (grownCap w 1 0 e - 1)) (by simpa using hge) (grownCap_le_maxLen w 1 0 e (by simp [maxLen])) (by have := hzc (grownCap w 1 0 e) (by simpa using hge); simpa using this) (by have := hzt (Builtin.zeroCells z.cells (grownCap w 1 0 e - 1)); simpa using this)
    exact ⟨_, _, _, by simpa using hr, ho1, .inr ⟨he1, fun q hq => by injection hq with hq; subst hq; exact Nat.le_refl _⟩, Nat.le_trans hbase he1.size⟩
  · injection hv with hA hl hc
    subst hA
    subst hc
    by_cases hroom : n + 1 ≤ c
    · have hr := run_append_room (P := P) w t ty e i ht hi0 g n c cur hh ⟨g0, 0, none⟩ 1 1 us hul hcell hu1 hroom (by
        rw [hsz, hus, hcs]
        have := Nat.mul_le_mul_right sz hroom
        rw [Nat.add_mul] at this
        omega)
      refine ⟨_, _, _, hr, ⟨hlen2, .inr ⟨g, c, _, rfl, hbg, setRow_heap w g cur _ e _ hh, hroom, hcm, ?_, ?_⟩⟩, .inl ⟨rfl, ?_⟩, ?_⟩
      · have := Nat.mul_le_mul_right sz hroom
        rw [Nat.add_mul] at this
        simp only [List.size_toArray, List.length_append, List.length_take, List.length_drop, Array.length_toList, hsz, hus]
        omega
      · rw [hsz, htake, ← hlen2]
        exact List.take_left
      · exact ⟨rfl, rfl, rfl, by simp, fun j hj hne => setRow_other w g j _ (fun e => hne (by simp [e]))⟩
      · simp; omega
    · have holds : ∀ j u, vs[j]? = some u → w.cell? ((⟨g, 0, none⟩ : Addr).add j) = some u := World.ownsRow.cells hown (g := g) rfl
      have hr := run_append_grow (P := P) w t ty e i z ht hi0 hz ⟨g, 0, none⟩ n c _ (by rw [hsz]; exact hvl) holds ⟨g0, 0, none⟩ 1 1 us hul hcell (by omega) (by omega) (growslice_fits_wide (by omega) (by rw [hbs]; exact hlen))
      have hge := grownCap_ge w (n + 1) c e
      obtain ⟨ho1, he1⟩ := hnew (grownCap w (n + 1) c e) (vs.toArray ++ us.toArray ++ Builtin.zeroCells z.cells (grownCap w (n + 1) c e - (n + 1))) hge (grownCap_le_maxLen w _ _ e (by unfold maxLen; omega)) (hzc _ hge) (hzt _)
      exact ⟨_, _, _, hr, ho1, .inr ⟨he1, fun q hq => by injection hq with hq; subst hq; exact Nat.le_refl _⟩, Nat.le_trans hbase he1.size⟩

/-- 'append(out, x)', as one operation. -/
theorem wp_pushK {P : Program} {T : Type} {w : World} {o : Oper} {a : Act} {K : Act → World → Prop} {Q : Exit → Act → World → Prop} (s : Shape T) (x : T) (e : TypeId) (v y : Operand) (t : TypeId)
    (ho : o.op = .call { callee := .builtin .append, args := #[v, y], argTypes := #[t, t] })
    (z : Value) (bytes : Nat) (ht : P.underlying t = some (.slice e)) (hi : (P.info? e).map (fun i => (i.zero, i.size, i.bytes)) = some (some z, s.sz, bytes)) (hzs : z.cells.size = s.sz)
    {base : Nat} {A : Option Addr} {c : Nat} {xs : List T} (hown : OwnG s e w base A c xs) (n : Nat) (hn : xs.length = n) (hs : a.eval v = .slice A n c)
    {g : Nat} (hy : a.eval y = .slice (some ⟨g, 0, none⟩) 1 1) (hg : w.heap[g]? = some (.cells (s.cells x).toArray e))
    (hlen : ((n + 1) + (n + 1) / 4 + 192) * bytes ≤ 281474976710656) (hby : 0 < bytes) (hbase : base ≤ w.heap.size)
    (h : ∀ A' c' w', OwnG s e w' base A' c' (xs ++ [x]) → (A' = A ∧ w.grownBy w' (A.map (·.block)) ∨ Ext w w' ∧ ∀ q, A' = some q → w.heap.size ≤ q.block) → base ≤ w'.heap.size → K (a.put o.dst (.slice A' (n + 1) c')) w') :
    Oper.wp P o a w K Q := by
  subst hn
  obtain ⟨A', c', w', hr, h2, h3, h4⟩ := run_pushK (P := P) (w := w) e t o.type z s.sz bytes ht hi hzs (s.cells x) (s.len x) (s.one x) xs.length hown hg hlen hby hbase
  unfold Oper.wp execOp
  simp only [ho, resolve, invoke, builtin, Sem.run_bind, Sem.run_pure, Result.andThen_ok, List.map_toArray, List.map_cons, List.map_nil, hs, hy, hr]
  refine h A' c' w' ?_ h3 h4
  unfold OwnG
  rw [List.length_append, List.length_singleton, Shape.all_snoc]
  exact h2

end Go.Proofs.Ytkmnhapeohlooaa
