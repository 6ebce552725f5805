import Derived.Test.YthibbgmicmfkfaaGreatGX15
import Derived.Lib.SliceRun
import Derived.OrdersHeld
namespace Go.Proofs.YthibbgmicmfkfaaGreat
open Go.RowKit
set_option maxRecDepth 100000
structure LSt where
  r : List Nat
  rf : Bool
  l : List Nat
  lf : Bool
  bs : List (List Nat)
  fs : List (List Nat)
def stB (s : LSt) : LSt :=
  ⟨(numR s.r s.rf 65000).2.1, (numR s.r s.rf 65000).2.2, (bytR s.l s.lf (numR s.r s.rf 65000).1).2.1, (bytR s.l s.lf (numR s.r s.rf 65000).1).2.2, s.bs ++ [(bytR s.l s.lf (numR s.r s.rf 65000).1).1], s.fs⟩
def stF (s : LSt) : LSt :=
  ⟨(bytR (numR s.r s.rf 200).2.1 (numR s.r s.rf 200).2.2 (numR s.r s.rf 200).1).2.1, (bytR (numR s.r s.rf 200).2.1 (numR s.r s.rf 200).2.2 (numR s.r s.rf 200).1).2.2, s.l, s.lf, s.bs, s.fs ++ [(bytR (numR s.r s.rf 200).2.1 (numR s.r s.rf 200).2.2 (numR s.r s.rf 200).1).1]⟩
def stL (ks : Bool) (s : LSt) : LSt := if ks then stF (stB s) else stB s
def itL (ks : Bool) : Nat → LSt → LSt
  | 0, s => s
  | n + 1, s => itL ks n (stL ks s)
structure FlM where
  k : Nat
  ks : Bool
  rows : Nat
  per : Nat
  bs : List (List Nat)
  fs : List (List Nat)
def endL (s : LSt) : Bool := !s.rf && decide (s.r.length = 0) && (!s.lf && decide (s.l.length = 0)) && decide (riseP s.fs s.fs.length)
def hdL (foot : List Nat) : Nat × Nat × Nat × List Nat × Bool :=
  ((numR (foot.drop 2) false 4096).1,
   (numR (numR (foot.drop 2) false 4096).2.1 (numR (foot.drop 2) false 4096).2.2 4096).1,
   (numR (numR (numR (foot.drop 2) false 4096).2.1 (numR (foot.drop 2) false 4096).2.2 4096).2.1 (numR (numR (foot.drop 2) false 4096).2.1 (numR (foot.drop 2) false 4096).2.2 4096).2.2 4096).1,
   (numR (numR (numR (foot.drop 2) false 4096).2.1 (numR (foot.drop 2) false 4096).2.2 4096).2.1 (numR (numR (foot.drop 2) false 4096).2.1 (numR (foot.drop 2) false 4096).2.2 4096).2.2 4096).2.1,
   (numR (numR (numR (foot.drop 2) false 4096).2.1 (numR (foot.drop 2) false 4096).2.2 4096).2.1 (numR (numR (foot.drop 2) false 4096).2.1 (numR (foot.drop 2) false 4096).2.2 4096).2.2 4096).2.2)
def toldR (foot blocks : List Nat) : Option FlM :=
  if foot.length < 2 ∨ 1 < foot.getD 1 0 then none
  else if (hdL foot).2.2.2.2 = true ∨ rightK (foot.getD 0 0 : Nat) (foot.getD 1 0 == 1) ((hdL foot).2.1 : Nat) = false ∨ (hdL foot).2.2.1 ≠ ((hdL foot).1 + (hdL foot).2.1 - 1) / (hdL foot).2.1 then none
  else if endL (itL (foot.getD 1 0 == 1) (hdL foot).2.2.1 ⟨(hdL foot).2.2.2.1, false, blocks, false, [], []⟩) = false then none
  else some ⟨foot.getD 0 0, foot.getD 1 0 == 1, (hdL foot).1, (hdL foot).2.1, (itL (foot.getD 1 0 == 1) (hdL foot).2.2.1 ⟨(hdL foot).2.2.2.1, false, blocks, false, [], []⟩).bs, (itL (foot.getD 1 0 == 1) (hdL foot).2.2.1 ⟨(hdL foot).2.2.2.1, false, blocks, false, [], []⟩).fs⟩
theorem numR_le {bs : List Nat} {f : Bool} {m : Nat} : (numR bs f m).1 ≤ m := by
  unfold numR
  split
  · exact Nat.zero_le _
  · rename_i h; exact Nat.le_of_not_lt (fun q => h (.inr q))
theorem numR_rest {bs : List Nat} {f : Bool} {m : Nat} : ∃ k, (numR bs f m).2.1 = bs.drop k := by
  unfold numR
  split
  · exact ⟨0, rfl⟩
  · exact ⟨_, rfl⟩
theorem bytR_rest {bs : List Nat} {f : Bool} {n : Nat} : ∃ k, (bytR bs f n).2.1 = bs.drop k := by
  unfold bytR
  split
  · exact ⟨0, rfl⟩
  · exact ⟨_, rfl⟩
theorem numR_u8 {bs : List Nat} {f : Bool} {m : Nat} (h : U8 bs) : U8 (numR bs f m).2.1 := by
  obtain ⟨k, e⟩ := numR_rest (bs := bs) (f := f) (m := m)
  rw [e]
  exact fun v hv => h v (List.mem_of_mem_drop hv)
theorem numR_len {bs : List Nat} {f : Bool} {m : Nat} : (numR bs f m).2.1.length ≤ bs.length := by
  obtain ⟨k, e⟩ := numR_rest (bs := bs) (f := f) (m := m)
  rw [e, List.length_drop]
  omega
theorem bytR_u8 {bs : List Nat} {f : Bool} {m : Nat} (h : U8 bs) : U8 (bytR bs f m).2.1 := by
  obtain ⟨k, e⟩ := bytR_rest (bs := bs) (f := f) (n := m)
  rw [e]
  exact fun v hv => h v (List.mem_of_mem_drop hv)
theorem bytR_len2 {bs : List Nat} {f : Bool} {m : Nat} : (bytR bs f m).2.1.length ≤ bs.length := by
  obtain ⟨k, e⟩ := bytR_rest (bs := bs) (f := f) (n := m)
  rw [e, List.length_drop]
  omega
theorem hdL_eq (foot : List Nat) {N1 N2 N3 : Nat × List Nat × Bool} (h1 : N1 = numR (foot.drop 2) false 4096) (h2 : N2 = numR N1.2.1 N1.2.2 4096) (h3 : N3 = numR N2.2.1 N2.2.2 4096) : hdL foot = (N1.1, N2.1, N3.1, N3.2.1, N3.2.2) := by
  subst h1 h2 h3
  rfl
theorem bytR_sub {bs : List Nat} {f : Bool} {n : Nat} : ∀ v ∈ (bytR bs f n).1, v ∈ bs := by
  unfold bytR
  split
  · intro v hv; cases hv
  · exact fun v hv => List.mem_of_mem_take hv
theorem bytR_len {bs : List Nat} {f : Bool} {n : Nat} : (bytR bs f n).1.length ≤ n := by
  unfold bytR
  split
  · exact Nat.zero_le _
  · rw [List.length_take]; omega
structure OkL (s : LSt) (n : Nat) : Prop where
  u1 : U8 s.r
  n1 : s.r.length ≤ 70000
  u2 : U8 s.l
  n2 : s.l.length ≤ 1100000
  lb : s.bs.length = n
  lf : s.fs.length ≤ n
  ub : ∀ t ∈ s.bs, U8 t
  uf : ∀ t ∈ s.fs, U8 t
  zb : ∀ t ∈ s.bs, t.length ≤ 65000
  zf : ∀ t ∈ s.fs, t.length ≤ 200
theorem okL_stB {s : LSt} {n : Nat} (h : OkL s n) : OkL (stB s) (n + 1) :=
  ⟨numR_u8 h.u1, Nat.le_trans numR_len h.n1, bytR_u8 h.u2, Nat.le_trans bytR_len2 h.n2, by unfold stB; simp [h.lb], Nat.le_succ_of_le h.lf, fun t ht => by
    rcases List.mem_append.1 ht with q | q
    · exact h.ub t q
    · rw [List.mem_singleton.1 q]
      exact fun v hv => h.u2 v (bytR_sub v hv), h.uf, fun t ht => by
    rcases List.mem_append.1 ht with q | q
    · exact h.zb t q
    · rw [List.mem_singleton.1 q]
      exact Nat.le_trans bytR_len numR_le, h.zf⟩
theorem okL_stL {ks : Bool} {s : LSt} {n : Nat} (h : OkL s n) : OkL (stL ks s) (n + 1) := by
  cases ks with
  | false => exact okL_stB h
  | true =>
    have h2 := okL_stB h
    exact ⟨bytR_u8 (numR_u8 h2.u1), Nat.le_trans bytR_len2 (Nat.le_trans numR_len h2.n1), h2.u2, h2.n2, h2.lb, by
      have : (stF (stB s)).fs.length = (stB s).fs.length + 1 := by unfold stF; simp
      show (stF (stB s)).fs.length ≤ n + 1
      rw [this]
      have : (stB s).fs.length = s.fs.length := rfl
      have := h.lf
      omega, h2.ub, fun t ht => by
      rcases List.mem_append.1 (show t ∈ (stB s).fs ++ _ from ht) with q | q
      · exact h2.uf t q
      · rw [List.mem_singleton.1 q]
        exact fun v hv => numR_u8 h2.u1 v (bytR_sub v hv), h2.zb, fun t ht => by
      rcases List.mem_append.1 (show t ∈ (stB s).fs ++ _ from ht) with q | q
      · exact h2.zf t q
      · rw [List.mem_singleton.1 q]
        exact Nat.le_trans bytR_len numR_le⟩
theorem cell_blk {w w' : World} {g i : Nat} (e : w'.heap[g]? = w.heap[g]?) : w'.cell? ⟨g, i, none⟩ = w.cell? ⟨g, i, none⟩ := by
  simp only [World.cell?, e]
theorem froz_blk {w w' : World} {g i : Nat} (e : w'.heap[g]? = w.heap[g]?) : w'.frozen? ⟨g, i, none⟩ = w.frozen? ⟨g, i, none⟩ := by
  simp only [World.frozen?, e]
theorem FilC.blk {w w' : World} {g : Nat} {k : Int} {ks : Bool} {rows per : Int} {vb vf : Value} (h : FilC w g k ks rows per vb vf) (hz : w.heap.size ≤ w'.heap.size) (e : w'.heap[g]? = w.heap[g]?) : FilC w' g k ks rows per vb vf :=
  ⟨Nat.lt_of_lt_of_le h.lt hz, (cell_blk e).trans h.c0, (cell_blk e).trans h.c1, (cell_blk e).trans h.c2, (cell_blk e).trans h.c3, (cell_blk e).trans h.c4, (cell_blk e).trans h.c5, fun i => (froz_blk e).trans (h.fr i)⟩
theorem RdrC.blk {w w' : World} {g : Nat} {v0 v1 : Value} (h : RdrC w g v0 v1) (hz : w.heap.size ≤ w'.heap.size) (e : w'.heap[g]? = w.heap[g]?) : RdrC w' g v0 v1 :=
  ⟨Nat.lt_of_lt_of_le h.lt hz, (cell_blk e).trans h.c0, (cell_blk e).trans h.c1, (froz_blk e).trans h.f0, (froz_blk e).trans h.f1⟩
theorem FilC.grown {w w' : World} {g b : Nat} {k : Int} {ks : Bool} {rows per : Int} {vb vf : Value} (h : FilC w g k ks rows per vb vf) (hg : w.grownBy w' (some b)) (hb : g ≠ b) : FilC w' g k ks rows per vb vf :=
  h.blk hg.size (hg.block g h.lt (fun e => hb (by injection e)))
theorem RdrC.grown {w w' : World} {g b : Nat} {v0 v1 : Value} (h : RdrC w g v0 v1) (hg : w.grownBy w' (some b)) (hb : g ≠ b) : RdrC w' g v0 v1 :=
  h.blk hg.size (hg.block g h.lt (fun e => hb (by injection e)))
theorem Rd.grownB {w w' : World} {A : Option Addr} {n b : Nat} {bs : List Nat} (h : Rd .u8 w A n bs) (hg : w.grownBy w' (some b)) (hA : ∀ p, A = some p → p.block ≠ b) : Rd .u8 w' A n bs :=
  ⟨h.1, fun h0 => by
    obtain ⟨c, o, e, hc, hcell⟩ := h.2 h0
    refine ⟨c, o, e, Nat.lt_of_lt_of_le hc hg.size, fun j hj => ?_⟩
    rw [cell_blk (hg.block c hc (fun q => hA _ e (by injection q)))]
    exact hcell j hj⟩
theorem RdV.grown {w w' : World} {v : Value} {b : Nat} {bs : List Nat} (h : RdV w v bs) (hg : w.grownBy w' (some b)) (hA : ∀ A n c, v = .slice A n c → ∀ p, A = some p → p.block ≠ b) : RdV w' v bs := by
  obtain ⟨A, c, e, h1, h2, h3⟩ := h.ex
  exact ⟨A, c, e, h1.grownB hg (hA A _ c e), h2, h3⟩
theorem FilC.set2 {w : World} {g : Nat} {k : Int} {ks : Bool} {rows per : Int} {vb vf : Value} (h : FilC w g k ks rows per vb vf) (r : Int) : FilC (w.setCell ⟨g, 2, none⟩ (.int .i64 r)) g k ks r per vb vf := by
  have ne : ∀ i, i ≠ 2 → (w.setCell ⟨g, 2, none⟩ (.int .i64 r)).cell? ⟨g, i, none⟩ = w.cell? ⟨g, i, none⟩ := fun i hi => World.cell?_setCell_other _ _ _ _ (fun e => hi (by injection e with _ e2 _; exact e2.symm))
  exact ⟨by simp [World.setCell]; exact h.lt, (ne 0 (by decide)).trans h.c0, (ne 1 (by decide)).trans h.c1, World.cell?_setCell_same _ _ _ h.c2, (ne 3 (by decide)).trans h.c3, (ne 4 (by decide)).trans h.c4, (ne 5 (by decide)).trans h.c5, fun i => by rw [World.frozen?_setCell]; exact h.fr i⟩
theorem FilC.set3 {w : World} {g : Nat} {k : Int} {ks : Bool} {rows per : Int} {vb vf : Value} (h : FilC w g k ks rows per vb vf) (r : Int) : FilC (w.setCell ⟨g, 3, none⟩ (.int .i64 r)) g k ks rows r vb vf := by
  have ne : ∀ i, i ≠ 3 → (w.setCell ⟨g, 3, none⟩ (.int .i64 r)).cell? ⟨g, i, none⟩ = w.cell? ⟨g, i, none⟩ := fun i hi => World.cell?_setCell_other _ _ _ _ (fun e => hi (by injection e with _ e2 _; exact e2.symm))
  exact ⟨by simp [World.setCell]; exact h.lt, (ne 0 (by decide)).trans h.c0, (ne 1 (by decide)).trans h.c1, (ne 2 (by decide)).trans h.c2, World.cell?_setCell_same _ _ _ h.c3, (ne 4 (by decide)).trans h.c4, (ne 5 (by decide)).trans h.c5, fun i => by rw [World.frozen?_setCell]; exact h.fr i⟩
theorem FilC.set4 {w : World} {g : Nat} {k : Int} {ks : Bool} {rows per : Int} {vb vf : Value} (h : FilC w g k ks rows per vb vf) (v : Value) : FilC (w.setCell ⟨g, 4, none⟩ v) g k ks rows per v vf := by
  have ne : ∀ i, i ≠ 4 → (w.setCell ⟨g, 4, none⟩ v).cell? ⟨g, i, none⟩ = w.cell? ⟨g, i, none⟩ := fun i hi => World.cell?_setCell_other _ _ _ _ (fun e => hi (by injection e with _ e2 _; exact e2.symm))
  exact ⟨by simp [World.setCell]; exact h.lt, (ne 0 (by decide)).trans h.c0, (ne 1 (by decide)).trans h.c1, (ne 2 (by decide)).trans h.c2, (ne 3 (by decide)).trans h.c3, World.cell?_setCell_same _ _ _ h.c4, (ne 5 (by decide)).trans h.c5, fun i => by rw [World.frozen?_setCell]; exact h.fr i⟩
theorem FilC.set5 {w : World} {g : Nat} {k : Int} {ks : Bool} {rows per : Int} {vb vf : Value} (h : FilC w g k ks rows per vb vf) (v : Value) : FilC (w.setCell ⟨g, 5, none⟩ v) g k ks rows per vb v := by
  have ne : ∀ i, i ≠ 5 → (w.setCell ⟨g, 5, none⟩ v).cell? ⟨g, i, none⟩ = w.cell? ⟨g, i, none⟩ := fun i hi => World.cell?_setCell_other _ _ _ _ (fun e => hi (by injection e with _ e2 _; exact e2.symm))
  exact ⟨by simp [World.setCell]; exact h.lt, (ne 0 (by decide)).trans h.c0, (ne 1 (by decide)).trans h.c1, (ne 2 (by decide)).trans h.c2, (ne 3 (by decide)).trans h.c3, (ne 4 (by decide)).trans h.c4, World.cell?_setCell_same _ _ _ h.c5, fun i => by rw [World.frozen?_setCell]; exact h.fr i⟩
theorem run_push1 {P : Program} {w : World} (e t ty : TypeId) (z : Value) (bytes : Nat) (ht : P.underlying t = some (.slice e)) (hi : (P.info? e).map (fun i => (i.zero, i.size, i.bytes)) = some (some z, 1, bytes)) (hzs : z.cells.size = 1)
    {base : Nat} {A : Option Addr} {c : Nat} {vs : List Value} (v : Value) (hv1 : v.oneCell' = true) (n : Nat) (hn : vs.length = n) (hown : w.ownsRow base e 1 (.slice A n c) n vs) {g0 : Nat} (hg0 : w.heap[g0]? = some (.cells #[v] e))
    (hlen : ((n + 1) + (n + 1) / 4 + 192) * bytes ≤ 281474976710656) (hby : 0 < bytes) (hbase : base ≤ w.heap.size) :
    ∃ A' c' w', (Builtin.append_ #[t, t] ty #[.slice A n c, .slice (some ⟨g0, 0, none⟩) 1 1]).run P w = .ok (.slice A' (n + 1) c') w' ∧
      w'.ownsRow base e 1 (.slice A' (n + 1) c') (n + 1) (vs ++ [v]) ∧ (A' = A ∧ w.grownBy w' (A.map (·.block)) ∨ Ext w w' ∧ ∀ q, A' = some q → w.heap.size ≤ q.block) ∧ base ≤ w'.heap.size := by
  subst hn
  obtain ⟨i, hi0, hz, hsz, hbs⟩ := info_parts hi
  have hle : vs.length + 1 ≤ 281474976710656 := Nat.le_trans (Nat.le_trans (by omega) (Nat.le_mul_of_pos_right ((vs.length + 1) + (vs.length + 1) / 4 + 192) hby)) hlen
  have hcell : ∀ j u, [v][j]? = some u → w.cell? ((⟨g0, 0, none⟩ : Addr).add j) = some u := by
    intro j u hj
    match j, hj with
    | 0, hj =>
      simp at hj
      subst hj
      have := cell_of_row w g0 0 _ _ (0, 0) hg0
      simpa [Addr.add] using this
  have h1 : ∀ u ∈ [v], u.oneCell' = true := by intro u hu; simp at hu; subst hu; exact hv1
  have hlen2 : (vs ++ [v]).length = vs.length + 1 := by simp
  have hnew : ∀ (cap : Nat) (cur : Array Value), vs.length + 1 ≤ cap → cap ≤ maxLen → cur.size = cap * 1 → cur.toList.take (vs.length + 1) = vs ++ [v] →
      (w.drew.alloc (.cells cur e)).ownsRow base e 1 (.slice (some ⟨w.heap.size, 0, none⟩) (vs.length + 1) cap) (vs.length + 1) (vs ++ [v]) ∧ Ext w (w.drew.alloc (.cells cur e)) := by
    intro cap cur hc hm hcs htk
    exact ⟨⟨by simp, .inr ⟨w.heap.size, cap, cur, rfl, hbase, heap_alloc_new w.drew _, hc, hm, hcs, by rw [Nat.mul_one]; exact htk⟩⟩, (Ext.refl w).drew.alloc _⟩
  rcases hown.2 with ⟨hv, h0⟩ | ⟨g, cap, cur, hv, hbg, hh, hnc, hcm, hcs, htake⟩
  · injection hv with hA hl hc
    subst hA
    subst hc
    have hx0 : vs = [] := List.eq_nil_of_length_eq_zero h0
    subst hx0
    have hr := run_append_nil (P := P) w t ty e i z ht hi0 hz ⟨g0, 0, none⟩ 1 1 [v] (by simp [hsz]) hcell (by omega) (by omega) (by rw [hbs]; simp at hlen; omega)
    have hge := grownCap_ge w 1 0 e
    obtain ⟨ho1, he1⟩ := hnew (grownCap w 1 0 e) ([v].toArray ++ Builtin.zeroCells z.cells (grownCap w 1 0 e - 1)) (by simpa using hge) (grownCap_le_maxLen w 1 0 e (by simp [maxLen])) (by simp only [Array.size_append, List.size_toArray, size_zeroCells, hzs, List.length_singleton]; omega) (by simp)
    exact ⟨_, _, _, by simpa using hr, ho1, .inr ⟨he1, fun q hq => by injection hq with hq; subst hq; exact Nat.le_refl _⟩, Nat.le_trans hbase he1.size⟩
  · injection hv with hA hl hc
    subst hA
    subst hc
    by_cases hroom : vs.length + 1 ≤ c
    · have hr := run_append_room (P := P) w t ty e i ht hi0 g vs.length c cur hh ⟨g0, 0, none⟩ 1 1 [v] (by simp [hsz]) hcell h1 hroom (by rw [hsz, hcs]; simp; omega)
      refine ⟨_, _, _, hr, ⟨by simp, .inr ⟨g, c, _, rfl, hbg, setRow_heap w g cur _ e _ hh, hroom, hcm, ?_, ?_⟩⟩, .inl ⟨rfl, ?_⟩, ?_⟩
      · simp only [List.size_toArray, List.length_append, List.length_take, List.length_drop, Array.length_toList, hsz, List.length_singleton]
        omega
      · rw [hsz, htake, Nat.mul_one]
        have : (vs ++ [v]).length = vs.length + 1 := by simp
        rw [← this]
        exact List.take_left
      · exact ⟨rfl, rfl, rfl, by simp, fun j hj hne => setRow_other w g j _ (fun e => hne (by simp [e]))⟩
      · simp; omega
    · have holds : ∀ j u, vs[j]? = some u → w.cell? ((⟨g, 0, none⟩ : Addr).add j) = some u := World.ownsRow.cells hown (g := g) rfl
      have hr := run_append_grow (P := P) w t ty e i z ht hi0 hz ⟨g, 0, none⟩ vs.length c _ (by rw [hsz]; simp) holds ⟨g0, 0, none⟩ 1 1 [v] (by simp [hsz]) hcell (by omega) (by omega) (growslice_fits_wide (by omega) (by rw [hbs]; exact hlen))
      have hge := grownCap_ge w (vs.length + 1) c e
      obtain ⟨ho1, he1⟩ := hnew (grownCap w (vs.length + 1) c e) (vs.toArray ++ [v].toArray ++ Builtin.zeroCells z.cells (grownCap w (vs.length + 1) c e - (vs.length + 1))) hge (grownCap_le_maxLen w _ _ e (by unfold maxLen; omega)) (by simp only [Array.size_append, List.size_toArray, size_zeroCells, hzs, List.length_singleton]; omega) (by
          simp only [Array.toList_append, List.append_assoc]
          rw [← List.append_assoc, ← hlen2]
          exact List.take_left)
      exact ⟨_, _, _, hr, ho1, .inr ⟨he1, fun q hq => by injection hq with hq; subst hq; exact Nat.le_refl _⟩, Nat.le_trans hbase he1.size⟩
theorem Ext.toGrown {w w' : World} (h : Ext w w') (r : Option Nat) : w.grownBy w' r := ⟨h.os, h.tape, h.output, h.size, fun j hj _ => h.block j hj⟩
theorem Ext.grownB {w0 w w' : World} {r : Option Nat} (h : Ext w0 w) (hg : w.grownBy w' r) (hr : ∀ b, r = some b → w0.heap.size ≤ b) : Ext w0 w' := Below.grown h hg h.size hr
theorem FilC.grownR {w w' : World} {g : Nat} {r : Option Nat} {k : Int} {ks : Bool} {rows per : Int} {vb vf : Value} (h : FilC w g k ks rows per vb vf) (hg : w.grownBy w' r) (hr : r ≠ some g) : FilC w' g k ks rows per vb vf :=
  h.blk hg.size (hg.block g h.lt (fun e => hr e.symm))
theorem RdrC.grownR {w w' : World} {g : Nat} {r : Option Nat} {v0 v1 : Value} (h : RdrC w g v0 v1) (hg : w.grownBy w' r) (hr : r ≠ some g) : RdrC w' g v0 v1 :=
  h.blk hg.size (hg.block g h.lt (fun e => hr e.symm))
theorem Rd.grownR {w w' : World} {A : Option Addr} {n : Nat} {r : Option Nat} {bs : List Nat} (h : Rd .u8 w A n bs) (hg : w.grownBy w' r) (hA : ∀ p, A = some p → r ≠ some p.block) : Rd .u8 w' A n bs :=
  ⟨h.1, fun h0 => by
    obtain ⟨c, o, e, hc, hcell⟩ := h.2 h0
    refine ⟨c, o, e, Nat.lt_of_lt_of_le hc hg.size, fun j hj => ?_⟩
    rw [cell_blk (hg.block c hc (fun q => hA _ e q.symm))]
    exact hcell j hj⟩
theorem OwnS.grownR {w w' : World} {base c : Nat} {A : Option Addr} {ss : List Sl} {r : Option Nat} (h : OwnS w base A c ss) (hg : w.grownBy w' r) (hA : ∀ p, A = some p → r ≠ some p.block) : OwnS w' base A c ss := by
  refine World.ownsRow.kept h hg ?_
  cases A with
  | none => exact Or.inl rfl
  | some a => exact Or.inr (fun e => hA a rfl e.symm)
theorem OwnS.nil (w : World) (base : Nat) : OwnS w base none 0 [] := World.ownsRow_nil w base _ 1
structure Rdr (w : World) (g : Nat) (A0 : Option Addr) (rest : List Nat) (f : Bool) : Prop where
  ex : ∃ A c, RdrC w g (.slice A rest.length c) (.bool f) ∧ Rd .u8 w A rest.length rest ∧ rest.length ≤ c ∧ c ≤ 9223372036854775807 ∧ ∀ p', A = some p' → ∃ p, A0 = some p ∧ p'.block = p.block
theorem Rdr.grownR {w w' : World} {g : Nat} {r : Option Nat} {A0 : Option Addr} {rest : List Nat} {f : Bool} (h : Rdr w g A0 rest f) (hg : w.grownBy w' r) (hr : r ≠ some g) (hA : ∀ p, A0 = some p → r ≠ some p.block) : Rdr w' g A0 rest f := by
  obtain ⟨A, c, h1, h2, h3, h4, h5⟩ := h.ex
  refine ⟨A, c, h1.grownR hg hr, h2.grownR hg (fun p' hp' e => ?_), h3, h4, h5⟩
  obtain ⟨p, q1, q2⟩ := h5 p' hp'
  exact hA p q1 (by rw [← q2]; exact e)
theorem Rdr.num {w : World} {g : Nat} {A0 : Option Addr} {rest : List Nat} {f : Bool} (h : Rdr w g A0 rest f) (hA0 : ∀ p, A0 = some p → p.block ≠ g) (hu : U8 rest) (hn : rest.length ≤ 140737488355328) (most : Nat) (mi : Int) (hmi : mi = (most : Int)) (hm : most ≤ 1000000) :
    Calls Tryz.prog 98 #[.pointer (some ⟨g, 0, none⟩), .int .i64 mi] w fun e w' => e = .returned (.int .i64 ((numR rest f most).1 : Int)) ∧ Rdr w' g A0 (numR rest f most).2.1 (numR rest f most).2.2 ∧ w.grownBy w' (some g) := by
  subst hmi
  obtain ⟨A, c, h1, h2, h3, h4, h5⟩ := h.ex
  refine (numC_any g A rest.length c rest f most w h1 h2 h3 h4 (fun p' hp' => ?_) hu hn hm).mono ?_
  · obtain ⟨p, q1, q2⟩ := h5 p' hp'
    rw [q2]
    exact hA0 p q1
  · rintro e w' ⟨rfl, v', r1, r2, r3, r4⟩
    refine ⟨rfl, ?_, r4⟩
    obtain ⟨A', c', rfl, s1, s2, s3⟩ := r2.ex
    refine ⟨A', c', r1, s1, s2, s3, fun p' hp' => ?_⟩
    obtain ⟨q, q1, q2⟩ := r3 A' _ c' rfl p' hp'
    obtain ⟨p, p1, p2⟩ := h5 q q1
    exact ⟨p, p1, q2.trans p2⟩
theorem Rdr.byt {w : World} {g : Nat} {A0 : Option Addr} {rest : List Nat} {f : Bool} (h : Rdr w g A0 rest f) (hA0 : ∀ p, A0 = some p → p.block ≠ g) (hn : rest.length ≤ 140737488355328) (m : Nat) (hm : m ≤ 1000000) :
    Calls Tryz.prog 101 #[.pointer (some ⟨g, 0, none⟩), .int .i64 (m : Int)] w fun e w' => ∃ s : Sl, e = .returned s.v ∧ s.body = (bytR rest f m).1 ∧ Rd .u8 w' s.A s.body.length s.body ∧ s.body.length ≤ s.c ∧ s.c ≤ 9223372036854775807 ∧ (∀ p', s.A = some p' → ∃ p, A0 = some p ∧ p'.block = p.block) ∧
      Rdr w' g A0 (bytR rest f m).2.1 (bytR rest f m).2.2 ∧ w.grownBy w' (some g) := by
  obtain ⟨A, c, h1, h2, h3, h4, h5⟩ := h.ex
  refine (bytC_any g A rest.length c rest f m w h1 h2 h3 h4 (fun p' hp' => ?_) hn hm).mono ?_
  · obtain ⟨p, q1, q2⟩ := h5 p' hp'
    rw [q2]
    exact hA0 p q1
  · rintro e w' ⟨A1, c1, rfl, t1, t2, t3, t4, v', r1, r2, r3, r4⟩
    refine ⟨⟨A1, c1, (bytR rest f m).1⟩, rfl, rfl, t4, t1, t2, fun p' hp' => ?_, ?_, r4⟩
    · rcases t3 with rfl | rfl
      · cases hp'
      · exact h5 p' hp'
    · obtain ⟨A', c', rfl, s1, s2, s3⟩ := r2.ex
      refine ⟨A', c', r1, s1, s2, s3, fun p' hp' => ?_⟩
      obtain ⟨q, q1, q2⟩ := r3 A' _ c' rfl p' hp'
      obtain ⟨p, p1, p2⟩ := h5 q q1
      exact ⟨p, p1, q2.trans p2⟩
theorem wp_pushS {w : World} {o : Oper} {a : Act} {K : Act → World → Prop} {Q : Exit → Act → World → Prop} (f : Sl) (s y : Operand)
    (ho : o.op = .call { callee := .builtin .append, args := #[s, y], argTypes := #[33, 33] })
    {base : Nat} {A : Option Addr} {c : Nat} {ss : List Sl} (hown : OwnS w base A c ss) (n : Nat) (hn : ss.length = n) (hs : a.eval s = .slice A n c)
    {g : Nat} (hy : a.eval y = .slice (some ⟨g, 0, none⟩) 1 1) (hg : w.heap[g]? = some (.cells #[.slice f.A f.body.length f.c] 22))
    (hlen : n ≤ 1048576) (hbase : base ≤ w.heap.size)
    (h : ∀ A' c' w', OwnS w' base A' c' (ss ++ [f]) → w.grownBy w' (A.map (·.block)) → (∀ q, A' = some q → w.heap.size ≤ q.block ∨ A' = A) → base ≤ w'.heap.size → K (a.put o.dst (.slice A' (n + 1) c')) w') :
    Oper.wp Tryz.prog o a w K Q := by
  have hml : (ss.map Sl.v).length = n := by rw [List.length_map, hn]
  obtain ⟨A', c', w', hr, h2, h3, h4⟩ := run_push1 (P := Tryz.prog) (w := w) 22 33 o.type _ 24 Tryz.underlying33 Tryz.infoS rfl (.slice f.A f.body.length f.c) rfl n hml (by have := hown; unfold OwnS at this; rw [hn] at this; exact this) hg (by omega) (by omega) hbase
  unfold Oper.wp execOp
  simp only [ho, resolve, invoke, builtin, Sem.run_bind, Sem.run_pure, Result.andThen_ok, List.map_toArray, List.map_cons, List.map_nil, hs, hy, hr]
  refine h A' c' w' ?_ ?_ ?_ h4
  · unfold OwnS
    rw [List.length_append, List.length_singleton, hn, List.map_append]
    exact h2
  · rcases h3 with ⟨_, q⟩ | ⟨q, _⟩
    · exact q
    · exact Ext.toGrown q _
  · intro q hq
    rcases h3 with ⟨e, _⟩ | ⟨_, e⟩
    · exact .inr e
    · exact .inl (e q hq)
theorem froz_row {w : World} {g i : Nat} {cs : Array Value} {T : TypeId} (h : w.heap[g]? = some (.cells cs T)) : w.frozen? ⟨g, i, none⟩ = false := by
  unfold World.frozen?
  rw [h]
  rfl
theorem RdrC.made (w : World) (v0 v1 : Value) (T : TypeId) : RdrC (w.alloc (.cells #[v0, v1] T)) w.heap.size v0 v1 := by
  have h := heap_alloc_new w (.cells #[v0, v1] T)
  exact ⟨(Array.getElem?_eq_some_iff.1 h).1, cell_of_row _ _ 0 _ _ (0, 0) h, cell_of_row _ _ 1 _ _ (0, 0) h, froz_row h, froz_row h⟩
theorem FilC.made (w : World) (k : Int) (ks : Bool) (rows per : Int) (vb vf : Value) (T : TypeId) : FilC (w.alloc (.cells #[.int .i64 k, .bool ks, .int .i64 rows, .int .i64 per, vb, vf] T)) w.heap.size k ks rows per vb vf := by
  have h := heap_alloc_new w (.cells #[.int .i64 k, .bool ks, .int .i64 rows, .int .i64 per, vb, vf] T)
  exact ⟨(Array.getElem?_eq_some_iff.1 h).1, cell_of_row _ _ 0 _ _ (0, 0) h, cell_of_row _ _ 1 _ _ (0, 0) h, cell_of_row _ _ 2 _ _ (0, 0) h, cell_of_row _ _ 3 _ _ (0, 0) h, cell_of_row _ _ 4 _ _ (0, 0) h, cell_of_row _ _ 5 _ _ (0, 0) h, fun i => froz_row h⟩
structure FilOwn (w : World) (base g : Nat) (f : FlM) : Prop where
  lo : base ≤ g
  ex : ∃ (Ab : Option Addr) (cb : Nat) (Af : Option Addr) (cf : Nat) (bs fs : List Sl), FilC w g (f.k : Int) f.ks (f.rows : Int) (f.per : Int) (.slice Ab f.bs.length cb) (.slice Af f.fs.length cf) ∧ OwnS w base Ab cb bs ∧ OwnS w base Af cf fs ∧ bs.map Sl.body = f.bs ∧ fs.map Sl.body = f.fs ∧
    (∀ s ∈ bs, Rd .u8 w s.A s.body.length s.body ∧ s.body.length ≤ s.c ∧ s.c ≤ 9223372036854775807) ∧ (∀ s ∈ fs, Rd .u8 w s.A s.body.length s.body ∧ s.body.length ≤ s.c ∧ s.c ≤ 9223372036854775807)
def ToldPost (R : Option FlM) (w : World) (e : Ending) (w' : World) : Prop :=
  Ext w w' ∧ ((R = none ∧ e = .returned (.tuple #[.pointer none, .bool false])) ∨ ∃ f g, R = some f ∧ e = .returned (.tuple #[.pointer (some ⟨g, 0, none⟩), .bool true]) ∧ FilOwn w' w.heap.size g f)
set_option maxHeartbeats 800000 in
theorem told_short (A : Option Addr) (n c : Nat) (foot : List Nat) (B : Option Addr) (m d : Nat) (w : World) (hx : Rd .u8 w A n foot) (hu : U8 foot) (h : foot.length < 2 ∨ 1 < foot.getD 1 0) :
    Calls Tryz.prog 60 #[.slice A n c, .slice B m d] w fun e w' => e = .returned (.tuple #[.pointer none, .bool false]) ∧ w = w' := by
  have hl := hx.len
  rw [hl] at h
  by_cases h2 : n < 2
  · have hI : (n : Int) < 2 := by omega
    clear h hx hu hl
    go_enter Tryz.func60, Tryz.ntmps60
    go_wp2_with fail
    go_ret2
    exact ⟨rfl, rfl⟩
  · have hI : ¬ (n : Int) < 2 := by omega
    obtain ⟨b, o, hA, hbl, hc⟩ := hx.at_ (show 1 < n by omega)
    have hv8 := hu.at_ 1
    obtain ⟨v, hv⟩ : ∃ v, v = foot.getD 1 0 := ⟨_, rfl⟩
    rw [← hv] at hc hv8 h
    have h1 : (1 : Int) < (v : Int) := by omega
    subst hA
    clear h hx hu hl hv h2
    go_enter Tryz.func60, Tryz.ntmps60
    go_wp2_with fail
    go_ret2
    exact ⟨rfl, rfl⟩
def Sok (W : World) (B : Option Addr) (x : Sl) : Prop := Rd .u8 W x.A x.body.length x.body ∧ x.body.length ≤ x.c ∧ x.c ≤ 9223372036854775807 ∧ ∀ p', x.A = some p' → ∃ p, B = some p ∧ p'.block = p.block
theorem Sok.grownR {W W' : World} {B : Option Addr} {x : Sl} {r : Option Nat} (h : Sok W B x) (hg : W.grownBy W' r) (hB : ∀ p, B = some p → r ≠ some p.block) : Sok W' B x := by
  obtain ⟨h1, h2, h3, h4⟩ := h
  refine ⟨h1.grownR hg (fun p' hp' e => ?_), h2, h3, h4⟩
  obtain ⟨p, q1, q2⟩ := h4 p' hp'
  exact hB p q1 (by rw [← q2]; exact e)
theorem OwnS.mono' {w : World} {base base' c : Nat} {A : Option Addr} {ss : List Sl} (h : OwnS w base A c ss) (hb : base' ≤ base) : OwnS w base' A c ss := by
  refine ⟨h.1, ?_⟩
  rcases h.2 with hn | ⟨g, cap, cur, hv, hg, r⟩
  · exact .inl hn
  · exact .inr ⟨g, cap, cur, hv, Nat.le_trans hb hg, r⟩
theorem rdSS_of {w : World} {base c : Nat} {A : Option Addr} {ss : List Sl} (h : OwnS w base A c ss) (hs : ∀ x ∈ ss, Rd .u8 w x.A x.body.length x.body) : RdSS w A ss.length (ss.map Sl.body) := by
  obtain ⟨h1, h2⟩ := h.rdL
  refine ⟨List.length_map .., fun h0 => ?_⟩
  obtain ⟨b, o, e, hb, hc⟩ := h2 h0
  refine ⟨b, o, e, hb, fun j hj => ?_⟩
  have hjs : ss[j]? = some ss[j] := List.getElem?_eq_getElem hj
  have hg : (ss.map Sl.body).getD j [] = ss[j].body := by simp [List.getD_eq_getElem?_getD, hjs]
  rw [hg]
  exact ⟨_, _, _, hc j _ hjs, hs _ (List.getElem_mem hj)⟩
structure TL (w0 W : World) (g1 g3 base : Nat) (A B : Option Addr) (k : Int) (ks : Bool) (rows per : Int) (Ab : Option Addr) (cb : Nat) (bs : List Sl) (Af : Option Addr) (cf : Nat) (fs : List Sl) (s : LSt) : Prop where
  ext : Ext w0 W
  bas : base ≤ W.heap.size
  lo1 : w0.heap.size ≤ g1
  lo3 : g1 + 1 < g3
  lob : g3 < base
  neA : ∀ p, A = some p → p.block < w0.heap.size
  neB : ∀ p, B = some p → w0.heap.size ≤ p.block ∧ p.block < base ∧ p.block ≠ g1 ∧ p.block ≠ g1 + 1 ∧ p.block ≠ g3
  fil : FilC W g1 k ks rows per (.slice Ab bs.length cb) (.slice Af fs.length cf)
  own : OwnS W base Ab cb bs
  owf : OwnS W base Af cf fs
  nef : ∀ p q, Ab = some p → Af = some q → p.block ≠ q.block
  mb : bs.map Sl.body = s.bs
  mf : fs.map Sl.body = s.fs
  okb : ∀ x ∈ bs, Sok W B x
  okf : ∀ x ∈ fs, Sok W A x
  rdr : Rdr W (g1 + 1) A s.r s.rf
  lrd : Rdr W g3 B s.l s.lf
section
variable {w0 W W' : World} {g1 g3 base : Nat} {A B : Option Addr} {k : Int} {ks : Bool} {rows per : Int} {Ab : Option Addr} {cb : Nat} {bs : List Sl} {Af : Option Addr} {cf : Nat} {fs : List Sl} {s : LSt}
theorem TL.other {r : Option Nat} (h : TL w0 W g1 g3 base A B k ks rows per Ab cb bs Af cf fs s) (hg : W.grownBy W' r) (hr : r = none ∨ r = some (g1 + 1) ∨ r = some g3)
    (s' : LSt) (hb : s'.bs = s.bs) (hf : s'.fs = s.fs) (h1 : Rdr W' (g1 + 1) A s'.r s'.rf) (h3 : Rdr W' g3 B s'.l s'.lf) : TL w0 W' g1 g3 base A B k ks rows per Ab cb bs Af cf fs s' := by
  have l1 := h.lo1
  have l3 := h.lo3
  have lb := h.lob
  have rb : ∀ b, r = some b → b = g1 + 1 ∨ b = g3 := fun b e => by
    rcases hr with q | q | q
    · rw [q] at e; cases e
    · rw [q] at e; injection e with e; exact .inl e.symm
    · rw [q] at e; injection e with e; exact .inr e.symm
  have rA : ∀ p, A = some p → r ≠ some p.block := fun p hp e => by
    have := h.neA p hp
    rcases rb _ e with q | q <;> omega
  have rB : ∀ p, B = some p → r ≠ some p.block := fun p hp e => by
    obtain ⟨_, _, q3, q4, q5⟩ := h.neB p hp
    rcases rb _ e with q | q
    · exact q4 q
    · exact q5 q
  have rO : ∀ {X : Option Addr} {c : Nat} {ss : List Sl}, OwnS W base X c ss → ∀ p, X = some p → r ≠ some p.block := fun ho p hp e => by
    have := (ho.block p hp).1
    rcases rb _ e with q | q <;> omega
  exact ⟨h.ext.grownB hg (fun b e => by rcases rb b e with q | q <;> omega), Nat.le_trans h.bas hg.size, l1, l3, lb, h.neA, h.neB, h.fil.grownR hg (fun e => by rcases rb _ e with q | q <;> omega),
    h.own.grownR hg (rO h.own), h.owf.grownR hg (rO h.owf), h.nef, h.mb.trans hb.symm, h.mf.trans hf.symm, fun x hx => (h.okb x hx).grownR hg rB, fun x hx => (h.okf x hx).grownR hg rA, h1, h3⟩
theorem TL.ext' (h : TL w0 W g1 g3 base A B k ks rows per Ab cb bs Af cf fs s) (he : Ext W W') : TL w0 W' g1 g3 base A B k ks rows per Ab cb bs Af cf fs s :=
  h.other (Ext.toGrown he none) (.inl rfl) s rfl rfl (h.rdr.grownR (Ext.toGrown he none) (by simp) (by simp)) (h.lrd.grownR (Ext.toGrown he none) (by simp) (by simp))
theorem TL.num (h : TL w0 W g1 g3 base A B k ks rows per Ab cb bs Af cf fs s) (hu : U8 s.r) (hn : s.r.length ≤ 70000) (most : Nat) (mi : Int) (hmi : mi = (most : Int)) (hm : most ≤ 1000000) :
    Calls Tryz.prog 98 #[.pointer (some ⟨g1 + 1, 0, none⟩), .int .i64 mi] W fun e W' => e = .returned (.int .i64 ((numR s.r s.rf most).1 : Int)) ∧
      TL w0 W' g1 g3 base A B k ks rows per Ab cb bs Af cf fs { s with r := (numR s.r s.rf most).2.1, rf := (numR s.r s.rf most).2.2 } := by
  have l1 := h.lo1
  have l3 := h.lo3
  refine (h.rdr.num (fun p hp => by have := h.neA p hp; omega) hu (by omega) most mi hmi hm).mono ?_
  rintro e W' ⟨rfl, r1, hg⟩
  refine ⟨rfl, h.other hg (.inr (.inl rfl)) _ rfl rfl r1 (h.lrd.grownR hg (fun e => by injection e with e; omega) (fun p hp e => ?_))⟩
  injection e with e
  exact (h.neB p hp).2.2.2.1 e.symm
theorem TL.bytL (h : TL w0 W g1 g3 base A B k ks rows per Ab cb bs Af cf fs s) (hn : s.l.length ≤ 140737488355328) (m : Nat) (hm : m ≤ 1000000) :
    Calls Tryz.prog 101 #[.pointer (some ⟨g3, 0, none⟩), .int .i64 (m : Int)] W fun e W' => ∃ x : Sl, e = .returned (.slice x.A x.body.length x.c) ∧ x.body = (bytR s.l s.lf m).1 ∧ Sok W' B x ∧
      TL w0 W' g1 g3 base A B k ks rows per Ab cb bs Af cf fs { s with l := (bytR s.l s.lf m).2.1, lf := (bytR s.l s.lf m).2.2 } := by
  have l1 := h.lo1
  have l3 := h.lo3
  refine (h.lrd.byt (fun p hp => (h.neB p hp).2.2.2.2) hn m hm).mono ?_
  rintro e W' ⟨x, rfl, x1, x2, x3, x4, x5, r1, hg⟩
  exact ⟨x, rfl, x1, ⟨x2, x3, x4, x5⟩, h.other hg (.inr (.inr rfl)) _ rfl rfl (h.rdr.grownR hg (fun e => by injection e with e; omega) (fun p hp e => by injection e with e; have := h.neA p hp; omega)) r1⟩
theorem TL.bytR' (h : TL w0 W g1 g3 base A B k ks rows per Ab cb bs Af cf fs s) (hn : s.r.length ≤ 70000) (m : Nat) (hm : m ≤ 1000000) :
    Calls Tryz.prog 101 #[.pointer (some ⟨g1 + 1, 0, none⟩), .int .i64 (m : Int)] W fun e W' => ∃ x : Sl, e = .returned (.slice x.A x.body.length x.c) ∧ x.body = (bytR s.r s.rf m).1 ∧ Sok W' A x ∧
      TL w0 W' g1 g3 base A B k ks rows per Ab cb bs Af cf fs { s with r := (bytR s.r s.rf m).2.1, rf := (bytR s.r s.rf m).2.2 } := by
  have l1 := h.lo1
  have l3 := h.lo3
  refine (h.rdr.byt (fun p hp => by have := h.neA p hp; omega) (by omega) m hm).mono ?_
  rintro e W' ⟨x, rfl, x1, x2, x3, x4, x5, r1, hg⟩
  refine ⟨x, rfl, x1, ⟨x2, x3, x4, x5⟩, h.other hg (.inr (.inl rfl)) _ rfl rfl r1 (h.lrd.grownR hg (fun e => by injection e with e; omega) (fun p hp e => ?_))⟩
  injection e with e
  exact (h.neB p hp).2.2.2.1 e.symm
theorem TL.pushB (h : TL w0 W g1 g3 base A B k ks rows per Ab cb bs Af cf fs s) (x : Sl) (hx : Sok W B x) {A' : Option Addr} {c' : Nat} {W5 : World} (ho : OwnS W5 base A' c' (bs ++ [x])) (hg : W.grownBy W5 (Ab.map (·.block))) (hq : ∀ q, A' = some q → W.heap.size ≤ q.block ∨ A' = Ab) :
    TL w0 (W5.setCell ⟨g1, 4, none⟩ (.slice A' (bs.length + 1) c')) g1 g3 base A B k ks rows per A' c' (bs ++ [x]) Af cf fs { s with bs := s.bs ++ [x.body] } := by
  have l1 := h.lo1
  have l3 := h.lo3
  have lb := h.lob
  have rO : ∀ b, Ab.map (·.block) = some b → base ≤ b := fun b e => by
    cases hA : Ab with
    | none => rw [hA] at e; cases e
    | some p => rw [hA] at e; injection e with e; have := (h.own.block p hA).1; rw [← e]; exact this
  have nO : ∀ b, b < base → Ab.map (·.block) ≠ some b := fun b hb e => by have := rO b e; omega
  have nA : ∀ p, A = some p → Ab.map (·.block) ≠ some p.block := fun p hp => nO _ (by have := h.neA p hp; omega)
  have nB : ∀ p, B = some p → Ab.map (·.block) ≠ some p.block := fun p hp => nO _ (h.neB p hp).2.1
  have hg2 := grown_setCell W5 g1 4 (.slice A' (bs.length + 1) c')
  have mA : ∀ p, A = some p → some g1 ≠ some p.block := fun p hp e => by injection e with e; have := h.neA p hp; omega
  have mB : ∀ p, B = some p → some g1 ≠ some p.block := fun p hp e => by injection e with e; exact (h.neB p hp).2.2.1 e.symm
  have mO : ∀ {X : Option Addr} {c : Nat} {ss : List Sl}, OwnS W5 base X c ss → ∀ p, X = some p → some g1 ≠ some p.block := fun hX p hp e => by injection e with e; have := (hX.block p hp).1; omega
  have hof5 : OwnS W5 base Af cf fs := h.owf.grownR hg (fun p hp e => by
    cases hA : Ab with
    | none => rw [hA] at e; cases e
    | some q => rw [hA] at e; injection e with e; exact h.nef q p hA hp e)
  have hF5 := h.fil.grownR hg (nO _ (by omega))
  refine ⟨(h.ext.grownB hg (fun b e => by have := rO b e; omega)).grownB hg2 (fun b e => by injection e with e; omega), Nat.le_trans h.bas (Nat.le_trans hg.size hg2.size), l1, l3, lb, h.neA, h.neB, ?_,
    ho.grownR hg2 (mO ho), hof5.grownR hg2 (mO hof5), fun p q hp hq' e => ?_, by rw [List.map_append, h.mb]; rfl, h.mf, fun y hy => ?_, fun y hy => ((h.okf y hy).grownR hg nA).grownR hg2 mA,
    (h.rdr.grownR hg (nO _ (by omega)) nA).grownR hg2 (fun e => by injection e with e; omega) mA, (h.lrd.grownR hg (nO _ (by omega)) nB).grownR hg2 (fun e => by injection e with e; omega) mB⟩
  · rw [List.length_append, List.length_singleton]
    exact hF5.set4 _
  · rcases hq p hp with q1 | q1
    · have := (h.owf.block q hq').2
      omega
    · exact h.nef p q (q1 ▸ hp) hq' e
  · rcases List.mem_append.1 hy with h1 | h1
    · exact ((h.okb y h1).grownR hg nB).grownR hg2 mB
    · rw [List.mem_singleton.1 h1]
      exact (hx.grownR hg nB).grownR hg2 mB
theorem TL.pushF (h : TL w0 W g1 g3 base A B k ks rows per Ab cb bs Af cf fs s) (x : Sl) (hx : Sok W A x) {A' : Option Addr} {c' : Nat} {W5 : World} (ho : OwnS W5 base A' c' (fs ++ [x])) (hg : W.grownBy W5 (Af.map (·.block))) (hq : ∀ q, A' = some q → W.heap.size ≤ q.block ∨ A' = Af) :
    TL w0 (W5.setCell ⟨g1, 5, none⟩ (.slice A' (fs.length + 1) c')) g1 g3 base A B k ks rows per Ab cb bs A' c' (fs ++ [x]) { s with fs := s.fs ++ [x.body] } := by
  have l1 := h.lo1
  have l3 := h.lo3
  have lb := h.lob
  have rO : ∀ b, Af.map (·.block) = some b → base ≤ b := fun b e => by
    cases hA : Af with
    | none => rw [hA] at e; cases e
    | some p => rw [hA] at e; injection e with e; have := (h.owf.block p hA).1; rw [← e]; exact this
  have nO : ∀ b, b < base → Af.map (·.block) ≠ some b := fun b hb e => by have := rO b e; omega
  have nA : ∀ p, A = some p → Af.map (·.block) ≠ some p.block := fun p hp => nO _ (by have := h.neA p hp; omega)
  have nB : ∀ p, B = some p → Af.map (·.block) ≠ some p.block := fun p hp => nO _ (h.neB p hp).2.1
  have hg2 := grown_setCell W5 g1 5 (.slice A' (fs.length + 1) c')
  have mA : ∀ p, A = some p → some g1 ≠ some p.block := fun p hp e => by injection e with e; have := h.neA p hp; omega
  have mB : ∀ p, B = some p → some g1 ≠ some p.block := fun p hp e => by injection e with e; exact (h.neB p hp).2.2.1 e.symm
  have mO : ∀ {X : Option Addr} {c : Nat} {ss : List Sl}, OwnS W5 base X c ss → ∀ p, X = some p → some g1 ≠ some p.block := fun hX p hp e => by injection e with e; have := (hX.block p hp).1; omega
  have hob5 : OwnS W5 base Ab cb bs := h.own.grownR hg (fun p hp e => by
    cases hA : Af with
    | none => rw [hA] at e; cases e
    | some q => rw [hA] at e; injection e with e; exact h.nef p q hp hA e.symm)
  have hF5 := h.fil.grownR hg (nO _ (by omega))
  refine ⟨(h.ext.grownB hg (fun b e => by have := rO b e; omega)).grownB hg2 (fun b e => by injection e with e; omega), Nat.le_trans h.bas (Nat.le_trans hg.size hg2.size), l1, l3, lb, h.neA, h.neB, ?_,
    hob5.grownR hg2 (mO hob5), ho.grownR hg2 (mO ho), fun p q hp hq' e => ?_, h.mb, by rw [List.map_append, h.mf]; rfl, fun y hy => ((h.okb y hy).grownR hg nB).grownR hg2 mB, fun y hy => ?_,
    (h.rdr.grownR hg (nO _ (by omega)) nA).grownR hg2 (fun e => by injection e with e; omega) mA, (h.lrd.grownR hg (nO _ (by omega)) nB).grownR hg2 (fun e => by injection e with e; omega) mB⟩
  · rw [List.length_append, List.length_singleton]
    exact hF5.set5 _
  · rcases hq q hq' with q1 | q1
    · have := (h.own.block p hp).2
      omega
    · exact h.nef p q hp (q1 ▸ hq') e
  · rcases List.mem_append.1 hy with h1 | h1
    · exact ((h.okf y h1).grownR hg nA).grownR hg2 mA
    · rw [List.mem_singleton.1 h1]
      exact (hx.grownR hg nA).grownR hg2 mA
end
theorem clone_any (A : Option Addr) (n c : Nat) (bs : List Nat) (w : World) (hx : Rd .u8 w A n bs) (hn : n ≤ 180000000000000) :
    Calls Tryz.prog 100 #[.slice A n c] w fun e w' => ∃ A' c', e = .returned (.slice A' n c') ∧ Own .u8 5 w' w.heap.size A' c' bs ∧ Ext w w' := by
  have Hl := Lib.hid hx.len
  cases A with
  | none =>
    have h0 : n = 0 := by
      rcases Nat.eq_zero_or_pos n with h | h
      · exact h
      · obtain ⟨b, o, he, _⟩ := hx.2 h
        cases he
    subst h0
    have hb : bs = [] := List.eq_nil_of_length_eq_zero Hl.out
    subst hb
    have hq := fun w => Lib.run_eql_slice_nil (P := Tryz.prog) w 22 5 none 0 c 0 0 Tryz.underlying22
    go_enter Tryz.func100, Tryz.ntmps100
    go_wp2
    go_ret
    exact ⟨_, _, rfl, Own.nil .., Ext.refl w⟩
  | some a =>
    have hq := fun w => Lib.run_eql_slice_nil (P := Tryz.prog) w 22 5 (some a) n c 0 0 Tryz.underlying22
    have hown := Own.made (base := w.heap.size) .u8 5 w (Nat.le_refl _)
    have hrd := hx.ext ((Ext.refl w).alloc (.cells #[] 5))
    go_enter Tryz.func100, Tryz.ntmps100
    go_wp2_with (at_builtin; refine wpList_pushes (w0 := w) .u8 5 rfl _ _ 22 rfl _ 1 Tryz.underlying22 Tryz.infoU8 rfl hown 0 rfl rfl rfl hrd (by omega) (by omega) ((Ext.refl w).alloc _) (by simp) ?_; intro A1 c1 w1 hown1 hb1 hz1)
    go_ret
    exact ⟨_, _, rfl, by simpa using hown1, hb1⟩
open Go Go.RowKit
section
variable {P : Program} {ops : Array Oper} {Q : Exit → Act → World → Prop} {md : Region.Mode} {S : World → Prop} {late : Nat → Bool}
def wpAnyT (P : Program) (md : Region.Mode) (ops : Array Oper) (Q : Exit → Act → World → Prop) (S : World → Prop) (late : Nat → Bool) : Nat → Array Bool → Act → World → Prop
  | 0, listed, a, w => Region.ready md ops listed = [] ∧ Q .normal a w
  | fuel + 1, listed, a, w =>
    (Region.ready md ops listed = [] → Q .normal a w) ∧
    ∀ i ∈ Region.ready md ops listed, wpOp P ops Q i (fun a' w' => (late i = false → S w') ∧ wpAnyT P md ops Q S late fuel (listed.setIfInBounds i true) a' w') a w
theorem wpAny_of_T : ∀ (fuel : Nat) (listed : Array Bool) (a : Act) (w : World), wpAnyT P md ops Q S late fuel listed a w → wpAny P md ops Q fuel listed a w
  | 0, _, _, _, h => h
  | fuel + 1, _, _, _, h => ⟨h.1, fun i hi => wpOp_mono (fun a' w' h' => wpAny_of_T fuel _ a' w' h'.2) (h.2 i hi)⟩
theorem wp_region_T {id : Nat} {a : Act} {w : World} (hm : P.follows .mixedOrders = true)
    (h : wpAnyT P .any ops Q S late ops.size (Array.replicate ops.size false) a w.drew) : (Code.region id ops true).wp P Q a w :=
  wp_region_any hm (wpAny_of_T _ _ _ _ h)
theorem wpAnyT_done {listed : Array Bool} {a : Act} {w : World} (hr : Region.ready md ops listed = []) (h : Q .normal a w) :
    ∀ fuel, wpAnyT P md ops Q S late fuel listed a w
  | 0 => ⟨hr, h⟩
  | _ + 1 => ⟨fun _ => h, by rw [hr]; simp⟩
theorem wpAnyT_one {i : Nat} {fuel : Nat} {listed : Array Bool} {a : Act} {w : World} (hr : Region.ready md ops listed = [i])
    (h : wpOp P ops Q i (fun a' w' => (late i = false → S w') ∧ wpAnyT P md ops Q S late fuel (listed.setIfInBounds i true) a' w') a w) : wpAnyT P md ops Q S late (fuel + 1) listed a w :=
  ⟨fun h0 => absurd (hr ▸ h0) (by simp), fun j hj => by rw [hr] at hj; rw [List.mem_singleton.1 hj]; exact h⟩
theorem getD_none_false {listed : Array Bool} {i : Nat} (h : listed.getD i true = false) : listed.getD i false = false := by
  rw [Array.getD_eq_getD_getElem?] at h ⊢
  cases hi : listed[i]? with
  | none => rfl
  | some b => rw [hi] at h; exact h
def lateOk (md : Region.Mode) (ops : Array Oper) (late : Nat → Bool) (i : Nat) : Bool :=
  !(late i) && (List.range ops.size).all fun j => !(late j) || (match ops[j]? with
    | some o => o.after.any fun e => Region.binds md e && e.on == i
    | none => true)
theorem lateOk_at {i : Nat} (h : lateOk md ops late i = true) : late i = false ∧ ∀ j o, ops[j]? = some o → late j = true → ∃ e ∈ o.after, Region.binds md e = true ∧ e.on = i := by
  unfold lateOk at h
  rw [Bool.and_eq_true] at h
  refine ⟨by simpa using h.1, fun j o hj hl => ?_⟩
  have hlt : j < ops.size := (Array.getElem?_eq_some_iff.1 hj).1
  have h1 := List.all_eq_true.1 h.2 j (List.mem_range.2 hlt)
  rw [hl, hj] at h1
  simp only [Bool.not_true, Bool.false_or] at h1
  obtain ⟨n, hn, h5⟩ := Array.any_eq_true.1 h1
  rw [Bool.and_eq_true] at h5
  exact ⟨o.after[n], Array.getElem_mem hn, h5.1, by simpa using h5.2⟩
theorem wpAnyT_first {i : Nat} {oi : Oper} {v : Value} (hi : ops[i]? = some oi) (hsel : ∀ (j : Nat) (o : Oper) cs b, ops[j]? = some o → o.op ≠ .select cs b)
    (hQ : ∀ c a w, Q (.panic c) (a.put oi.dst v) w → Q (.panic c) a w) (hlate : lateOk md ops late i = true) :
    ∀ (fuel : Nat) (listed : Array Bool) (a : Act) (w : World),
      (∀ j oj, ops[j]? = some oj → j ≠ i → listed.getD j true = false → (∀ e ∈ oj.after, Region.binds md e = true → e.on ≠ i) → oi.apart ops oj = true) →
      i ∈ Region.ready md ops listed → YieldsIf P ops S oi v a → S w →
      wpAnyT P md ops Q S late fuel (listed.setIfInBounds i true) (a.put oi.dst v) w → wpAnyT P md ops Q S late (fuel + 1) listed a w := by
  obtain ⟨hl0, hl1⟩ := lateOk_at hlate
  intro fuel
  induction fuel with
  | zero =>
    intro listed a w _ hr hy hS H
    refine ⟨fun h => absurd (h ▸ hr) (by simp), fun j hj => ?_⟩
    by_cases hji : j = i
    · subst hji
      exact hy.wpOp hi hS ⟨fun _ => hS, H⟩
    · have := ready_mono hj hji
      rw [H.1] at this
      cases this
  | succ fuel ih =>
    intro listed a w hfree hr hy hS H
    refine ⟨fun h => absurd (h ▸ hr) (by simp), fun j hj => ?_⟩
    by_cases hji : j = i
    · subst hji
      exact hy.wpOp hi hS ⟨fun _ => hS, H⟩
    · have h1 := H.2 j (ready_mono hj hji)
      obtain ⟨hjun, oj, hoj, hall⟩ := mem_ready.1 hj
      have hiu := (mem_ready.1 hr).1
      have hnot : ∀ e ∈ oj.after, Region.binds md e = true → e.on ≠ i := fun e he hb heq => by
        have h2 := hall e he hb
        rw [heq] at h2
        have h3 := getD_none_false hiu
        rw [h3] at h2
        cases h2
      have hlj : late j = false := by
        cases h : late j with
        | false => rfl
        | true =>
          obtain ⟨e, he, hb, hon⟩ := hl1 j oj hoj h
          exact absurd hon (hnot e he hb)
      have h2 := wpOp_putIf hoj (hfree j oj hoj hji hjun hnot) (fun cs b => hsel i oi cs b hi) (fun cs b => hsel j oj cs b hoj) hQ hy h1
      refine wpOp_mono (fun a' w' h3 => ⟨h3.2.1, ih (listed.setIfInBounds j true) a' w' (fun k ok hk hki hun hno => ?_) (ready_mono hr (Ne.symm hji)) h3.1 (h3.2.1 hlj) ?_⟩) h2
      · refine hfree k ok hk hki ?_ hno
        by_cases hjk : j = k
        · subst hjk
          exact hjun
        · rw [getD_set_ne true hjk] at hun
          exact hun
      · rw [Array.setIfInBounds_comm _ _ hji]
        exact h3.2.2
theorem wpAnyT_take {i : Nat} {oi : Oper} {v : Value} {fuel : Nat} {listed : Array Bool} {a : Act} {w : World} (hi : ops[i]? = some oi)
    (hs : Region.noSelect ops = true) (hf : Region.free md ops listed i = true) (hr : (Region.ready md ops listed).contains i = true) (hl : lateOk md ops late i = true)
    (hQ : ∀ c a w, Q (.panic c) (a.put oi.dst v) w → Q (.panic c) a w) (hy : YieldsIf P ops S oi v a) (hS : S w)
    (h : wpAnyT P md ops Q S late fuel (listed.setIfInBounds i true) (a.put oi.dst v) w) : wpAnyT P md ops Q S late (fuel + 1) listed a w :=
  wpAnyT_first hi (Region.noSelect_spec hs) hQ hl fuel listed a w (Region.free_spec hi hf) (by simpa using hr) hy hS h
theorem wpAnyT_step {i : Nat} {oi : Oper} {fuel : Nat} {listed : Array Bool} {a : Act} {w : World} (hr : Region.ready md ops listed = [i]) (hi : ops[i]? = some oi) (hg : oi.guard = none)
    (h : Oper.wp P oi a w (fun a' w' => (late i = false → S w') ∧ wpAnyT P md ops Q S late fuel (listed.setIfInBounds i true) a' w') Q) : wpAnyT P md ops Q S late (fuel + 1) listed a w := by
  refine wpAnyT_one hr ?_
  unfold wpOp
  simp only [hi]
  rw [if_pos (by simp [Region.wanted, hg])]
  exact .inl h
end
end Go.Proofs.YthibbgmicmfkfaaGreat
