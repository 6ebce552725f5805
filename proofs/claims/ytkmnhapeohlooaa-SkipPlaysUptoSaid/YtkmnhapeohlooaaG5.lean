import Derived.Test.YtkmnhapeohlooaaG4
import Derived.Test.YtkmnhapeohlooaaG2
import Derived.OrdersHeld
import Derived.Test.YtkmnhapeohlooaaG1

/-
  One element of several cells appended to a row of the call's own, whatever world it is done in; where the row then lies.
-/
namespace Go.Proofs.Ytkmnhapeohlooaa
open Go.RowKit

theorem run_pushK {P : Program} {w : World} (e t ty : TypeId) (z : Value) (sz bytes : Nat) (ht : P.underlying t = some (.slice e)) (hi : (P.info? e).map (fun i => (i.zero, i.size, i.bytes)) = some (some z, sz, bytes)) (hzs : z.cells.size = sz)
    {base : Nat} {A : Option Addr} {c : Nat} {vs : List Value} (us : List Value) (hus : us.length = sz) (hu1 : ∀ u ∈ us, u.oneCell' = true) (n : Nat) (hown : w.ownsRow base e sz (.slice A n c) n vs) {g0 : Nat} (hg0 : w.heap[g0]? = some (.cells us.toArray e))
    (hlen : ((n + 1) + (n + 1) / 4 + 192) * bytes ≤ 281474976710656) (hby : 0 < bytes) (hbase : base ≤ w.heap.size) :
    ∃ A' c' w', (Builtin.append_ #[t, t] ty #[.slice A n c, .slice (some ⟨g0, 0, none⟩) 1 1]).run P w = .ok (.slice A' (n + 1) c') w' ∧
      w'.ownsRow base e sz (.slice A' (n + 1) c') (n + 1) (vs ++ us) ∧ (A' = A ∧ w.grownBy w' (A.map (·.block)) ∨ Ext w w' ∧ ∀ q, A' = some q → w.heap.size ≤ q.block) ∧ base ≤ w'.heap.size := by
  obtain ⟨i, hi0, hz, hsz, hbs⟩ := info_parts hi
  have hvl : vs.length = n * sz := hown.1
  have hle : n + 1 ≤ 281474976710656 := Nat.le_trans (Nat.le_trans (by omega) (Nat.le_mul_of_pos_right ((n + 1) + (n + 1) / 4 + 192) hby)) hlen
  have hcell : ∀ j u, us[j]? = some u → w.cell? ((⟨g0, 0, none⟩ : Addr).add j) = some u := by
    intro j u hj
    rw [show (⟨g0, 0, none⟩ : Addr).add j = ⟨g0, j, none⟩ from by unfold Addr.add; split <;> simp_all]
    rw [cell_of_row w g0 j _ _ (0, 0) hg0, List.getElem?_toArray]
    exact hj
  have hul : us.length = 1 * i.size := by rw [hus, hsz]; omega
  have hlen2 : (vs ++ us).length = (n + 1) * sz := by rw [List.length_append, hvl, hus, Nat.add_mul]; omega
  have hnew : ∀ (cap : Nat) (cur : Array Value), n + 1 ≤ cap → cap ≤ maxLen → cur.size = cap * sz → cur.toList.take ((n + 1) * sz) = vs ++ us →
      (w.drew.alloc (.cells cur e)).ownsRow base e sz (.slice (some ⟨w.heap.size, 0, none⟩) (n + 1) cap) (n + 1) (vs ++ us) ∧ Ext w (w.drew.alloc (.cells cur e)) := by
    intro cap cur hc hm hcs htk
    exact ⟨⟨hlen2, .inr ⟨w.heap.size, cap, cur, rfl, hbase, heap_alloc_new w.drew _, hc, hm, hcs, htk⟩⟩, (Ext.refl w).drew.alloc _⟩
  have hzc : ∀ cap, n + 1 ≤ cap → (vs.toArray ++ us.toArray ++ Builtin.zeroCells z.cells (cap - (n + 1))).size = cap * sz := by
    intro cap hc
    simp only [Array.size_append, List.size_toArray, size_zeroCells, hzs, hvl, hus]
    obtain ⟨d, rfl⟩ : ∃ d, cap = n + 1 + d := ⟨cap - (n + 1), by omega⟩
    rw [show n + 1 + d - (n + 1) = d by omega]
    simp only [Nat.add_mul, Nat.one_mul]
  have hzt : ∀ k : Array Value, (vs.toArray ++ us.toArray ++ k).toList.take ((n + 1) * sz) = vs ++ us := by
    intro k
    simp only [Array.toList_append, List.append_assoc]
    rw [← List.append_assoc, ← hlen2]
    exact List.take_left
  rcases hown.2 with ⟨hv, h0⟩ | ⟨g, cap, cur, hv, hbg, hh, hnc, hcm, hcs, htake⟩
  · injection hv with hA hl hc
    subst hA
    subst hc
    subst h0
    have hx0 : vs = [] := List.eq_nil_of_length_eq_zero (by rw [hvl]; omega)
    subst hx0
    have hr := run_append_nil (P := P) w t ty e i z ht hi0 hz ⟨g0, 0, none⟩ 1 1 us hul hcell (by omega) (by omega) (by rw [hbs]; simp at hlen; omega)
    have hge := grownCap_ge w 1 0 e
    obtain ⟨ho1, he1⟩ := hnew (grownCap w 1 0 e) (us.toArray ++ Builtin.zeroCells z.cells (grownCap w 1 0 e - 1)) (by simpa using hge) (grownCap_le_maxLen w 1 0 e (by simp [maxLen])) (by have := hzc (grownCap w 1 0 e) (by simpa using hge); simpa using this) (by have := hzt (Builtin.zeroCells z.cells (grownCap w 1 0 e - 1)); simpa using this)
    exact ⟨_, _, _, by simpa using hr, ho1, .inr ⟨he1, fun q hq => by injection hq with hq; subst hq; exact Nat.le_refl _⟩, Nat.le_trans hbase he1.size⟩
  · injection hv with hA hl hc
    subst hA
    subst hc
    by_cases hroom : n + 1 ≤ c
    · have hr := run_append_room (P := P) w t ty e i ht hi0 g n c cur hh ⟨g0, 0, none⟩ 1 1 us hul hcell hu1 hroom (by
        rw [hsz, hus, hcs]
        have := Nat.mul_le_mul_right sz hroom
        rw [Nat.add_mul] at this
        omega)
      refine ⟨_, _, _, hr, ⟨hlen2, .inr ⟨g, c, _, rfl, hbg, setRow_heap w g cur _ e _ hh, hroom, hcm, ?_, ?_⟩⟩, .inl ⟨rfl, ?_⟩, ?_⟩
      · have := Nat.mul_le_mul_right sz hroom
        rw [Nat.add_mul] at this
        simp only [List.size_toArray, List.length_append, List.length_take, List.length_drop, Array.length_toList, hsz, hus]
        omega
      · rw [hsz, htake, ← hlen2]
        exact List.take_left
      · exact ⟨rfl, rfl, rfl, by simp, fun j hj hne => setRow_other w g j _ (fun e => hne (by simp [e]))⟩
      · simp; omega
    · have holds : ∀ j u, vs[j]? = some u → w.cell? ((⟨g, 0, none⟩ : Addr).add j) = some u := World.ownsRow.cells hown (g := g) rfl
      have hr := run_append_grow (P := P) w t ty e i z ht hi0 hz ⟨g, 0, none⟩ n c _ (by rw [hsz]; exact hvl) holds ⟨g0, 0, none⟩ 1 1 us hul hcell (by omega) (by omega) (growslice_fits_wide (by omega) (by rw [hbs]; exact hlen))
      have hge := grownCap_ge w (n + 1) c e
      obtain ⟨ho1, he1⟩ := hnew (grownCap w (n + 1) c e) (vs.toArray ++ us.toArray ++ Builtin.zeroCells z.cells (grownCap w (n + 1) c e - (n + 1))) hge (grownCap_le_maxLen w _ _ e (by unfold maxLen; omega)) (hzc _ hge) (hzt _)
      exact ⟨_, _, _, hr, ho1, .inr ⟨he1, fun q hq => by injection hq with hq; subst hq; exact Nat.le_refl _⟩, Nat.le_trans hbase he1.size⟩

/-- 'append(out, x)', as one operation. -/
theorem wp_pushK {P : Program} {T : Type} {w : World} {o : Oper} {a : Act} {K : Act → World → Prop} {Q : Exit → Act → World → Prop} (s : Shape T) (x : T) (e : TypeId) (v y : Operand) (t : TypeId)
    (ho : o.op = .call { callee := .builtin .append, args := #[v, y], argTypes := #[t, t] })
    (z : Value) (bytes : Nat) (ht : P.underlying t = some (.slice e)) (hi : (P.info? e).map (fun i => (i.zero, i.size, i.bytes)) = some (some z, s.sz, bytes)) (hzs : z.cells.size = s.sz)
    {base : Nat} {A : Option Addr} {c : Nat} {xs : List T} (hown : OwnG s e w base A c xs) (n : Nat) (hn : xs.length = n) (hs : a.eval v = .slice A n c)
    {g : Nat} (hy : a.eval y = .slice (some ⟨g, 0, none⟩) 1 1) (hg : w.heap[g]? = some (.cells (s.cells x).toArray e))
    (hlen : ((n + 1) + (n + 1) / 4 + 192) * bytes ≤ 281474976710656) (hby : 0 < bytes) (hbase : base ≤ w.heap.size)
    (h : ∀ A' c' w', OwnG s e w' base A' c' (xs ++ [x]) → (A' = A ∧ w.grownBy w' (A.map (·.block)) ∨ Ext w w' ∧ ∀ q, A' = some q → w.heap.size ≤ q.block) → base ≤ w'.heap.size → K (a.put o.dst (.slice A' (n + 1) c')) w') :
    Oper.wp P o a w K Q := by
  subst hn
  obtain ⟨A', c', w', hr, h2, h3, h4⟩ := run_pushK (P := P) (w := w) e t o.type z s.sz bytes ht hi hzs (s.cells x) (s.len x) (s.one x) xs.length hown hg hlen hby hbase
  unfold Oper.wp execOp
  simp only [ho, resolve, invoke, builtin, Sem.run_bind, Sem.run_pure, Result.andThen_ok, List.map_toArray, List.map_cons, List.map_nil, hs, hy, hr]
  refine h A' c' w' ?_ h3 h4
  unfold OwnG
  rw [List.length_append, List.length_singleton, Shape.all_snoc]
  exact h2

end Go.Proofs.Ytkmnhapeohlooaa

/-
  A region that draws its order and stores where it has loaded: a condition on the world that is owed behind those operations alone that do not wait for the load.
-/
namespace Go.Proofs.Ytkmnhapeohlooaa
open Go Go.RowKit

section
variable {P : Program} {ops : Array Oper} {Q : Exit → Act → World → Prop} {md : Region.Mode} {S : World → Prop} {late : Nat → Bool}

/-- Whatever order is picked from here on; behind each operation that is not a late one S holds. -/
def wpAnyT (P : Program) (md : Region.Mode) (ops : Array Oper) (Q : Exit → Act → World → Prop) (S : World → Prop) (late : Nat → Bool) : Nat → Array Bool → Act → World → Prop
  | 0, listed, a, w => Region.ready md ops listed = [] ∧ Q .normal a w
  | fuel + 1, listed, a, w =>
    (Region.ready md ops listed = [] → Q .normal a w) ∧
    ∀ i ∈ Region.ready md ops listed, wpOp P ops Q i (fun a' w' => (late i = false → S w') ∧ wpAnyT P md ops Q S late fuel (listed.setIfInBounds i true) a' w') a w

theorem wpAny_of_T : ∀ (fuel : Nat) (listed : Array Bool) (a : Act) (w : World), wpAnyT P md ops Q S late fuel listed a w → wpAny P md ops Q fuel listed a w
  | 0, _, _, _, h => h
  | fuel + 1, _, _, _, h => ⟨h.1, fun i hi => wpOp_mono (fun a' w' h' => wpAny_of_T fuel _ a' w' h'.2) (h.2 i hi)⟩

theorem wp_region_T {id : Nat} {a : Act} {w : World} (hm : P.follows .mixedOrders = true)
    (h : wpAnyT P .any ops Q S late ops.size (Array.replicate ops.size false) a w.drew) : (Code.region id ops true).wp P Q a w :=
  wp_region_any hm (wpAny_of_T _ _ _ _ h)

theorem wpAnyT_done {listed : Array Bool} {a : Act} {w : World} (hr : Region.ready md ops listed = []) (h : Q .normal a w) :
    ∀ fuel, wpAnyT P md ops Q S late fuel listed a w
  | 0 => ⟨hr, h⟩
  | _ + 1 => ⟨fun _ => h, by rw [hr]; simp⟩

/-- One alone may come up. -/
theorem wpAnyT_one {i : Nat} {fuel : Nat} {listed : Array Bool} {a : Act} {w : World} (hr : Region.ready md ops listed = [i])
    (h : wpOp P ops Q i (fun a' w' => (late i = false → S w') ∧ wpAnyT P md ops Q S late fuel (listed.setIfInBounds i true) a' w') a w) : wpAnyT P md ops Q S late (fuel + 1) listed a w :=
  ⟨fun h0 => absurd (hr ▸ h0) (by simp), fun j hj => by rw [hr] at hj; rw [List.mem_singleton.1 hj]; exact h⟩

theorem getD_none_false {listed : Array Bool} {i : Nat} (h : listed.getD i true = false) : listed.getD i false = false := by
  rw [Array.getD_eq_getD_getElem?] at h ⊢
  cases hi : listed[i]? with
  | none => rfl
  | some b => rw [hi] at h; exact h

/-- Each late operation waits for number i. -/
def lateOk (md : Region.Mode) (ops : Array Oper) (late : Nat → Bool) (i : Nat) : Bool :=
  !(late i) && (List.range ops.size).all fun j => !(late j) || (match ops[j]? with
    | some o => o.after.any fun e => Region.binds md e && e.on == i
    | none => true)

theorem lateOk_at {i : Nat} (h : lateOk md ops late i = true) : late i = false ∧ ∀ j o, ops[j]? = some o → late j = true → ∃ e ∈ o.after, Region.binds md e = true ∧ e.on = i := by
  unfold lateOk at h
  rw [Bool.and_eq_true] at h
  refine ⟨by simpa using h.1, fun j o hj hl => ?_⟩
  have hlt : j < ops.size := (Array.getElem?_eq_some_iff.1 hj).1
  have h1 := List.all_eq_true.1 h.2 j (List.mem_range.2 hlt)
  rw [hl, hj] at h1
  simp only [Bool.not_true, Bool.false_or] at h1
  obtain ⟨n, hn, h5⟩ := Array.any_eq_true.1 h1
  rw [Bool.and_eq_true] at h5
  exact ⟨o.after[n], Array.getElem_mem hn, h5.1, by simpa using h5.2⟩

theorem wpAnyT_first {i : Nat} {oi : Oper} {v : Value} (hi : ops[i]? = some oi) (hsel : ∀ (j : Nat) (o : Oper) cs b, ops[j]? = some o → o.op ≠ .select cs b)
    (hQ : ∀ c a w, Q (.panic c) (a.put oi.dst v) w → Q (.panic c) a w) (hlate : lateOk md ops late i = true) :
    ∀ (fuel : Nat) (listed : Array Bool) (a : Act) (w : World),
      (∀ j oj, ops[j]? = some oj → j ≠ i → listed.getD j true = false → (∀ e ∈ oj.after, Region.binds md e = true → e.on ≠ i) → oi.apart ops oj = true) →
      i ∈ Region.ready md ops listed → YieldsIf P ops S oi v a → S w →
      wpAnyT P md ops Q S late fuel (listed.setIfInBounds i true) (a.put oi.dst v) w → wpAnyT P md ops Q S late (fuel + 1) listed a w := by
  obtain ⟨hl0, hl1⟩ := lateOk_at hlate
  intro fuel
  induction fuel with
  | zero =>
    intro listed a w _ hr hy hS H
    refine ⟨fun h => absurd (h ▸ hr) (by simp), fun j hj => ?_⟩
    by_cases hji : j = i
    · subst hji
      exact hy.wpOp hi hS ⟨fun _ => hS, H⟩
    · have := ready_mono hj hji
      rw [H.1] at this
      cases this
  | succ fuel ih =>
    intro listed a w hfree hr hy hS H
    refine ⟨fun h => absurd (h ▸ hr) (by simp), fun j hj => ?_⟩
    by_cases hji : j = i
    · subst hji
      exact hy.wpOp hi hS ⟨fun _ => hS, H⟩
    · have h1 := H.2 j (ready_mono hj hji)
      obtain ⟨hjun, oj, hoj, hall⟩ := mem_ready.1 hj
      have hiu := (mem_ready.1 hr).1
      have hnot : ∀ e ∈ oj.after, Region.binds md e = true → e.on ≠ i := fun e he hb heq => by
        have h2 := hall e he hb
        rw [heq] at h2
        have h3 := getD_none_false hiu
        rw [h3] at h2
        cases h2
      have hlj : late j = false := by
        cases h : late j with
        | false => rfl
        | true =>
          obtain ⟨e, he, hb, hon⟩ := hl1 j oj hoj h
          exact absurd hon (hnot e he hb)
      have h2 := wpOp_putIf hoj (hfree j oj hoj hji hjun hnot) (fun cs b => hsel i oi cs b hi) (fun cs b => hsel j oj cs b hoj) hQ hy h1
      refine wpOp_mono (fun a' w' h3 => ⟨h3.2.1, ih (listed.setIfInBounds j true) a' w' (fun k ok hk hki hun hno => ?_) (ready_mono hr (Ne.symm hji)) h3.1 (h3.2.1 hlj) ?_⟩) h2
      · refine hfree k ok hk hki ?_ hno
        by_cases hjk : j = k
        · subst hjk
          exact hjun
        · rw [getD_set_ne true hjk] at hun
          exact hun
      · rw [Array.setIfInBounds_comm _ _ hji]
        exact h3.2.2

theorem wpAnyT_take {i : Nat} {oi : Oper} {v : Value} {fuel : Nat} {listed : Array Bool} {a : Act} {w : World} (hi : ops[i]? = some oi)
    (hs : Region.noSelect ops = true) (hf : Region.free md ops listed i = true) (hr : (Region.ready md ops listed).contains i = true) (hl : lateOk md ops late i = true)
    (hQ : ∀ c a w, Q (.panic c) (a.put oi.dst v) w → Q (.panic c) a w) (hy : YieldsIf P ops S oi v a) (hS : S w)
    (h : wpAnyT P md ops Q S late fuel (listed.setIfInBounds i true) (a.put oi.dst v) w) : wpAnyT P md ops Q S late (fuel + 1) listed a w :=
  wpAnyT_first hi (Region.noSelect_spec hs) hQ hl fuel listed a w (Region.free_spec hi hf) (by simpa using hr) hy hS h

/-- The one that may come up, carried out. -/
theorem wpAnyT_step {i : Nat} {oi : Oper} {fuel : Nat} {listed : Array Bool} {a : Act} {w : World} (hr : Region.ready md ops listed = [i]) (hi : ops[i]? = some oi) (hg : oi.guard = none)
    (h : Oper.wp P oi a w (fun a' w' => (late i = false → S w') ∧ wpAnyT P md ops Q S late fuel (listed.setIfInBounds i true) a' w') Q) : wpAnyT P md ops Q S late (fuel + 1) listed a w := by
  refine wpAnyT_one hr ?_
  unfold wpOp
  simp only [hi]
  rw [if_pos (by simp [Region.wanted, hg])]
  exact .inl h

end
end Go.Proofs.Ytkmnhapeohlooaa

/-
  Layer 18: a new key put in.
-/
namespace Go.Proofs.Ytkmnhapeohlooaa
open Go.RowKit
set_option maxRecDepth 100000

/-- Outside of X, nothing that was there has changed. -/
structure FrX (X : Nat → Prop) (w w' : World) : Prop where
  os : w'.os = w.os
  tape : w'.tape = w.tape
  output : w'.output = w.output
  size : w.heap.size ≤ w'.heap.size
  block : ∀ i, i < w.heap.size → ¬ X i → w'.heap[i]? = w.heap[i]?
theorem FrX.refl (X : Nat → Prop) (w : World) : FrX X w w := ⟨rfl, rfl, rfl, Nat.le_refl _, fun _ _ _ => rfl⟩
theorem Ext.frX {a b : World} (h : Ext a b) (X : Nat → Prop) : FrX X a b := ⟨h.os, h.tape, h.output, h.size, fun i hi _ => h.block i hi⟩
theorem FrX.trans {X : Nat → Prop} {a b c : World} (h : FrX X a b) (k : FrX X b c) : FrX X a c :=
  ⟨k.os.trans h.os, k.tape.trans h.tape, k.output.trans h.output, Nat.le_trans h.size k.size, fun i hi hx => (k.block i (Nat.lt_of_lt_of_le hi h.size) hx).trans (h.block i hi hx)⟩
theorem grownBy_frX {X : Nat → Prop} {g : Nat} {a b : World} (h : a.grownBy b (some g)) (hg : X g ∨ a.heap.size ≤ g) : FrX X a b :=
  ⟨h.os, h.tape, h.output, h.size, fun i hi hx => h.block i hi (fun e => by injection e with e; subst e; rcases hg with q | q; exact hx q; omega)⟩

theorem shN_cells (n : Nd) : shN.cells n = n.key.v :: .int .i64 n.v :: twr n.nx := rfl

/-- A new node behind the others. -/
structure Put1 (ns ns' : List Nd) (t : List Nat) (v : Int) : Prop where
  len : ns'.length = ns.length + 1
  kn : kb ns' ns.length = t
  ko : ∀ i, i < ns.length → kb ns' i = kb ns i
  vn : vl ns' ns.length = v
  vo : ∀ i, i < ns.length → vl ns' i = vl ns i

theorem Try.infoNd : (Try.prog.info? 110).map (fun i => (i.zero, i.size, i.bytes)) = some (some (.agg #[.slice none 0 0, .int .i64 0, .int .i64 0, .int .i64 0, .int .i64 0, .int .i64 0, .int .i64 0, .int .i64 0, .int .i64 0, .int .i64 0, .int .i64 0, .int .i64 0, .int .i64 0, .int .i64 0]), 14, 128) := by kernel_rfl

theorem own_ty {T : Type} {s : Shape T} {e : TypeId} {w : World} {base c g : Nat} {A : Option Addr} {xs : List T} {cs : Array Value} {t : TypeId} {fr : Nat × Nat} (h : OwnG s e w base A c xs) (hg : w.heap[g]? = some (.cells cs t fr)) (hT : t ≠ e) : ∀ a, A = some a → a.block ≠ g := by
  rintro a rfl q
  rcases h.2 with ⟨hv, _⟩ | ⟨b, cap, cur, hv, _, hh, _⟩
  · cases hv
  · injection hv with hA
    injection hA with hA
    subst hA
    simp only at q
    subst q
    rw [hh] at hg
    injection hg with hg
    injection hg with _ hg
    exact hT hg.symm

theorem twr_setL {f : Nat → Nat} {l : Nat} (hl : l < 12) (x : Nat) : (twr f).set l (.int .i64 (x : Int)) = twr (fun k => if k = l then x else f k) := by
  have := twr_set (a := f) hl x
  have h2 := congrArg Array.toList this
  simpa using h2
theorem shN_set (d : Nd) {l : Nat} (hl : l < 12) (x : Nat) : shN.cells { d with nx := fun k => if k = l then x else d.nx k } = (shN.cells d).set (2 + l) (.int .i64 (x : Int)) := by
  rw [shN_cells, shN_cells, show 2 + l = l + 1 + 1 by omega, List.set_cons_succ, List.set_cons_succ, twr_setL hl]
theorem nat_set_eq {ns : List Nd} {j : Nat} (h : j < ns.length) (y : Nd) : nat_ (ns.set j y) j = y := by
  unfold nat_
  rw [List.getD, List.getElem?_set_self h]
  rfl
theorem nat_set_ne {ns : List Nd} {i j : Nat} (h : i ≠ j) (y : Nd) : nat_ (ns.set j y) i = nat_ ns i := by
  unfold nat_
  rw [List.getD, List.getElem?_set_ne (fun e => h e.symm)]
  rfl
theorem nat_app_lt {ns : List Nd} {i : Nat} (h : i < ns.length) (y : Nd) : nat_ (ns ++ [y]) i = nat_ ns i := by
  unfold nat_
  rw [List.getD, List.getElem?_append_left h]
  rfl
theorem nat_app_eq (ns : List Nd) (y : Nd) : nat_ (ns ++ [y]) ns.length = y := by
  unfold nat_
  rw [List.getD, List.getElem?_append_right (Nat.le_refl _)]
  simp

/-- While a new node is put in: the levels below lv are done. -/
structure UpdAt (ns ms : List Nd) (a : Nat → Nat) (n lv : Nat) : Prop where
  len : ms.length = ns.length
  key : ∀ i, i < ns.length → (nat_ ms i).key = (nat_ ns i).key ∧ (nat_ ms i).v = (nat_ ns i).v ∧ (nat_ ms i).h = (nat_ ns i).h
  nx : ∀ i k, i < ns.length → k < 12 → nxt ms i k = if k < lv ∧ i = a k then n else nxt ns i k
theorem UpdAt.zero (ns : List Nd) (a : Nat → Nat) (n : Nat) : UpdAt ns ns a n 0 := ⟨rfl, fun i _ => ⟨rfl, rfl, rfl⟩, fun i k _ _ => by rw [if_neg (by omega)]⟩
theorem UpdAt.step {ns ms : List Nd} {a : Nat → Nat} {n lv : Nat} (h : UpdAt ns ms a n lv) (ha : a lv < ns.length) : UpdAt ns (ms.set (a lv) { nat_ ms (a lv) with nx := fun k => if k = lv then n else nxt ms (a lv) k }) a n (lv + 1) := by
  refine ⟨by rw [List.length_set]; exact h.len, fun i hi => ?_, fun i k hi hk => ?_⟩
  · by_cases e : i = a lv
    · subst e
      rw [nat_set_eq (by rw [h.len]; exact ha)]
      exact h.key _ hi
    · rw [nat_set_ne e]
      exact h.key i hi
  · unfold nxt
    by_cases e : i = a lv
    · subst e
      rw [nat_set_eq (by rw [h.len]; exact ha)]
      show (if k = lv then n else nxt ms (a lv) k) = _
      by_cases q : k = lv
      · subst q; rw [if_pos rfl, if_pos ⟨by omega, rfl⟩]
      · rw [if_neg q, h.nx _ k hi hk]
        by_cases q2 : k < lv ∧ a lv = a k
        · rw [if_pos q2, if_pos ⟨by omega, q2.2⟩]
        · rw [if_neg q2, if_neg (fun q3 => q2 ⟨by omega, q3.2⟩)]; rfl
    · rw [nat_set_ne e]
      have := h.nx i k hi hk
      unfold nxt at this
      rw [this]
      by_cases q2 : k < lv ∧ i = a k
      · rw [if_pos q2, if_pos ⟨by omega, q2.2⟩]
      · rw [if_neg q2, if_neg (fun q3 => by
          by_cases q4 : k = lv
          · subst q4; exact e q3.2
          · exact q2 ⟨by omega, q3.2⟩)]

/-- Two blocks alone have changed. -/
structure Ins (w3 ws : World) (b F : Nat) : Prop where
  os : ws.os = w3.os
  tape : ws.tape = w3.tape
  output : ws.output = w3.output
  size : ws.heap.size = w3.heap.size
  blk : ∀ i, i ≠ b → i ≠ F → ws.heap[i]? = w3.heap[i]?
theorem Ins.refl (w : World) (b F : Nat) : Ins w w b F := ⟨rfl, rfl, rfl, rfl, fun _ _ _ => rfl⟩
theorem Ins.set {w3 ws : World} {b F : Nat} (h : Ins w3 ws b F) {g : Nat} (hg : g = b ∨ g = F) (o : Nat) (u : Value) : Ins w3 (ws.setCell ⟨g, o, none⟩ u) b F :=
  ⟨h.os, h.tape, h.output, by simpa [World.setCell] using h.size, fun i h1 h2 => (Below.heap_setCell ws _ u i (by rcases hg with rfl | rfl; exact h1; exact h2)).trans (h.blk i h1 h2)⟩
theorem grown_setCellS (w : World) (g i : Nat) (v : Value) : w.grownBy (w.setCell ⟨g, i, none⟩ v) (some g) :=
  ⟨rfl, rfl, rfl, by simp [World.setCell], fun k _ hne => Below.heap_setCell w _ v k (fun e => hne (by rw [e]))⟩

theorem ins_end {w Wf : World} {X : Nat → Prop} {base sb H b : Nat} {ns ms : List Nd} {hs : List Int} {a : Nat → Nat} {g : Nat} {t : List Nat} {v : Int} {fz : Nd} {A1 A5 Ah : Option Addr} {m c5 ch : Nat} (h : SL w X base sb ns hs H) (hXb : X b) (hXh : ∀ p, Ah = some p → X p.block)
    (hos : Wf.os = w.os) (htp : Wf.tape = w.tape) (hou : Wf.output = w.output) (hsz : w.heap.size ≤ Wf.heap.size) (q1 : ∀ q, q < w.heap.size → q ≠ b → q ≠ sb → Wf.heap[q]? = w.heap[q]?) (_hbs : b ≠ sb) (hkb : ∃ cur fr, w.heap[b]? = some (.cells cur 110 fr)) (hks : ∃ cur fr, w.heap[sb]? = some (.cells cur 95 fr))
    (sbF : Wf.heap[sb]? = some (.cells #[.slice A5 (ns.length + 1) c5, .slice Ah hs.length ch, .int .i64 ((max H g : Nat) : Int)] 95 (0, 0))) (row : OwnG shN 110 Wf base A5 c5 (ms ++ [fz])) (loc : ∀ p, A5 = some p → p.block = b ∨ w.heap.size ≤ p.block) (hts : OwnG shZ 3 Wf base Ah ch hs)
    (hrd : Rd .u8 Wf A1 m t) (hu : U8 t) (hm : m ≤ 140737488355328) (hA1 : ∀ p, A1 = some p → w.heap.size ≤ p.block ∧ p.block < Wf.heap.size ∧ ∃ cur fr, Wf.heap[p.block]? = some (.cells cur 5 fr))
    (hU : UpdAt ns ms a ns.length g) (fk : fz.key = ⟨A1, m, t⟩) (fv : fz.v = v) (fh : fz.h = g) (fn : ∀ k, k < 12 → fz.nx k = if k < g then nxt ns (a k) k else 0) (hg1 : 1 ≤ g ∧ g ≤ 12)
    (ha : ∀ l, l < 12 → At ns.length (kb ns) (hg ns) l t (a l)) (hnew : ∀ i, 1 ≤ i → i < ns.length → kb ns i ≠ t) :
    ∃ ns', SL Wf (fun q => X q ∨ (w.heap.size ≤ q ∧ q < Wf.heap.size)) base sb ns' hs (max H g) ∧ Put1 ns ns' t v ∧ FrX X w Wf := by
  have hml := hU.len
  have lt' : ∀ i, i < ns.length → nat_ (ms ++ [fz]) i = nat_ ms i := fun i hi => nat_app_lt (by rw [hml]; exact hi) _
  have eq' : nat_ (ms ++ [fz]) ns.length = fz := by rw [← hml]; exact nat_app_eq _ _
  have kn : kb (ms ++ [fz]) ns.length = t := by unfold kb; rw [eq', fk]
  have ko : ∀ i, i < ns.length → kb (ms ++ [fz]) i = kb ns i := fun i hi => by unfold kb; rw [lt' i hi, (hU.key i hi).1]
  have hlen : (ms ++ [fz]).length = ns.length + 1 := by rw [List.length_append, hml]; rfl
  have hbase : base ≤ w.heap.size := by have := h.bd sb h.sbX; omega
  refine ⟨ms ++ [fz], ⟨⟨A5, c5, Ah, ch, by rw [hlen]; exact sbF, row, hts, fun p hp => ?_, fun p hp => .inl (hXh p hp)⟩, .inl h.sbX, fun q hq => ?_, fun i i1 i2 => ?_, ?_, h.hok⟩, ⟨hlen, kn, ko, by unfold vl; rw [eq', fv], fun i hi => by unfold vl; rw [lt' i hi, (hU.key i hi).2.1]⟩, hos, htp, hou, hsz, fun q hq hx => q1 q hq (fun e => hx (by rw [e]; exact hXb)) (fun e => hx (by rw [e]; exact h.sbX))⟩
  · rcases loc p hp with e | e
    · exact .inl (by rw [e]; exact hXb)
    · exact .inr ⟨e, (row.block p hp).2⟩
  · rcases hq with hq | hq
    · have := h.bd q hq; omega
    · omega
  · rw [hlen] at i2
    by_cases e : i = ns.length
    · subst e
      rw [eq', fk]
      have hl := hrd.len
      subst hl
      exact ⟨hrd, hu, hm, rfl, fun p hp => .inr ⟨(hA1 p hp).1, (hA1 p hp).2.1⟩, fun p hp => (hA1 p hp).2.2⟩
    · have hi : i < ns.length := by omega
      rw [lt' i hi, (hU.key i hi).1]
      have hk := h.keys i i1 hi
      have hblk : ∀ p, (nat_ ns i).key.A = some p → Wf.heap[p.block]? = w.heap[p.block]? := fun p hp => by
        obtain ⟨cur, fr, hc⟩ := hk.ty p hp
        obtain ⟨cb, fb, hcb⟩ := hkb
        obtain ⟨cs, fs, hcs⟩ := hks
        refine q1 _ (h.bd _ (hk.blk p hp)).2 (fun e => ?_) (fun e => ?_)
        · rw [e, hcb] at hc
          injection hc with hc
          injection hc with _ hc
          exact absurd hc (by decide)
        · rw [e, hcs] at hc
          injection hc with hc
          injection hc with _ hc
          exact absurd hc (by decide)
      exact ⟨hk.rd.blk hblk hsz, hk.u8, hk.len, hk.cap, fun p hp => .inl (hk.blk p hp), fun p hp => by obtain ⟨cur, fr, hc⟩ := hk.ty p hp; exact ⟨cur, fr, (hblk p hp).trans hc⟩⟩
  · rw [hlen]
    refine sk_put h.sk hnew hg1.1 hg1.2 ha kn ko (by unfold hg; rw [eq', fh]) (fun i hi => by unfold hg; rw [lt' i hi, (hU.key i hi).2.2]) (fun l hl => ?_) (fun l hl => ?_) (fun i l hi hl hc => ?_)
    · unfold nxt
      rw [eq', fn l (by omega), if_pos hl]
      rfl
    · have hal := (ha l (by omega)).lt
      have := hU.nx (a l) l hal (by omega)
      unfold nxt at this ⊢
      rw [lt' _ hal, this, if_pos ⟨hl, rfl⟩]
    · have := hU.nx i l hi hl
      unfold nxt at this ⊢
      rw [lt' i hi, this, if_neg hc]

section
variable {w : World} {X : Nat → Prop} {base sb H : Nat} {ns : List Nd} {hs : List Int} (h : SL w X base sb ns hs H)
include h

set_option maxHeartbeats 3200000 in
theorem sinsert_any (hb : ns.length ≤ 1099511627776) (A : Option Addr) (m c : Nat) (t : List Nat) (v : Int) (ht : Rd .u8 w A m t) (hu : U8 t) (hm : m ≤ 140737488355328) (a : Nat → Nat) (ha : ∀ l, l < 12 → At ns.length (kb ns) (hg ns) l t (a l)) (hnew : ∀ i, 1 ≤ i → i < ns.length → kb ns i ≠ t) :
    Calls Try.prog 81 #[.pointer (some ⟨sb, 0, none⟩), twv a, .slice A m c, .int .i64 v] w fun e w' => e = .returned (.tuple #[]) ∧ ∃ ns', SL w' (fun q => X q ∨ (w.heap.size ≤ q ∧ q < w'.heap.size)) base sb ns' hs (max H (hs.getD ((ns.length - 1) % hs.length) 0).toNat) ∧ Put1 ns ns' t v ∧ FrX X w w' := by
  have hE0 : Ext w (w.alloc (.cells (twr a).toArray 105)) := (Ext.refl w).alloc _
  have CC := Lib.hid (clone_any A m c t _ (ht.ext hE0) (by omega))
  have HS := Lib.hid (fun W (hW : Ext w W) => (h.ext hW).see2)
  have HL := Lib.hid (fun W (hW : Ext w W) => slen_any (h.ext hW) (by omega))
  have hp := h.sk.pos
  obtain ⟨hk1, hk2⟩ := h.hok
  have HE0 := Lib.hid hE0
  have Hk2 := Lib.hid hk2
  have hk2' := hk2
  clear hE0 hk2
  go_enter Try.func81, Try.ntmps81
  go_wp2_with fail
  refine CC.out.mono ?_
  rintro e w1 ⟨A1, c1, rfl, hown1, he1⟩
  have hcp := hown1.cap
  have hl1 := ht.len
  have CP := Lib.hid (clip_any A1 m c1 w1 (by omega))
  go_wp2_with fail
  refine CP.out.mono ?_
  rintro e w1' ⟨rfl, rfl⟩
  have hE1 : Ext w (w1.alloc (.cells #[.slice A1 m m, .int .i64 v, .int .i64 0, .int .i64 0, .int .i64 0, .int .i64 0, .int .i64 0, .int .i64 0, .int .i64 0, .int .i64 0, .int .i64 0, .int .i64 0, .int .i64 0, .int .i64 0] 110)) := (HE0.out.trans he1).alloc _
  have CL := Lib.hid (HL.out _ hE1)
  obtain ⟨b, cn, Ah, ch, hS, hsb1, hrow1, hhs1, hXb, hXh, hbsb⟩ := HS.out _ hE1
  obtain ⟨n, hn⟩ : ∃ n, n = ns.length := ⟨_, rfl⟩
  obtain ⟨hl, hhl⟩ : ∃ n, n = hs.length := ⟨_, rfl⟩
  have c1' := hS.c1
  have hm0 : (n - 1) % hl < hl := Nat.mod_lt _ (by omega)
  have hrd := hS.rd
  have hob : b < w.heap.size ∧ sb < w.heap.size := ⟨(h.bd b hXb).2, (h.bd sb h.sbX).2⟩
  obtain ⟨bh, oh, rfl, hbh, hch⟩ := hrd.atZ (j := (n - 1) % hl) (by omega)
  obtain ⟨m0, hm00⟩ : ∃ m0, m0 = (n - 1) % hl := ⟨_, rfl⟩
  rw [← hm00] at hm0 hch
  obtain ⟨hc1, hc2⟩ := hS.hcap
  rw [← hn] at hp hb CL
  rw [← hhl] at c1' hk1 hc1
  have hmod : ((n : Int) - 1).tmod (hl : Int) = (m0 : Int) := by
    rw [hm00, show ((n : Int) - 1) = ((n - 1 : Nat) : Int) by omega]
    exact (Int.ofNat_tmod _ _).symm
  obtain ⟨fz, hfz⟩ : ∃ f : Nd, f = ⟨⟨A1, m, t⟩, v, fun _ => 0, (hs.getD m0 0).toNat⟩ := ⟨_, rfl⟩
  have hcf : shN.cells fz = [.slice A1 m m, .int .i64 v, .int .i64 0, .int .i64 0, .int .i64 0, .int .i64 0, .int .i64 0, .int .i64 0, .int .i64 0, .int .i64 0, .int .i64 0, .int .i64 0, .int .i64 0, .int .i64 0] := by
    rw [hfz]
    show Sl.v ⟨A1, m, t⟩ :: _ = _
    rw [show Sl.v ⟨A1, m, t⟩ = .slice A1 m m by unfold Sl.v; rw [hl1]]
    rfl
  obtain ⟨w2, hw2⟩ : ∃ w2, w2 = w1.alloc (.cells #[.slice A1 m m, .int .i64 v, .int .i64 0, .int .i64 0, .int .i64 0, .int .i64 0, .int .i64 0, .int .i64 0, .int .i64 0, .int .i64 0, .int .i64 0, .int .i64 0, .int .i64 0, .int .i64 0] 110) := ⟨_, rfl⟩
  have hF2 : w2.heap[w1.heap.size]? = some (.cells (shN.cells fz).toArray 110 (0, 0)) := by rw [hw2, hcf]; exact heap_alloc_new w1 _
  have hT2 : w2.heap[w.heap.size]? = some (.cells (twr a).toArray 105 (0, 0)) := by
    have hz := he1.size
    rw [hw2, Below.heap_alloc _ _ _ (by simp at hz; omega), he1.block w.heap.size (by simp)]
    exact heap_alloc_new w _
  have hA1 : Own .u8 5 w2 (w.heap.size + 1) A1 c1 t := by
    have := hown1.ext ((Ext.refl w1).alloc (.cells #[.slice A1 m m, .int .i64 v, .int .i64 0, .int .i64 0, .int .i64 0, .int .i64 0, .int .i64 0, .int .i64 0, .int .i64 0, .int .i64 0, .int .i64 0, .int .i64 0, .int .i64 0, .int .i64 0] 110))
    rw [← hw2] at this
    simpa using this
  rw [← hw2] at hE1 CL c1' hch hS hsb1 hrow1 hhs1
  obtain ⟨gz, hgz⟩ : ∃ gz, gz = hs.getD m0 0 := ⟨_, rfl⟩
  have hg12 : 1 ≤ gz ∧ gz ≤ 12 := by
    rw [hgz, List.getD, List.getElem?_eq_getElem (by omega)]
    exact hk2' _ (List.getElem_mem _)
  rw [← hgz] at hch
  have HL2 := Lib.hid (fun W (hW : Ext w2 W) => HL.out W (hE1.trans hW))
  have hlb : sb < w2.heap.size ∧ bh < w2.heap.size := ⟨World.block_lt_of_cell? w2 _ c1', World.block_lt_of_cell? w2 _ hch⟩
  have hst : Hid (∀ W, Ext w2 W → W.cell? ⟨sb, 1, none⟩ = some (.slice (some ⟨bh, oh, none⟩) hl ch) ∧ W.cell? ⟨bh, oh + m0, none⟩ = some (.int .i64 gz)) := Lib.hid fun W hW => ⟨(Below.cell hW (p := ⟨sb, 1, none⟩) hlb.1).trans c1', (Below.cell hW (p := ⟨bh, oh + m0, none⟩) hlb.2).trans hch⟩
  have h0 := hst.out w2 (Ext.refl _)
  obtain ⟨F, hF⟩ : ∃ F, F = w1.heap.size := ⟨_, rfl⟩
  have HFz := Lib.hid hfz
  have HF2 := Lib.hid hF2
  have HT2 := Lib.hid hT2
  have HA1 := Lib.hid hA1
  have HE1 := Lib.hid hE1
  have HSee := Lib.hid hS
  have Hsb1 := Lib.hid hsb1
  have Hrow1 := Lib.hid hrow1
  have Hhs1 := Lib.hid hhs1
  have HXh := Lib.hid hXh
  have hTF : w.heap.size + 1 ≤ w1.heap.size ∧ w2.heap.size = w1.heap.size + 1 := by
    have q1 := he1.size
    have q2 : w2.heap.size = w1.heap.size + 1 := by rw [hw2]; simp
    simp at q1
    exact ⟨q1, q2⟩
  have Hmod := Lib.hid hm00
  have Hgz := Lib.hid hgz
  have z1 : ¬ (hl : Int) = 0 := by omega
  have z2 : ((hl : Int) == 0) = false := by simpa using z1
  have z3 : ¬ hl = 0 := by omega
  have HW2 := Lib.hid hw2
  have HFF := Lib.hid hF
  have Hn := Lib.hid hn
  have Hhl := Lib.hid hhl
  simp only [← hn] at HL2
  rw [← hF] at HF2 hTF
  clear hsb1 hrow1 hhs1 hXh hrd hcp hl1 hown1 hS hE1 hF2 hT2 hA1 hcf hfz c1' hch hlb CL hm00 hgz hw2 hF hn hhl
  go_wp2_with fail
  rw [← HW2.out, ← HFF.out]
  go_region_held3 (fun w' => w'.cell? ⟨sb, 1, none⟩ = some (.slice (some ⟨bh, oh, none⟩) hl ch) ∧ w'.cell? ⟨bh, oh + m0, none⟩ = some (.int .i64 gz))
    (first | exact h0 | fail)
    (first
      | (go_at_call 34; refine (HL2.out _ ?_).mono ?_; (first | exact Ext.refl _ | exact (Ext.refl _).drew | exact Ext.of_drewN _ _ | fail); rintro e w3 ⟨rfl, rfl⟩)
      | fail)
  obtain ⟨w3, hw3⟩ : ∃ w3, w3 = w2.drew := ⟨_, rfl⟩
  have he3 : Ext w2 w3 := by rw [hw3]; exact (Ext.refl w2).drew
  have hz3 : w3.heap.size = w2.heap.size := by rw [hw3]; rfl
  rw [← hw3]
  clear hw3
  obtain ⟨g, hgg⟩ : ∃ g : Nat, gz = (g : Int) := ⟨gz.toNat, by omega⟩
  subst hgg
  obtain ⟨T, hT⟩ : ∃ T, T = w.heap.size := ⟨_, rfl⟩
  rw [← hT] at HT2 hTF hob
  rw [← hT]
  have HTT := Lib.hid hT
  have hg0 : 1 ≤ g ∧ g ≤ 12 := by omega
  have hs3 : Hid (w3.heap[sb]? = some (.cells #[.slice (some ⟨b, 0, none⟩) ns.length cn, .slice (some ⟨bh, oh, none⟩) hs.length ch, .int .i64 (H : Int)] 95 (0, 0))) := Lib.hid ((he3.block sb (by omega)).trans Hsb1.out)
  have ht3 : Hid (w3.heap[T]? = some (.cells (twr a).toArray 105 (0, 0))) := Lib.hid ((he3.block T (by omega)).trans HT2.out)
  have hf3 : Hid (w3.heap[F]? = some (.cells (shN.cells fz).toArray 110 (0, 0))) := Lib.hid ((he3.block F (by omega)).trans HF2.out)
  have hr3 := Lib.hid (Hrow1.out.ext he3)
  have Ha := Lib.hid ha
  have HE3 := Lib.hid he3
  have Hh := Lib.hid h
  have Hnew := Lib.hid hnew
  have Htu := Lib.hid (And.intro ht hu)
  rw [← Hn.out, ← Hhl.out] at hs3
  clear h ha hnew ht hu he3 hT h0 hk2' z1 z2 z3 hmod hm0 hc1 hc2 hbh
  clear he1
  go_wp2_with fail
  go_loopw [35] (fun i ws => ∃ (lv : Nat) (ms : List Nd) (f : Nat → Nat), lv ≤ g ∧ i = .int .i64 (lv : Int) ∧ Hid (UpdAt ns ms a n lv) ∧ Hid (∀ k, k < 12 → f k = if k < lv then nxt ns (a k) k else 0) ∧ Hid (OwnG shN 110 ws base (some ⟨b, 0, none⟩) cn ms) ∧ Hid (ws.heap[F]? = some (.cells (shN.cells { fz with nx := f }).toArray 110 (0, 0))) ∧ Hid (Ins w3 ws b F)) (fun i _ => g - (intOf i).toNat)
  case atStart => exact ⟨0, ns, fun _ => 0, Nat.zero_le _, rfl, Lib.hid (UpdAt.zero _ _ _), Lib.hid (fun k _ => by rw [if_neg (by omega)]), hr3, Lib.hid (by have := hf3.out; rw [HFz.out] at this ⊢; exact this), Lib.hid (Ins.refl _ _ _)⟩
  case round =>
    obtain ⟨lv, ms, f, hlv, rfl, HU, Hf, Hrow, HF, HI⟩ := hrel
    by_cases hlt : lv < g
    · have hal := (Ha.out lv (by omega)).lt
      have hml := HU.out.len
      have hnF : T ≠ b ∧ T ≠ F ∧ sb ≠ F ∧ b ≠ F ∧ sb ≠ b := by omega
      have cT : wr.cell? ⟨T, lv, none⟩ = some (.int .i64 (a lv : Int)) := by
        rw [cell_of_row wr T lv _ _ (0, 0) ((HI.out.blk T hnF.1 hnF.2.1).trans ht3.out), List.getElem?_toArray]
        exact twr_at (by omega)
      have hsbW := (HI.out.blk sb hnF.2.2.2.2 hnF.2.2.1).trans hs3.out
      have c0 : wr.cell? ⟨sb, 0, none⟩ = some (.slice (some ⟨b, 0, none⟩) n cn) := by rw [cell_of_row wr sb 0 _ _ (0, 0) hsbW]; rfl
      obtain ⟨xx, hxx⟩ : ∃ xx, xx = nxt ns (a lv) lv := ⟨_, rfl⟩
      have hcell : (shN.cells (nat_ ms (a lv)))[2 + lv]? = some (.int .i64 (xx : Int)) := by
        have h1 := HU.out.nx (a lv) lv hal (by omega)
        rw [if_neg (by omega), ← hxx] at h1
        show ([(nat_ ms (a lv)).key.v, Value.int .i64 (nat_ ms (a lv)).v] ++ twr (nat_ ms (a lv)).nx)[2 + lv]? = _
        rw [List.getElem?_append_right (by simp), show 2 + lv - [(nat_ ms (a lv)).key.v, Value.int .i64 (nat_ ms (a lv)).v].length = lv by simp, twr_at (by omega)]
        rw [← h1]; rfl
      have rd1 : wr.cell? ⟨b, a lv * 14 + 2 + lv, none⟩ = some (.int .i64 (xx : Int)) ∧ wr.frozen? ⟨b, a lv * 14 + 2 + lv, none⟩ = false := by
        obtain ⟨b', x, hA, _, _, hx, hc, hfr, _⟩ := Hrow.out.at_ (j := a lv) (by rw [hml]; exact hal)
        injection hA with hA
        injection hA with hA
        subst hA
        rw [nat_at (by rw [hml]; exact hal)] at hx
        injection hx with hx
        subst hx
        have h1 := hc (2 + lv) _ hcell
        rw [← Nat.add_assoc] at h1
        exact ⟨h1, hfr _⟩
      have cF : wr.cell? ⟨F, 2 + lv, none⟩ = some (.int .i64 (f lv : Int)) ∧ wr.frozen? ⟨F, 2 + lv, none⟩ = false := by
        refine ⟨?_, by simp [World.frozen?, HF.out]⟩
        rw [cell_of_row wr F (2 + lv) _ _ (0, 0) HF.out, List.getElem?_toArray]
        show ([({ fz with nx := f } : Nd).key.v, Value.int .i64 ({ fz with nx := f } : Nd).v] ++ twr f)[2 + lv]? = _
        rw [List.getElem?_append_right (by simp), show 2 + lv - [({ fz with nx := f } : Nd).key.v, Value.int .i64 ({ fz with nx := f } : Nd).v].length = lv by simp, twr_at (by omega)]
      have hF4 := heap_setCell_same wr F (2 + lv) _ _ (.int .i64 (xx : Int)) HF.out
      have hF4' : (wr.setCell ⟨F, 2 + lv, none⟩ (.int .i64 (xx : Int))).heap[F]? = some (.cells (shN.cells { fz with nx := fun k => if k = lv then xx else f k }).toArray 110 (0, 0)) := by
        rw [hF4]
        have := shN_set { fz with nx := f } (l := lv) (by omega) xx
        simp only at this
        rw [this]
        simp
      have hI4 := HI.out.set (g := F) (.inr rfl) (2 + lv) (.int .i64 (xx : Int))
      have hrow4 := Hrow.out.grown (grown_setCellS wr F (2 + lv) (.int .i64 (xx : Int))) (fun p hp e => by injection hp with hp; subst hp; injection e with e; exact hnF.2.2.2.1 e)
      have c0' : (wr.setCell ⟨F, 2 + lv, none⟩ (.int .i64 (xx : Int))).cell? ⟨sb, 0, none⟩ = some (.slice (some ⟨b, 0, none⟩) n cn) :=
        (World.cell?_of_block (w := wr) (a := ⟨sb, 0, none⟩) (Below.heap_setCell wr _ _ sb hnF.2.2.1)).trans c0
      obtain ⟨rd2, row5⟩ : ((wr.setCell ⟨F, 2 + lv, none⟩ (.int .i64 (xx : Int))).cell? ⟨b, a lv * 14 + 2 + lv, none⟩ = some (.int .i64 (xx : Int)) ∧ (wr.setCell ⟨F, 2 + lv, none⟩ (.int .i64 (xx : Int))).frozen? ⟨b, a lv * 14 + 2 + lv, none⟩ = false) ∧
          Hid (OwnG shN 110 ((wr.setCell ⟨F, 2 + lv, none⟩ (.int .i64 (xx : Int))).setCell ⟨b, a lv * 14 + 2 + lv, none⟩ (.int .i64 (n : Int))) base (some ⟨b, 0, none⟩) cn (ms.set (a lv) { nat_ ms (a lv) with nx := fun k => if k = lv then n else nxt ms (a lv) k })) := by
        obtain ⟨b', x, hA, _, _, hx, hc, hfr, hst⟩ := hrow4.at_ (j := a lv) (by rw [hml]; exact hal)
        injection hA with hA
        injection hA with hA
        subst hA
        rw [nat_at (by rw [hml]; exact hal)] at hx
        injection hx with hx
        subst hx
        have h1 := hc (2 + lv) _ hcell
        have h2 := (hst (2 + lv) _ (.int .i64 (n : Int)) (by show 2 + lv < 14; omega) (shN_set (nat_ ms (a lv)) (by omega) n)).1
        rw [show shN.sz = 14 from rfl, ← Nat.add_assoc] at h1 h2
        exact ⟨⟨h1, hfr _⟩, Lib.hid h2⟩
      have hF5 := Lib.hid ((Below.heap_setCell _ ⟨b, a lv * 14 + 2 + lv, none⟩ (.int .i64 (n : Int)) F (fun e => hnF.2.2.2.1 e.symm)).trans hF4')
      have hI5 := Lib.hid (hI4.set (g := b) (.inl rfl) (a lv * 14 + 2 + lv) (.int .i64 (n : Int)))
      have hU5 := Lib.hid (HU.out.step hal)
      have hf5 : Hid (∀ k, k < 12 → (if k = lv then xx else f k) = if k < lv + 1 then nxt ns (a k) k else 0) := Lib.hid fun k hk => by
        by_cases q : k = lv
        · subst q; rw [if_pos rfl, if_pos (by omega), hxx]
        · rw [if_neg q, Hf.out k hk]
          by_cases q2 : k < lv
          · rw [if_pos q2, if_pos (by omega)]
          · rw [if_neg q2, if_neg (by omega)]
      obtain ⟨rdc, rdf⟩ := rd1
      obtain ⟨cFc, cFf⟩ := cF
      obtain ⟨rd2c, rd2f⟩ := rd2
      rw [← Hn.out] at hal
      obtain ⟨cap1, cap2⟩ := HSee.out.cap
      rw [← Hn.out] at cap1
      obtain ⟨al, hal2⟩ : ∃ al, al = a lv := ⟨_, rfl⟩
      rw [← hal2] at cT rdc rdf rd2c rd2f hal row5 hF5 hI5 hU5
      have hng : n ≤ 1099511627776 := hb
      clear HU Hf Hrow HF HI hcell hF4 hF4' hI4 hrow4 hxx hal2 hml hsbW
      go_wp2_with fail
      go_region
      go_wp2_with fail
      go_roundw
      case rel => exact ⟨lv + 1, _, _, by omega, by go_num, hU5, hf5, row5, hF5, Lib.hid ⟨hI5.out.os, hI5.out.tape, hI5.out.output, hI5.out.size, hI5.out.blk⟩⟩
      case measure => simp [intOf]; omega
    · obtain rfl : lv = g := by omega
      have hnF : sb ≠ b ∧ sb ≠ F ∧ F ≠ b ∧ T ≠ F ∧ T ≠ b := by omega
      have hsbW := (HI.out.blk sb hnF.1 hnF.2.1).trans hs3.out
      have hfw := HF.out
      have hm3 : (shN.cells { fz with nx := f }) = [.slice A1 m m, .int .i64 v, .int .i64 (f 0 : Int), .int .i64 (f 1 : Int), .int .i64 (f 2 : Int), .int .i64 (f 3 : Int), .int .i64 (f 4 : Int), .int .i64 (f 5 : Int), .int .i64 (f 6 : Int), .int .i64 (f 7 : Int), .int .i64 (f 8 : Int), .int .i64 (f 9 : Int), .int .i64 (f 10 : Int), .int .i64 (f 11 : Int)] := by
        rw [HFz.out]
        show Sl.v ⟨A1, m, t⟩ :: _ = _
        rw [show Sl.v ⟨A1, m, t⟩ = .slice A1 m m by unfold Sl.v; rw [Htu.out.1.len]]
        rfl
      rw [hm3] at hfw
      have hS : ∀ W : World, W.heap[sb]? = wr.heap[sb]? → W.heap[F]? = wr.heap[F]? → (fun W => W.cell? ⟨sb, 0, none⟩ = some (.slice (some ⟨b, 0, none⟩) n cn) ∧ W.cell? ⟨F, 0, none⟩ = some (.slice A1 m m) ∧ W.cell? ⟨F, 1, none⟩ = some (.int .i64 v) ∧ W.cell? ⟨F, 2, none⟩ = some (.int .i64 (f 0 : Int)) ∧ W.cell? ⟨F, 3, none⟩ = some (.int .i64 (f 1 : Int)) ∧ W.cell? ⟨F, 4, none⟩ = some (.int .i64 (f 2 : Int)) ∧ W.cell? ⟨F, 5, none⟩ = some (.int .i64 (f 3 : Int)) ∧ W.cell? ⟨F, 6, none⟩ = some (.int .i64 (f 4 : Int)) ∧ W.cell? ⟨F, 7, none⟩ = some (.int .i64 (f 5 : Int)) ∧ W.cell? ⟨F, 8, none⟩ = some (.int .i64 (f 6 : Int)) ∧ W.cell? ⟨F, 9, none⟩ = some (.int .i64 (f 7 : Int)) ∧ W.cell? ⟨F, 10, none⟩ = some (.int .i64 (f 8 : Int)) ∧ W.cell? ⟨F, 11, none⟩ = some (.int .i64 (f 9 : Int)) ∧ W.cell? ⟨F, 12, none⟩ = some (.int .i64 (f 10 : Int)) ∧ W.cell? ⟨F, 13, none⟩ = some (.int .i64 (f 11 : Int))) W := fun W q1 q2 => by
        have r1 := q1.trans hsbW
        have r2 := q2.trans hfw
        refine ⟨?_, ?_, ?_, ?_, ?_, ?_, ?_, ?_, ?_, ?_, ?_, ?_, ?_, ?_, ?_⟩
        · rw [cell_of_row W sb 0 _ _ (0, 0) r1]; rfl
        all_goals (rw [cell_of_row W F _ _ _ (0, 0) r2]; rfl)
      have HSall := Lib.hid hS
      have hs0 := hS wr rfl rfl
      have hwz : T < wr.heap.size ∧ F < wr.heap.size := by
        have := HI.out.size
        omega
      have hs6 := hS (wr.drew.alloc (.cells #[.slice A1 m m, .int .i64 v, .int .i64 (f 0 : Int), .int .i64 (f 1 : Int), .int .i64 (f 2 : Int), .int .i64 (f 3 : Int), .int .i64 (f 4 : Int), .int .i64 (f 5 : Int), .int .i64 (f 6 : Int), .int .i64 (f 7 : Int), .int .i64 (f 8 : Int), .int .i64 (f 9 : Int), .int .i64 (f 10 : Int), .int .i64 (f 11 : Int)] 110)) (Below.heap_alloc _ _ sb (by show sb < wr.heap.size; omega)) (Below.heap_alloc _ _ F (by show F < wr.heap.size; omega))
      have Hs6 := Lib.hid hs6
      have hrow6 : OwnG shN 110 (wr.drew.alloc (.cells #[.slice A1 m m, .int .i64 v, .int .i64 (f 0 : Int), .int .i64 (f 1 : Int), .int .i64 (f 2 : Int), .int .i64 (f 3 : Int), .int .i64 (f 4 : Int), .int .i64 (f 5 : Int), .int .i64 (f 6 : Int), .int .i64 (f 7 : Int), .int .i64 (f 8 : Int), .int .i64 (f 9 : Int), .int .i64 (f 10 : Int), .int .i64 (f 11 : Int)] 110)) base (some ⟨b, 0, none⟩) cn ms := Hrow.out.ext ((Ext.refl wr).drew.alloc _)
      have hnode6 : (wr.drew.alloc (.cells #[.slice A1 m m, .int .i64 v, .int .i64 (f 0 : Int), .int .i64 (f 1 : Int), .int .i64 (f 2 : Int), .int .i64 (f 3 : Int), .int .i64 (f 4 : Int), .int .i64 (f 5 : Int), .int .i64 (f 6 : Int), .int .i64 (f 7 : Int), .int .i64 (f 8 : Int), .int .i64 (f 9 : Int), .int .i64 (f 10 : Int), .int .i64 (f 11 : Int)] 110)).heap[wr.drew.heap.size]? = some (.cells (shN.cells { fz with nx := f }).toArray 110) := by rw [hm3]; exact heap_alloc_new wr.drew _
      have Hml : Hid (ms.length = n) := Lib.hid (by rw [HU.out.len, Hn.out])
      have Hbound : Hid (((n + 1) + (n + 1) / 4 + 192) * 128 ≤ 281474976710656) := Lib.hid (by omega)
      have hbase6 : base ≤ (wr.drew.alloc (.cells #[.slice A1 m m, .int .i64 v, .int .i64 (f 0 : Int), .int .i64 (f 1 : Int), .int .i64 (f 2 : Int), .int .i64 (f 3 : Int), .int .i64 (f 4 : Int), .int .i64 (f 5 : Int), .int .i64 (f 6 : Int), .int .i64 (f 7 : Int), .int .i64 (f 8 : Int), .int .i64 (f 9 : Int), .int .i64 (f 10 : Int), .int .i64 (f 11 : Int)] 110)).heap.size := by
        have := (Hh.out.bd b hXb).1
        have h2 : (wr.drew.alloc (.cells #[.slice A1 m m, .int .i64 v, .int .i64 (f 0 : Int), .int .i64 (f 1 : Int), .int .i64 (f 2 : Int), .int .i64 (f 3 : Int), .int .i64 (f 4 : Int), .int .i64 (f 5 : Int), .int .i64 (f 6 : Int), .int .i64 (f 7 : Int), .int .i64 (f 8 : Int), .int .i64 (f 9 : Int), .int .i64 (f 10 : Int), .int .i64 (f 11 : Int)] 110)).heap.size = wr.heap.size + 1 := by simp
        omega
      have HQ5 : Hid (∀ (A5 : Option Addr) (W5 : World), (A5 = some ⟨b, 0, none⟩ ∧ (wr.drew.alloc (.cells #[.slice A1 m m, .int .i64 v, .int .i64 (f 0 : Int), .int .i64 (f 1 : Int), .int .i64 (f 2 : Int), .int .i64 (f 3 : Int), .int .i64 (f 4 : Int), .int .i64 (f 5 : Int), .int .i64 (f 6 : Int), .int .i64 (f 7 : Int), .int .i64 (f 8 : Int), .int .i64 (f 9 : Int), .int .i64 (f 10 : Int), .int .i64 (f 11 : Int)] 110)).grownBy W5 ((some (⟨b, 0, none⟩ : Addr)).map (·.block)) ∨ Ext (wr.drew.alloc (.cells #[.slice A1 m m, .int .i64 v, .int .i64 (f 0 : Int), .int .i64 (f 1 : Int), .int .i64 (f 2 : Int), .int .i64 (f 3 : Int), .int .i64 (f 4 : Int), .int .i64 (f 5 : Int), .int .i64 (f 6 : Int), .int .i64 (f 7 : Int), .int .i64 (f 8 : Int), .int .i64 (f 9 : Int), .int .i64 (f 10 : Int), .int .i64 (f 11 : Int)] 110)) W5 ∧ ∀ q, A5 = some q → (wr.drew.alloc (.cells #[.slice A1 m m, .int .i64 v, .int .i64 (f 0 : Int), .int .i64 (f 1 : Int), .int .i64 (f 2 : Int), .int .i64 (f 3 : Int), .int .i64 (f 4 : Int), .int .i64 (f 5 : Int), .int .i64 (f 6 : Int), .int .i64 (f 7 : Int), .int .i64 (f 8 : Int), .int .i64 (f 9 : Int), .int .i64 (f 10 : Int), .int .i64 (f 11 : Int)] 110)).heap.size ≤ q.block) →
          ∀ q, q ≠ b → q < wr.heap.size → W5.heap[q]? = wr.heap[q]?) := Lib.hid fun A5 W5 hq q q1 q2 => by
        have e1 : (wr.drew.alloc (.cells #[.slice A1 m m, .int .i64 v, .int .i64 (f 0 : Int), .int .i64 (f 1 : Int), .int .i64 (f 2 : Int), .int .i64 (f 3 : Int), .int .i64 (f 4 : Int), .int .i64 (f 5 : Int), .int .i64 (f 6 : Int), .int .i64 (f 7 : Int), .int .i64 (f 8 : Int), .int .i64 (f 9 : Int), .int .i64 (f 10 : Int), .int .i64 (f 11 : Int)] 110)).heap[q]? = wr.heap[q]? := Below.heap_alloc _ _ q q2
        have e2 : q < (wr.drew.alloc (.cells #[.slice A1 m m, .int .i64 v, .int .i64 (f 0 : Int), .int .i64 (f 1 : Int), .int .i64 (f 2 : Int), .int .i64 (f 3 : Int), .int .i64 (f 4 : Int), .int .i64 (f 5 : Int), .int .i64 (f 6 : Int), .int .i64 (f 7 : Int), .int .i64 (f 8 : Int), .int .i64 (f 9 : Int), .int .i64 (f 10 : Int), .int .i64 (f 11 : Int)] 110)).heap.size := by simp; omega
        rcases hq with ⟨_, hg5⟩ | ⟨he5, _⟩
        · exact (hg5.block q e2 (fun e => by injection e with e; exact q1 e)).trans e1
        · exact (he5.block q e2).trans e1
      have hqs : sb < wr.heap.size := by omega
      go_wp2_with fail
      refine wp_region_T (S := fun W => W.cell? ⟨sb, 0, none⟩ = some (.slice (some ⟨b, 0, none⟩) n cn) ∧ W.cell? ⟨F, 0, none⟩ = some (.slice A1 m m) ∧ W.cell? ⟨F, 1, none⟩ = some (.int .i64 v) ∧ W.cell? ⟨F, 2, none⟩ = some (.int .i64 (f 0 : Int)) ∧ W.cell? ⟨F, 3, none⟩ = some (.int .i64 (f 1 : Int)) ∧ W.cell? ⟨F, 4, none⟩ = some (.int .i64 (f 2 : Int)) ∧ W.cell? ⟨F, 5, none⟩ = some (.int .i64 (f 3 : Int)) ∧ W.cell? ⟨F, 6, none⟩ = some (.int .i64 (f 4 : Int)) ∧ W.cell? ⟨F, 7, none⟩ = some (.int .i64 (f 5 : Int)) ∧ W.cell? ⟨F, 8, none⟩ = some (.int .i64 (f 6 : Int)) ∧ W.cell? ⟨F, 9, none⟩ = some (.int .i64 (f 7 : Int)) ∧ W.cell? ⟨F, 10, none⟩ = some (.int .i64 (f 8 : Int)) ∧ W.cell? ⟨F, 11, none⟩ = some (.int .i64 (f 9 : Int)) ∧ W.cell? ⟨F, 12, none⟩ = some (.int .i64 (f 10 : Int)) ∧ W.cell? ⟨F, 13, none⟩ = some (.int .i64 (f 11 : Int))) (late := fun j => j == 10) (by kernel_rfl) ?_
      refine wpAnyT_take (i := 0) (v := ?_) rfl (by kernel_rfl) (by kernel_rfl) (by kernel_rfl) (by kernel_rfl) (fun _ _ _ h => h) (Or.inl ⟨by rfl, ?_⟩) (by exact hs0) ?_
      rotate_left
      · (intro w hSw; (try dsimp only at hSw); go_simp; (try with_reducible rfl))
      (simp only [Act.put, List.getElem_toArray, List.getElem_cons_zero, List.setIfInBounds_toArray, List.set_cons_zero, List.set_cons_succ])
      refine wpAnyT_take (i := 1) (v := ?_) rfl (by kernel_rfl) (by kernel_rfl) (by kernel_rfl) (by kernel_rfl) (fun _ _ _ h => h) (Or.inl ⟨by rfl, ?_⟩) (by exact hs0) ?_
      rotate_left
      · (intro w hSw; (try dsimp only at hSw); go_simp; (try with_reducible rfl))
      (simp only [Act.put, List.getElem_toArray, List.getElem_cons_zero, List.getElem_cons_succ, List.setIfInBounds_toArray, List.set_cons_zero, List.set_cons_succ])
      refine wpAnyT_take (i := 2) (v := ?_) rfl (by kernel_rfl) (by kernel_rfl) (by kernel_rfl) (by kernel_rfl) (fun _ _ _ h => h) (Or.inl ⟨by rfl, ?_⟩) (by exact hs0) ?_
      rotate_left
      · (intro w hSw; (try dsimp only at hSw); go_simp; (try with_reducible rfl))
      (simp only [Act.put, List.getElem_toArray, List.getElem_cons_zero, List.getElem_cons_succ, List.setIfInBounds_toArray, List.set_cons_zero, List.set_cons_succ])
      refine wpAnyT_take (i := 3) (v := ?_) rfl (by kernel_rfl) (by kernel_rfl) (by kernel_rfl) (by kernel_rfl) (fun _ _ _ h => h) (Or.inl ⟨by rfl, ?_⟩) (by exact hs0) ?_
      rotate_left
      · (intro w hSw; (try dsimp only at hSw); go_simp; (try with_reducible rfl))
      (simp only [Act.put, List.getElem_toArray, List.getElem_cons_zero, List.getElem_cons_succ, List.setIfInBounds_toArray, List.set_cons_zero, List.set_cons_succ])
      refine wpAnyT_take (i := 4) (v := ?_) rfl (by kernel_rfl) (by kernel_rfl) (by kernel_rfl) (by kernel_rfl) (fun _ _ _ h => h) (Or.inl ⟨by rfl, ?_⟩) (by exact hs0) ?_
      rotate_left
      · (intro w hSw; (try dsimp only at hSw); go_simp; (try with_reducible rfl))
      (simp only [Act.put, List.getElem_toArray, List.getElem_cons_zero, List.getElem_cons_succ, List.setIfInBounds_toArray, List.set_cons_zero, List.set_cons_succ])
      refine wpAnyT_take (i := 5) (v := ?_) rfl (by kernel_rfl) (by kernel_rfl) (by kernel_rfl) (by kernel_rfl) (fun _ _ _ h => h) (Or.inl ⟨by rfl, ?_⟩) (by exact hs0) ?_
      rotate_left
      · (intro w hSw; (try dsimp only at hSw); go_simp; (try with_reducible rfl))
      (simp only [Act.put, List.getElem_toArray, List.getElem_cons_zero, List.getElem_cons_succ, List.setIfInBounds_toArray, List.set_cons_zero, List.set_cons_succ])
      refine wpAnyT_step (i := 6) (by kernel_rfl) rfl rfl ?_
      clear hs0 hs6
      go_simp
      (try refine ⟨by first | exact fun _ => Hs6.out | exact Hs6.out, ?_⟩)
      (try (simp only [Act.put, List.getElem_toArray, List.getElem_cons_zero, List.getElem_cons_succ, List.setIfInBounds_toArray, List.set_cons_zero, List.set_cons_succ]))
      refine wpAnyT_step (i := 7) (by kernel_rfl) rfl rfl ?_
      refine wp_pushK shN { fz with nx := f } 110 _ _ 93 (by rfl) _ 128 Try.underlying93 Try.infoNd rfl hrow6 n Hml.out (by rfl) (by rfl) hnode6 Hbound.out (by decide) hbase6 ?_
      intro A5 c5 W5 ho5 hq5 hz5
      have hW5 := HQ5.out A5 W5 hq5
      have hs7 := HSall.out W5 (hW5 sb hnF.1 hqs) (hW5 F hnF.2.2.1 hwz.2)
      have hsb5 := (hW5 sb hnF.1 hqs).trans hsbW
      have hsf5 : ∀ i, W5.frozen? ⟨sb, i, none⟩ = false := fun i => by simp [World.frozen?, hsb5]
      have hs70 := hs7.1
      have hsf50 := hsf5 0
      (try refine ⟨by first | exact fun _ => hs7 | exact hs7, ?_⟩)
      (try (simp only [Act.put, List.getElem_toArray, List.getElem_cons_zero, List.getElem_cons_succ, List.setIfInBounds_toArray, List.set_cons_zero, List.set_cons_succ]))
      refine wpAnyT_step (i := 8) (by kernel_rfl) rfl rfl ?_
      go_simp
      (try (simp only [Act.put, List.getElem_toArray, List.getElem_cons_zero, List.getElem_cons_succ, List.setIfInBounds_toArray, List.set_cons_zero, List.set_cons_succ]))
      refine wpAnyT_step (i := 9) (by kernel_rfl) rfl rfl ?_
      go_simp
      (try (simp only [Act.put, List.getElem_toArray, List.getElem_cons_zero, List.getElem_cons_succ, List.setIfInBounds_toArray, List.set_cons_zero, List.set_cons_succ]))
      refine wpAnyT_step (i := 10) (by kernel_rfl) rfl rfl ?_
      go_simp
      refine wpAnyT_done (by kernel_rfl) ?_ _
      (try (simp only [Act.put, List.getElem_toArray, List.getElem_cons_zero, List.getElem_cons_succ, List.setIfInBounds_toArray, List.set_cons_zero, List.set_cons_succ]))
      have htt := HTT.out
      have hsb6 := heap_setCell_same W5 sb 0 _ _ (.slice A5 (n + 1) c5) hsb5
      have hW6 : ∀ q, q ≠ sb → (W5.setCell ⟨sb, 0, none⟩ (.slice A5 (n + 1) c5)).heap[q]? = W5.heap[q]? := fun q hq => Below.heap_setCell W5 _ _ q hq
      have hrow6' := ho5.grown (grown_setCellS W5 sb 0 (.slice A5 (n + 1) c5)) (fun p hp e => own_ty ho5 hsb5 (by decide) p hp (by injection e))
      obtain ⟨W6, hW6e⟩ : ∃ W6, W6 = W5.setCell ⟨sb, 0, none⟩ (.slice A5 (n + 1) c5) := ⟨_, rfl⟩
      rw [← hW6e] at hsb6 hW6 hrow6' ⊢
      have hzz : W6.heap.size = W5.heap.size ∧ W6.os = W5.os ∧ W6.tape = W5.tape ∧ W6.output = W5.output := by rw [hW6e]; exact ⟨by simp [World.setCell], rfl, rfl, rfl⟩
      have cH : W6.cell? ⟨sb, 2, none⟩ = some (.int .i64 (H : Int)) := by rw [cell_of_row W6 sb 2 _ _ (0, 0) hsb6]; rfl
      have cHf : W6.frozen? ⟨sb, 2, none⟩ = false := by simp [World.frozen?, hsb6]
      have hsb7 := heap_setCell_same W6 sb 2 _ _ (.int .i64 ((max H lv : Nat) : Int)) hsb6
      have hrow7 := hrow6'.grown (grown_setCellS W6 sb 2 (.int .i64 ((max H lv : Nat) : Int))) (fun p hp e => own_ty hrow6' hsb6 (by decide) p hp (by injection e))
      have hwf : ∀ q, q < wr.heap.size → q ≠ b → q ≠ sb → q ≠ F → (W6.setCell ⟨sb, 2, none⟩ (.int .i64 ((max H lv : Nat) : Int))).heap[q]? = w3.heap[q]? := fun q r1 r2 r3 r4 =>
        ((Below.heap_setCell W6 _ _ q r3).trans (hW6 q r3)).trans ((hW5 q r2 r1).trans (HI.out.blk q r2 r4))
      have hos5 : W5.os = wr.os ∧ W5.tape = wr.tape ∧ W5.output = wr.output ∧ wr.heap.size ≤ W5.heap.size ∧ ∀ p, A5 = some p → p.block = b ∨ wr.heap.size ≤ p.block := by
        rcases hq5 with ⟨e5, hg5⟩ | ⟨he5, hl5⟩
        · have := hg5.size
          simp at this
          exact ⟨hg5.os, hg5.tape, hg5.output, by omega, fun p hp => .inl (by rw [e5] at hp; injection hp with hp; rw [← hp])⟩
        · have := he5.size
          simp at this
          exact ⟨he5.os, he5.tape, he5.output, by omega, fun p hp => .inr (by have := hl5 p hp; simp at this; omega)⟩
      have hw3s : wr.heap.size = w3.heap.size := HI.out.size
      have hEw := HE1.out.trans HE3.out
      obtain ⟨hh1, hh2, hh3, hh4, hh5⟩ := hos5
      have hAk : ∀ p, A1 = some p → p.block ≠ F := fun p hp e => by
        have h1 := HA1.out
        rcases h1.2 with ⟨hv, _⟩ | ⟨q, cap, cur, hv, _, hh, _⟩
        · injection hv with hA _ _
          rw [hp] at hA
          cases hA
        · injection hv with hA _ _
          rw [hp] at hA
          injection hA with hA
          subst hA
          simp only at e
          subst e
          rw [HF2.out] at hh
          injection hh with hh
          injection hh with _ hh
          exact absurd hh (by decide)
      have hAw : ∀ p, A1 = some p → (W6.setCell ⟨sb, 2, none⟩ (.int .i64 ((max H lv : Nat) : Int))).heap[p.block]? = w3.heap[p.block]? := fun p hp => by
        have h1 := (HA1.out.block p hp)
        exact hwf _ (by omega) (by omega) (by omega) (hAk p hp)
      have hkk := Htu.out.1.len
      have hfs : (W6.setCell ⟨sb, 2, none⟩ (.int .i64 ((max H lv : Nat) : Int))).heap.size = W6.heap.size := by simp [World.setCell]
      have hszf : w3.heap.size ≤ (W6.setCell ⟨sb, 2, none⟩ (.int .i64 ((max H lv : Nat) : Int))).heap.size := by omega
      have hrdf : Rd .u8 (W6.setCell ⟨sb, 2, none⟩ (.int .i64 ((max H lv : Nat) : Int))) A1 m t := ((HA1.out.rd' hkk).ext HE3.out).blk hAw hszf
      have hes := hEw.size
      obtain ⟨curb, hb2⟩ : ∃ cur, w2.heap[b]? = some (.cells cur 110 (0, 0)) := by
        rcases Hrow1.out.2 with ⟨hv, _⟩ | ⟨q, cap, cur, hv, _, hh, _⟩
        · cases hv
        · injection hv with hA _ _
          injection hA with hA
          injection hA with hA
          subst hA
          exact ⟨cur, hh⟩
      have hbW : w.heap[b]? = some (.cells curb 110 (0, 0)) := (HE1.out.block b (by omega)).symm.trans hb2
      have hsW : w.heap[sb]? = some (.cells #[.slice (some ⟨b, 0, none⟩) ns.length cn, .slice (some ⟨bh, oh, none⟩) hs.length ch, .int .i64 (H : Int)] 95 (0, 0)) := (HE1.out.block sb (by omega)).symm.trans Hsb1.out
      have hhF : OwnG shZ 3 (W6.setCell ⟨sb, 2, none⟩ (.int .i64 ((max H lv : Nat) : Int))) base (some ⟨bh, oh, none⟩) ch hs := (Hhs1.out.ext HE3.out).blk (fun p hp => by
        have hbp := (Hh.out.bd _ (HXh.out p hp)).2
        exact hwf _ (by omega) (own_ty Hhs1.out hb2 (by decide) p hp) (own_ty Hhs1.out Hsb1.out (by decide) p hp) (by omega))
      have hkF : ∀ p, A1 = some p → w.heap.size ≤ p.block ∧ p.block < (W6.setCell ⟨sb, 2, none⟩ (.int .i64 ((max H lv : Nat) : Int))).heap.size ∧ ∃ cur fr, (W6.setCell ⟨sb, 2, none⟩ (.int .i64 ((max H lv : Nat) : Int))).heap[p.block]? = some (.cells cur 5 fr) := fun p hp => by
        have h1 := HA1.out.block p hp
        refine ⟨by omega, by omega, ?_⟩
        rcases HA1.out.2 with ⟨hv, _⟩ | ⟨q, cap, cur, hv, _, hh, _⟩
        · injection hv with hA _ _
          rw [hp] at hA
          cases hA
        · injection hv with hA _ _
          rw [hp] at hA
          injection hA with hA
          subst hA
          exact ⟨cur, (0, 0), (hAw _ hp).trans ((HE3.out.block _ (by omega)).trans hh)⟩
      have hend := ins_end (g := lv) (t := t) (v := v) (fz := { fz with nx := f }) (A1 := A1) (A5 := A5) (Ah := some ⟨bh, oh, none⟩) (m := m) (c5 := c5) (ch := ch) (ms := ms) (a := a) (b := b) (Wf := W6.setCell ⟨sb, 2, none⟩ (.int .i64 ((max H lv : Nat) : Int))) Hh.out hXb HXh.out
        (by show W6.os = _; rw [hzz.2.1, hh1, HI.out.os]; exact hEw.os) (by show W6.tape = _; rw [hzz.2.2.1, hh2, HI.out.tape]; exact hEw.tape) (by show W6.output = _; rw [hzz.2.2.2, hh3, HI.out.output]; exact hEw.output) (by omega)
        (fun q r1 r2 r3 => (hwf q (by omega) r2 r3 (by omega)).trans (hEw.block q r1)) (fun e => hnF.1 e.symm) ⟨_, _, hbW⟩ ⟨_, _, hsW⟩
        (by rw [← Hn.out, ← Hhl.out]; exact hsb7) hrow7 (fun p hp => by rcases hh5 p hp with e | e; exact .inl e; exact .inr (by omega)) hhF
        hrdf Htu.out.2 hm hkF
        (by rw [← Hn.out]; exact HU.out) (by rw [HFz.out]) (by rw [HFz.out]) (by rw [HFz.out, ← Hgz.out]; simp) (fun k hk => Hf.out k hk) (by omega) Ha.out Hnew.out
      have Hend := Lib.hid hend
      clear hW6e hend hrdf hAw hAk hwf htt hkF hhF hsW hbW hb2 hes hszf hfs hkk hEw hw3s hh5 hrow7 hsb7 hsb6 hsb5 ho5 hq5 hrow6' hW6 hW5
      go_wp2_with fail
      go_end0
      have e1 : max (H : Int) (lv : Int) = ((max H lv : Nat) : Int) := by omega
      have e2 : (hs.getD ((ns.length - 1) % hs.length) 0).toNat = lv := by rw [← Hn.out, ← Hhl.out, ← Hmod.out, ← Hgz.out]; simp
      rw [e2, e1]
      exact ⟨rfl, Hend.out⟩
end

end Go.Proofs.Ytkmnhapeohlooaa
