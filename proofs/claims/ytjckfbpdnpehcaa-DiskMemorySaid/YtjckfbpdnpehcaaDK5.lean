/-
  Layer 14: a change done at once.
-/
import Derived.Test.YtjckfbpdnpehcaaDK4
import Derived.Maps.AppendAt
namespace Go.Proofs.Ytjckfbpdnpehcaa
open Go.RowKit Go.Maps Go.WideMaps
set_option maxRecDepth 100000

theorem Try.infoChg : (Try.prog.info? 92).map (fun i => (i.zero, i.size, i.bytes)) = some (some Value.nilFunc, 1, 8) := by kernel_rfl

/-- 'append(out, x)', x one element, and where the new row lies. -/
theorem wpList_pushAt {P : Program} {w : World} {ops : Array Oper} {rest : List Oper} {o : Oper} {a : Act} {Q : Exit → Act → World → Prop} {T : Type} (s : Shape T) (x : T) (e : TypeId) (hgd : o.guard = none) (v y : Operand) (t : TypeId)
    (ho : o.op = .call { callee := .builtin .append, args := #[v, y], argTypes := #[t, t] })
    (z : Value) (bytes : Nat) (ht : P.underlying t = some (.slice e)) (hi : (P.info? e).map (fun i => (i.zero, i.size, i.bytes)) = some (some z, s.sz, bytes)) (hzs : z.cells.size = s.sz) (hs0 : 0 < s.sz)
    {base : Nat} {A : Option Addr} {c : Nat} {xs : List T} (hown : OwnG s e w base A c xs) (n : Nat) (hn : xs.length = n) (hs : a.eval v = .slice A n c)
    {g : Nat} {e' : TypeId} (hy : a.eval y = .slice (some ⟨g, 0, none⟩) 1 1) (hg : w.heap[g]? = some (.cells (s.cells x).toArray e'))
    (hlen : (n + 1) * bytes ≤ 140737488355328) (hby : 0 < bytes) (hbase : base ≤ w.heap.size)
    (h : ∀ A' c' w', OwnG s e w' base A' c' (xs ++ [x]) → w.grownBy w' (Value.slice A n c).ownBlock → (∀ a', A' = some a' → (∃ a0, A = some a0 ∧ a'.block = a0.block) ∨ a'.block = w.heap.size) → wpList P ops Q rest (a.put o.dst (.slice A' (n + 1) c')) w') :
    wpList P ops Q (o :: rest) a w := by
  subst hn
  obtain ⟨i, hi0, hz, hsz, hbs⟩ := info_parts hi
  have hle : xs.length + 1 ≤ 140737488355328 := Nat.le_trans (Nat.le_mul_of_pos_right (xs.length + 1) hby) hlen
  refine wpList_append_own_at _ hgd v y t ho base e i z s.sz bytes ht hi0 hz hsz hbs hzs hs0 _ xs.length (s.all xs) hs hown
    ⟨g, 0, none⟩ 1 1 (s.cells x) hy (by rw [s.len, Nat.one_mul]) ?_ (s.one x) (by unfold maxLen; omega) hlen hbase ?_
  · intro j u hj
    rw [show (⟨g, 0, none⟩ : Addr).add j = ⟨g, j, none⟩ from by unfold Addr.add; split <;> simp_all]
    rw [cell_of_row w g j _ _ (0, 0) hg, ← hj]
    simp
  · intro v' w' hown' hgr _ hat
    have hform : ∃ A' c', v' = .slice A' (xs.length + 1) c' := by
      rcases hown'.2 with ⟨_, h0⟩ | ⟨g, cap, cur, hv, _⟩
      · omega
      · exact ⟨_, _, hv⟩
    obtain ⟨A', c', rfl⟩ := hform
    refine h A' c' w' ?_ hgr ?_
    · unfold OwnG
      rw [List.length_append, Shape.all_snoc]
      exact hown'
    · rintro a' rfl
      rcases hat with q | q
      · cases A with
        | none => cases q
        | some a0 => exact .inl ⟨a0, rfl, Option.some.inj q⟩
      · exact .inr (Option.some.inj q)

theorem row_frX {X : Nat → Prop} {a b : World} {A : Option Addr} {n c : Nat} (h : a.grownBy b (Value.slice A n c).ownBlock) (hX : ∀ a0, A = some a0 → X a0.block) : FrX X a b :=
  ⟨h.os, h.tape, h.output, h.size, fun i hi hx => h.block i hi (fun e => by
    cases A with
    | none => cases e
    | some a0 => exact hx (by rw [Option.some.inj e]; exact hX a0 rfl))⟩

section
variable {w w' : World} {X : Nat → Prop} {base dp : Nat} {S : DS} {I : DI}
/-- The disk behind a change of its directory. -/
theorem DK.altered {w1 w2 w3 : World} {A : Option Addr} {c : Nat} {k : Clo} {g : Chg} (h : DK w X base dp S I) (hk : CloR w k g) (hx : ∀ q, k.has q → X q) (hid : ∀ x q, lkp (apD S.files g) x = some q → x.length ≤ 40 ∧ ∃ f, (q, f) ∈ S.fl) (hcr : ∀ x q, g = .cr x q → ∃ f, (q, f) ∈ S.fl) (h4 : (apD S.files g).length ≤ 400)
    (d1 : DirR w1 I.F (apD S.files g)) (g1 : w.grownBy w1 (some I.F)) (e2 : Ext w1 w2) (o3 : OwnG shC 92 w3 base A c (I.clos ++ [k])) (g3 : w2.grownBy w3 (Value.slice I.Ac I.clos.length I.cc).ownBlock) (hA : ∀ a, A = some a → (∃ a0, I.Ac = some a0 ∧ a.block = a0.block) ∨ w.heap.size ≤ a.block) :
    DK (w3.setCell ⟨dp, 3, none⟩ (.slice A (I.clos.length + 1) c)) (fun q => X q ∨ (w.heap.size ≤ q ∧ q < w3.heap.size)) base dp { S with files := apD S.files g, chs := S.chs ++ [g] } { I with Ac := A, cc := c, clos := I.clos ++ [k] } := by
  have hs := setCell_grown w3 ⟨dp, 3, none⟩ (.slice A (I.clos.length + 1) c)
  have s1 := g1.size
  have s2 := e2.size
  have s3 := g3.size
  have s4 : (w3.setCell ⟨dp, 3, none⟩ (.slice A (I.clos.length + 1) c)).heap.size = w3.heap.size := by simp [World.setCell]
  have hrow : ∀ b, X b → (∀ a, I.Ac = some a → b ≠ a.block) → some b ≠ (Value.slice I.Ac I.clos.length I.cc).ownBlock := by
    intro b _ hb e
    cases hA : I.Ac with
    | none => rw [hA] at e; cases e
    | some a => rw [hA] at e; exact hb a hA (Option.some.inj e)
  have hk3 : ∀ b, X b → b ≠ I.F → (∀ a, I.Ac = some a → b ≠ a.block) → w3.heap[b]? = w.heap[b]? := by
    intro b hb n1 n2
    have hl := (h.bd b hb).2
    exact ((g3.block b (by omega) (hrow b hb n2)).trans (e2.block b (by omega))).trans (g1.block b hl (fun e => n1 (Option.some.inj e)))
  have hbase : base ≤ w.heap.size := by have := h.bd dp h.xs.1; omega
  have hD3 := (hk3 dp h.xs.1 h.ne_F (fun a ha e => h.row_D a ha e.symm)).trans h.blk
  have dF3 : DirR w3 I.F (apD S.files g) := by
    have hl := (h.bd I.F h.xs.2.1).2
    exact (d1.ext e2).kept g3 (hrow I.F h.xs.2.1 (fun a ha e => h.row_F a ha e.symm))
  refine h.next (fun b hb => .inl hb) ?_ ?_ rfl rfl rfl rfl rfl rfl rfl ?_ (dF3.kept hs (fun e => h.ne_F (Option.some.inj e).symm)) ((h.dS.blk (hk3 I.Sb h.xs.2.2 (fun e => h.ne e.symm) (fun a ha e => h.row_S a ha e.symm))).kept hs (fun e => h.ne_S (Option.some.inj e).symm)) (o3.grown hs ?_) ?_ ?_ ?_ hid h.idS ?_ h4
  · intro b hb
    rw [s4]
    rcases hb with hb | hb
    · have := h.bd b hb; omega
    · omega
  · intro b hb n1 n2 _ n4
    have hl := (h.bd b hb).2
    exact (hs.block b (by omega) (fun e => n1 (Option.some.inj e))).trans (hk3 b hb n2 n4)
  · rw [heap_setCell_same w3 dp 3 _ _ _ hD3, List.length_append]
    rfl
  · intro a ha e
    have e := Option.some.inj e
    obtain ⟨cur, q⟩ := o3.ty a ha
    exact ne_ty q hD3 (by decide) e
  · intro a ha
    rcases hA a ha with ⟨a0, q, q2⟩ | q
    · exact .inl (by rw [q2]; exact h.rx a0 q)
    · have := (o3.block a ha).2
      exact .inr ⟨q, this⟩
  · show (I.clos ++ [k]).length = (S.chs ++ [g]).length
    rw [List.length_append, List.length_append, h.cln]
    rfl
  · intro j c' g' h1 h2
    by_cases hj : j < I.clos.length
    · rw [List.getElem?_append_left hj] at h1
      rw [List.getElem?_append_left (by rw [← h.cln]; exact hj)] at h2
      exact .inl ⟨h1, h2⟩
    · rw [List.getElem?_append_right (by omega)] at h1
      rw [List.getElem?_append_right (by rw [← h.cln]; omega), ← h.cln] at h2
      obtain ⟨i, hi⟩ : ∃ i, i = j - I.clos.length := ⟨_, rfl⟩
      rw [← hi] at h1 h2
      cases i with
      | succ i => cases h1
      | zero =>
        injection h1 with h1
        injection h2 with h2
        subst h1
        subst h2
        refine .inr ⟨hk.blk fun q hq => ?_, fun q hq => .inl (hx q hq)⟩
        obtain ⟨cur, e, h7, h8⟩ := hk.ty q hq
        obtain ⟨n1, n2, n3, n4⟩ := h.far h7 (by rcases h8 with rfl | rfl <;> decide) (by rcases h8 with rfl | rfl <;> decide)
        have hl := (h.bd q (hx q hq)).2
        exact (hs.block q (by omega) (fun e => n1 (Option.some.inj e))).trans (hk3 q (hx q hq) n2 n4)
  · intro x q hq
    rcases List.mem_append.1 hq with hq | hq
    · exact h.idC x q hq
    · rw [List.mem_singleton] at hq
      exact hcr x q hq.symm

theorem DK.altered_fr {w1 w2 w3 : World} {v : Value} (h : DK w X base dp S I) (g1 : w.grownBy w1 (some I.F)) (e2 : Ext w1 w2) (g3 : w2.grownBy w3 (Value.slice I.Ac I.clos.length I.cc).ownBlock) : FrX X w (w3.setCell ⟨dp, 3, none⟩ v) :=
  (((grownBy_frX g1 (.inl h.xs.2.1)).trans (e2.frX X)).trans (row_frX g3 h.rx)).trans (grownBy_frX (setCell_grown w3 ⟨dp, 3, none⟩ v) (.inl h.xs.1))

theorem alter_any {k : Clo} {g : Chg} (h : DK w X base dp S I) (hk : CloR w k g) (hx : ∀ q, k.has q → X q) (hg : okC S.files g) (hid : ∀ x q, lkp (apD S.files g) x = some q → x.length ≤ 40 ∧ ∃ f, (q, f) ∈ S.fl) (hcr : ∀ x q, g = .cr x q → ∃ f, (q, f) ∈ S.fl) (h4 : (apD S.files g).length ≤ 400) (hn : S.chs.length < 10000000000000) :
    Calls Try.prog 47 #[.pointer (some ⟨dp, 0, none⟩), k.v] w fun e w' => e = .returned (.tuple #[]) ∧ ∃ A c, DK w' (fun q => X q ∨ (w.heap.size ≤ q ∧ q < w'.heap.size)) base dp { S with files := apD S.files g, chs := S.chs ++ [g] } { I with Ac := A, cc := c, clos := I.clos ++ [k] } ∧ FrX X w w' := by
  have hfew := h.few
  have C := Lib.hid (clo_any h.dF (by omega) hk hg (fun q hq => by
    obtain ⟨cur, e, h7, h8⟩ := hk.ty q hq
    exact (h.far h7 (by rcases h8 with rfl | rfl <;> decide) (by rcases h8 with rfl | rfl <;> decide)).2.1))
  have hne := h.ne_F
  obtain ⟨c0, c1, c2, c3, c4, c5, c6⟩ := h.at_
  have hcl := h.cln
  have Hd := Lib.hid h
  have Hk := Lib.hid hk
  have Hx := Lib.hid hx
  have Hi := Lib.hid hid
  have Hc := Lib.hid hcr
  have H4 := Lib.hid h4
  obtain ⟨n, hnn⟩ : ∃ n, n = I.clos.length := ⟨_, rfl⟩
  rw [← hnn] at c3
  have Hnn := Lib.hid hnn
  have hn2 : (n + 1) * 8 ≤ 140737488355328 := by omega
  clear h hk hx hid hcr h4 c0 c2 c4 c5 c6 hnn hcl
  have fr : w.frozen? ⟨dp, 3, none⟩ = false := by simp [World.frozen?, Hd.out.blk]
  cases k with
  | cr bf bx =>
    rw [show (Clo.cr bf bx).v = .func (.func 79) #[] #[.pointer (some ⟨bf, 0, none⟩), .pointer (some ⟨bx, 0, none⟩)] from rfl]
    replace C : Hid (Calls Try.prog 79 #[.map (some I.F), .pointer (some ⟨bf, 0, none⟩), .pointer (some ⟨bx, 0, none⟩)] w fun e w' => e = .returned (.tuple #[]) ∧ DirR w' I.F (apD S.files g) ∧ w.grownBy w' (some I.F)) := C
    go_enter Try.func47, Try.ntmps47
    go_wp2_with fail
    refine C.out.mono ?_
    rintro e w1 ⟨rfl, d1, g1⟩
    have D1 := Lib.hid d1
    have G1 := Lib.hid g1
    have c3' : w1.cell? ⟨dp, 3, none⟩ = some (.slice I.Ac n I.cc) := (World.cell?_of_block (w := w) (a := ⟨dp, 3, none⟩) (g1.block dp (Hd.out.bd dp Hd.out.xs.1).2 (fun e => hne (Option.some.inj e)))).trans c3
    have HO := Lib.hid (Hd.out.row.grown g1 (fun a ha e => Hd.out.row_F a ha (Option.some.inj e)))
    have fr1 : w1.frozen? ⟨dp, 3, none⟩ = false := by simp [World.frozen?, (g1.block dp (Hd.out.bd dp Hd.out.xs.1).2 (fun e => hne (Option.some.inj e))).trans Hd.out.blk]
    have hbase : base ≤ w1.heap.size := by have := Hd.out.bd dp Hd.out.xs.1; have := g1.size; omega
    have HD1 := Lib.hid ((g1.block dp (Hd.out.bd dp Hd.out.xs.1).2 (fun e => hne (Option.some.inj e))).trans Hd.out.blk)
    have HR : Hid (some dp ≠ (Value.slice I.Ac n I.cc).ownBlock) := Lib.hid (by
      intro e
      cases hA : I.Ac with
      | none => rw [hA] at e; cases e
      | some a => rw [hA] at e; exact Hd.out.row_D a hA (Option.some.inj e).symm)
    have HL : Hid (dp < w1.heap.size) := Lib.hid (by have := (Hd.out.bd dp Hd.out.xs.1).2; have := g1.size; omega)
    clear d1 g1
    go_wp2_with (at_builtin; go_loud (refine wpList_pushAt shC (Clo.cr bf bx) 92 rfl _ _ 85 rfl _ 8 Try.underlying85 Try.infoChg rfl (by decide) (base := base) (HO.out.ext ((Ext.refl _).alloc _)) n Hnn.out.symm rfl rfl (heap_alloc_new _ _) hn2 (by omega) (by simp; omega) ?_; intro A c w3 o3 g3 a3; have HD3 := Lib.hid ((g3.block dp (by simp; have := HL.out; omega) HR.out).trans ((heap_alloc_old w1 _ HL.out).trans HD1.out)); have c33 := cell_of_row w3 dp 3 _ _ (0, 0) HD3.out; have fr3 : w3.frozen? ⟨dp, 3, none⟩ = false := by simp [World.frozen?, HD3.out]))
    go_end0
    have s1 := G1.out.size
    rw [Hnn.out] at g3 ⊢
    have hDK := Hd.out.altered Hk.out Hx.out Hi.out Hc.out H4.out D1.out G1.out ((Ext.refl _).alloc _) o3 g3 (fun a ha => by
      rcases a3 a ha with q | q
      · exact .inl q
      · exact .inr (by rw [q]; simp; omega))
    have e4 : (w3.setCell ⟨dp, 3, none⟩ (.slice A (I.clos.length + 1) c)).heap.size = w3.heap.size := by simp [World.setCell]
    exact ⟨rfl, A, c, by rw [e4]; exact hDK, Hd.out.altered_fr G1.out ((Ext.refl _).alloc _) g3⟩
  | mv bx bY =>
    rw [show (Clo.mv bx bY).v = .func (.func 84) #[] #[.pointer (some ⟨bx, 0, none⟩), .pointer (some ⟨bY, 0, none⟩)] from rfl]
    replace C : Hid (Calls Try.prog 84 #[.map (some I.F), .pointer (some ⟨bx, 0, none⟩), .pointer (some ⟨bY, 0, none⟩)] w fun e w' => e = .returned (.tuple #[]) ∧ DirR w' I.F (apD S.files g) ∧ w.grownBy w' (some I.F)) := C
    go_enter Try.func47, Try.ntmps47
    go_wp2_with fail
    refine C.out.mono ?_
    rintro e w1 ⟨rfl, d1, g1⟩
    have D1 := Lib.hid d1
    have G1 := Lib.hid g1
    have c3' : w1.cell? ⟨dp, 3, none⟩ = some (.slice I.Ac n I.cc) := (World.cell?_of_block (w := w) (a := ⟨dp, 3, none⟩) (g1.block dp (Hd.out.bd dp Hd.out.xs.1).2 (fun e => hne (Option.some.inj e)))).trans c3
    have HO := Lib.hid (Hd.out.row.grown g1 (fun a ha e => Hd.out.row_F a ha (Option.some.inj e)))
    have fr1 : w1.frozen? ⟨dp, 3, none⟩ = false := by simp [World.frozen?, (g1.block dp (Hd.out.bd dp Hd.out.xs.1).2 (fun e => hne (Option.some.inj e))).trans Hd.out.blk]
    have hbase : base ≤ w1.heap.size := by have := Hd.out.bd dp Hd.out.xs.1; have := g1.size; omega
    have HD1 := Lib.hid ((g1.block dp (Hd.out.bd dp Hd.out.xs.1).2 (fun e => hne (Option.some.inj e))).trans Hd.out.blk)
    have HR : Hid (some dp ≠ (Value.slice I.Ac n I.cc).ownBlock) := Lib.hid (by
      intro e
      cases hA : I.Ac with
      | none => rw [hA] at e; cases e
      | some a => rw [hA] at e; exact Hd.out.row_D a hA (Option.some.inj e).symm)
    have HL : Hid (dp < w1.heap.size) := Lib.hid (by have := (Hd.out.bd dp Hd.out.xs.1).2; have := g1.size; omega)
    clear d1 g1
    go_wp2_with (at_builtin; go_loud (refine wpList_pushAt shC (Clo.mv bx bY) 92 rfl _ _ 85 rfl _ 8 Try.underlying85 Try.infoChg rfl (by decide) (base := base) (HO.out.ext ((Ext.refl _).alloc _)) n Hnn.out.symm rfl rfl (heap_alloc_new _ _) hn2 (by omega) (by simp; omega) ?_; intro A c w3 o3 g3 a3; have HD3 := Lib.hid ((g3.block dp (by simp; have := HL.out; omega) HR.out).trans ((heap_alloc_old w1 _ HL.out).trans HD1.out)); have c33 := cell_of_row w3 dp 3 _ _ (0, 0) HD3.out; have fr3 : w3.frozen? ⟨dp, 3, none⟩ = false := by simp [World.frozen?, HD3.out]))
    go_end0
    have s1 := G1.out.size
    rw [Hnn.out] at g3 ⊢
    have hDK := Hd.out.altered Hk.out Hx.out Hi.out Hc.out H4.out D1.out G1.out ((Ext.refl _).alloc _) o3 g3 (fun a ha => by
      rcases a3 a ha with q | q
      · exact .inl q
      · exact .inr (by rw [q]; simp; omega))
    have e4 : (w3.setCell ⟨dp, 3, none⟩ (.slice A (I.clos.length + 1) c)).heap.size = w3.heap.size := by simp [World.setCell]
    exact ⟨rfl, A, c, by rw [e4]; exact hDK, Hd.out.altered_fr G1.out ((Ext.refl _).alloc _) g3⟩
  | rm bx =>
    rw [show (Clo.rm bx).v = .func (.func 95) #[] #[.pointer (some ⟨bx, 0, none⟩)] from rfl]
    replace C : Hid (Calls Try.prog 95 #[.map (some I.F), .pointer (some ⟨bx, 0, none⟩)] w fun e w' => e = .returned (.tuple #[]) ∧ DirR w' I.F (apD S.files g) ∧ w.grownBy w' (some I.F)) := C
    go_enter Try.func47, Try.ntmps47
    go_wp2_with fail
    refine C.out.mono ?_
    rintro e w1 ⟨rfl, d1, g1⟩
    have D1 := Lib.hid d1
    have G1 := Lib.hid g1
    have c3' : w1.cell? ⟨dp, 3, none⟩ = some (.slice I.Ac n I.cc) := (World.cell?_of_block (w := w) (a := ⟨dp, 3, none⟩) (g1.block dp (Hd.out.bd dp Hd.out.xs.1).2 (fun e => hne (Option.some.inj e)))).trans c3
    have HO := Lib.hid (Hd.out.row.grown g1 (fun a ha e => Hd.out.row_F a ha (Option.some.inj e)))
    have fr1 : w1.frozen? ⟨dp, 3, none⟩ = false := by simp [World.frozen?, (g1.block dp (Hd.out.bd dp Hd.out.xs.1).2 (fun e => hne (Option.some.inj e))).trans Hd.out.blk]
    have hbase : base ≤ w1.heap.size := by have := Hd.out.bd dp Hd.out.xs.1; have := g1.size; omega
    have HD1 := Lib.hid ((g1.block dp (Hd.out.bd dp Hd.out.xs.1).2 (fun e => hne (Option.some.inj e))).trans Hd.out.blk)
    have HR : Hid (some dp ≠ (Value.slice I.Ac n I.cc).ownBlock) := Lib.hid (by
      intro e
      cases hA : I.Ac with
      | none => rw [hA] at e; cases e
      | some a => rw [hA] at e; exact Hd.out.row_D a hA (Option.some.inj e).symm)
    have HL : Hid (dp < w1.heap.size) := Lib.hid (by have := (Hd.out.bd dp Hd.out.xs.1).2; have := g1.size; omega)
    clear d1 g1
    go_wp2_with (at_builtin; go_loud (refine wpList_pushAt shC (Clo.rm bx) 92 rfl _ _ 85 rfl _ 8 Try.underlying85 Try.infoChg rfl (by decide) (base := base) (HO.out.ext ((Ext.refl _).alloc _)) n Hnn.out.symm rfl rfl (heap_alloc_new _ _) hn2 (by omega) (by simp; omega) ?_; intro A c w3 o3 g3 a3; have HD3 := Lib.hid ((g3.block dp (by simp; have := HL.out; omega) HR.out).trans ((heap_alloc_old w1 _ HL.out).trans HD1.out)); have c33 := cell_of_row w3 dp 3 _ _ (0, 0) HD3.out; have fr3 : w3.frozen? ⟨dp, 3, none⟩ = false := by simp [World.frozen?, HD3.out]))
    go_end0
    have s1 := G1.out.size
    rw [Hnn.out] at g3 ⊢
    have hDK := Hd.out.altered Hk.out Hx.out Hi.out Hc.out H4.out D1.out G1.out ((Ext.refl _).alloc _) o3 g3 (fun a ha => by
      rcases a3 a ha with q | q
      · exact .inl q
      · exact .inr (by rw [q]; simp; omega))
    have e4 : (w3.setCell ⟨dp, 3, none⟩ (.slice A (I.clos.length + 1) c)).heap.size = w3.heap.size := by simp [World.setCell]
    exact ⟨rfl, A, c, by rw [e4]; exact hDK, Hd.out.altered_fr G1.out ((Ext.refl _).alloc _) g3⟩
end

end Go.Proofs.Ytjckfbpdnpehcaa
