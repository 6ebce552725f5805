/-
  Layer 17: the document's calls on a clock.
-/
import Derived.Test.YtkmnhapeohlooaaMR2
namespace Go.Proofs.Ytkmnhapeohlooaa
open Go.RowKit Go.Maps
set_option maxRecDepth 100000

theorem results_c1 {P : Program} {fn : Func} {p : Tmp} {ty : TypeId} (h : fn.results = #[.cell p ty]) (tmps : Array Value) (w : World) (g : Nat) (T : TypeId) (cs : Array Value) (fr : Nat × Nat) (d : TypeDesc)
    (hp : tmps.getD p undef = .pointer (some ⟨g, 0, none⟩)) (hg : w.heap[g]? = some (.cells cs T fr))
    (hu : P.underlying ty = some d) (hd : (match d with | .struct _ | .array _ _ => true | _ => false) = true) (hi : (P.info? ty).map (·.size) = some cs.size) :
    (results fn tmps).run P w = .ok (.agg cs) w := by
  have hp' : tmps[p]?.getD undef = .pointer (some ⟨g, 0, none⟩) := by simpa using hp
  simp [results, h, hp', asAddr, run_loadVar_row w g T ty cs fr d hg hu hd hi]
theorem results_c2 {P : Program} {fn : Func} {p t : Tmp} {ty : TypeId} (h : fn.results = #[.cell p ty, .tmp t]) (tmps : Array Value) (w : World) (g : Nat) (T : TypeId) (cs : Array Value) (fr : Nat × Nat) (d : TypeDesc)
    (hp : tmps.getD p undef = .pointer (some ⟨g, 0, none⟩)) (hg : w.heap[g]? = some (.cells cs T fr))
    (hu : P.underlying ty = some d) (hd : (match d with | .struct _ | .array _ _ => true | _ => false) = true) (hi : (P.info? ty).map (·.size) = some cs.size) :
    (results fn tmps).run P w = .ok (.tuple #[.agg cs, tmps.getD t undef]) w := by
  have hp' : tmps[p]?.getD undef = .pointer (some ⟨g, 0, none⟩) := by simpa using hp
  simp [results, h, hp', asAddr, run_loadVar_row w g T ty cs fr d hg hu hd hi]
theorem results_c3 {P : Program} {fn : Func} {p t u : Tmp} {ty : TypeId} (h : fn.results = #[.cell p ty, .tmp t, .tmp u]) (tmps : Array Value) (w : World) (g : Nat) (T : TypeId) (cs : Array Value) (fr : Nat × Nat) (d : TypeDesc)
    (hp : tmps.getD p undef = .pointer (some ⟨g, 0, none⟩)) (hg : w.heap[g]? = some (.cells cs T fr))
    (hu : P.underlying ty = some d) (hd : (match d with | .struct _ | .array _ _ => true | _ => false) = true) (hi : (P.info? ty).map (·.size) = some cs.size) :
    (results fn tmps).run P w = .ok (.tuple #[.agg cs, tmps.getD t undef, tmps.getD u undef]) w := by
  have hp' : tmps[p]?.getD undef = .pointer (some ⟨g, 0, none⟩) := by simpa using hp
  simp [results, h, hp', asAddr, run_loadVar_row w g T ty cs fr d hg hu hd hi]

/-- The cells of a clock's value. -/
abbrev ccs (now last mark : Int) (fl pn : Value) : Array Value := #[.int .i64 now, .int .i64 last, .int .i64 mark, fl, pn]

/-- A clock stored into a block that the call has laid. -/
theorem wpList_store_clk {ops : Array Oper} {rest : List Oper} {o : Oper} {a : Act} {w : World} {Q : Exit → Act → World → Prop} (hgd : o.guard = none) (x y : Operand) (ho : o.op = .store 28 x y)
    (g : Nat) (now last mark : Int) (A : Option Addr) (n c : Nat) (A2 : Option Addr) (n2 c2 : Nat) (hx : a.eval x = .pointer (some ⟨g, 0, none⟩)) (hy : a.eval y = cval now last mark (.slice A n c) (.slice A2 n2 c2)) {b : Array Value} (hb : b.size = 5) (hg : w.heap[g]? = some (.cells b 28))
    (h : wpList Try.prog ops Q rest (a.put o.dst undef) (w.setRow g (ccs now last mark (.slice A n c) (.slice A2 n2 c2)))) : wpList Try.prog ops Q (o :: rest) a w :=
  wpList_store_row hgd 28 x y ho g (ccs now last mark (.slice A n c) (.slice A2 n2 c2)) hx hy 28 b hg (by kernel_rfl) (by rw [hb]; rfl) (by simp [Value.oneCell']) h

/-- A clock's block, and the next one. -/
structure Two (W : World) (g : Nat) (a b : Array Value) : Prop where
  fst : W.heap[g]? = some (.cells a 28 (0, 0))
  snd : W.heap[g + 1]? = some (.cells b 28 (0, 0))

theorem two_made (w : World) (a b : Array Value) : Two ((w.alloc (.cells a 28)).alloc (.cells b 28)) w.heap.size a b := by
  refine ⟨?_, ?_⟩
  · exact (Below.heap_alloc _ _ _ (by simp)).trans (heap_alloc_new w _)
  · have := heap_alloc_new (w.alloc (.cells a 28)) (.cells b 28)
    simpa using this
theorem Two.ext {W W' : World} {g : Nat} {a b : Array Value} (h : Two W g a b) (he : Ext W W') : Two W' g a b :=
  ⟨(he.block g (Array.getElem?_eq_some_iff.1 h.fst).1).trans h.fst, (he.block _ (Array.getElem?_eq_some_iff.1 h.snd).1).trans h.snd⟩
theorem Two.set {W : World} {g : Nat} {a b : Array Value} (h : Two W g a b) (i : Nat) (v : Value) : Two (W.setCell ⟨g, i, none⟩ v) g (a.setIfInBounds i v) b :=
  ⟨heap_setCell_same W g i _ _ _ h.fst, (Below.heap_setCell W _ v (g + 1) (by simp)).trans h.snd⟩
theorem Two.fro {W : World} {g : Nat} {a b : Array Value} (h : Two W g a b) (i : Nat) : W.frozen? ⟨g, i, none⟩ = false := by simp [World.frozen?, h.fst]
theorem Two.c {W : World} {g : Nat} {now last mark : Int} {fl pn : Value} {b : Array Value} (h : Two W g (ccs now last mark fl pn) b) :
    W.cell? ⟨g, 0, none⟩ = some (.int .i64 now) ∧ W.cell? ⟨g, 1, none⟩ = some (.int .i64 last) ∧ W.cell? ⟨g, 2, none⟩ = some (.int .i64 mark) ∧ W.cell? ⟨g, 3, none⟩ = some fl ∧ W.cell? ⟨g, 4, none⟩ = some pn ∧ (∀ i, W.frozen? ⟨g, i, none⟩ = false) := by
  refine ⟨?_, ?_, ?_, ?_, ?_, h.fro⟩ <;> (rw [cell_of_row W g _ _ _ (0, 0) h.fst]; rfl)
abbrev zcs : Array Value := ccs 0 0 0 (.slice none 0 0) (.slice none 0 0)

/-- What a call answers: the clock behind it; its lists lie in memory from base on, or where they lay. -/
structure CV (w : World) (base : Nat) (v : Value) (s : CkS) : Prop where
  ex : ∃ A c A2 c2, v = cval s.now s.last s.mark (.slice A s.fl.length c) (.slice A2 s.pn.length c2) ∧ OwnG shZ 2 w base A c s.fl ∧ OwnG shZ 2 w base A2 c2 s.pn

theorem CV.ext {w w' : World} {base : Nat} {v : Value} {s : CkS} (h : CV w base v s) (he : Ext w w') : CV w' base v s := by
  obtain ⟨A, c, A2, c2, h1, h2, h3⟩ := h.ex
  exact ⟨A, c, A2, c2, h1, h2.ext he, h3.ext he⟩
theorem CV.fr {w w' : World} {b0 base : Nat} {v : Value} {s : CkS} (h : CV w base v s) (hf : Fr b0 base w w') : CV w' base v s := by
  obtain ⟨A, c, A2, c2, h1, h2, h3⟩ := h.ex
  exact ⟨A, c, A2, c2, h1, h2.fr hf (Nat.le_refl _), h3.fr hf (Nat.le_refl _)⟩

section
variable {w : World} {base N : Nat} {v : Value} {s : CkS} (h : CV w base v s) (ho : s.Ok N) (hN : N ≤ 17592186044416) (hbase : base ≤ w.heap.size)
include h ho hN hbase

set_option maxHeartbeats 1600000 in
theorem rbegin_any : Calls Try.prog 50 #[v] w fun e w' => ∃ v', e = .returned (.tuple #[v', .int .i64 s.begin.2.1, .int .i64 s.begin.2.2]) ∧ CV w' base v' s.begin.1 ∧ Ext w w' := by
  obtain ⟨A, c, A2, c2, rfl, hA, hA2⟩ := h.ex
  obtain ⟨now, last, mark, fl, pn⟩ := s
  have hr := CkS.next_ok ho
  obtain ⟨o1, o2, o3, o4, o5, o6⟩ := ho
  simp only at hA hA2 o1 o2 o4 o5
  have hnx : CkS.next ⟨now, last, mark, fl, pn⟩ = if last + 1 > now then last + 1 else now := rfl
  have HB : Hid (CkS.begin ⟨now, last, mark, fl, pn⟩ = if CkS.next ⟨now, last, mark, fl, pn⟩ > 1099511627776 then (⟨now, last, mark, fl, pn⟩, 0, 170) else (⟨now, CkS.next ⟨now, last, mark, fl, pn⟩, mark, fl ++ [CkS.next ⟨now, last, mark, fl, pn⟩], pn⟩, CkS.next ⟨now, last, mark, fl, pn⟩, 0)) := Lib.hid rfl
  obtain ⟨S, hS⟩ : ∃ S, S = CkS.begin ⟨now, last, mark, fl, pn⟩ := ⟨_, rfl⟩
  rw [← hS] at HB ⊢
  have HC := Lib.hid (fun W => rnext_any now last mark A fl.length c A2 pn.length c2 W o2)
  obtain ⟨X, hX⟩ : ∃ X, X = CkS.next ⟨now, last, mark, fl, pn⟩ := ⟨_, rfl⟩
  rw [← hX] at HB hr hnx
  rw [← hnx] at HC
  have HT := Lib.hid (two_made w (ccs now last mark (.slice A fl.length c) (.slice A2 pn.length c2)) zcs)
  have HE0 : Hid (Ext w ((w.alloc (.cells (ccs now last mark (.slice A fl.length c) (.slice A2 pn.length c2)) 28)).alloc (.cells zcs 28))) := Lib.hid (((Ext.refl w).alloc _).alloc _)
  have HP := Lib.hid (fun W (hW : Ext w W) => rput_any A fl.length c fl X W (hA.rd.ext hW) (by omega))
  obtain ⟨n, hn⟩ : ∃ n, n = fl.length := ⟨_, rfl⟩
  obtain ⟨n2, hn2⟩ : ∃ n2, n2 = pn.length := ⟨_, rfl⟩
  have Hn := Lib.hid hn
  have Hn2 := Lib.hid hn2
  have HA := Lib.hid hA
  have HA2 := Lib.hid hA2
  simp only [← hn, ← hn2] at HC HT HE0 HP ⊢
  obtain ⟨r1, r2⟩ := hr
  clear hS hX hnx hn hn2 hA hA2 h o1 o2 o3 o4 o5 o6
  by_cases q : X > 1099511627776
  · have HB2 : Hid (S = (⟨now, last, mark, fl, pn⟩, 0, 170)) := Lib.hid (by rw [HB.out, if_pos q])
    have d : decide (1099511627776 < X) = true := decide_eq_true q
    clear HB q
    go_enter Try.func50, Try.ntmps50
    go_wp2_with fail
    refine (HC.out _).mono ?_
    rintro e w1 ⟨rfl, he1⟩
    have ht := HT.out.ext he1
    have HT1 := Lib.hid ht
    obtain ⟨c0, c1, c2', c3, c4, cf⟩ := ht.c
    have HE1 := Lib.hid (HE0.out.trans he1)
    clear ht he1
    go_wp2_with (refine wpList_store_clk rfl _ _ rfl (w.heap.size + 1) now last mark A n c A2 n2 c2 rfl rfl rfl HT1.out.snd ?_)
    apply bodyPost_ret
    · exact results_c3 rfl _ _ (w.heap.size + 1) 28 (ccs now last mark (.slice A n c) (.slice A2 n2 c2)) (0, 0) _ rfl (setRow_heap w1 (w.heap.size + 1) _ _ 28 (0, 0) HT1.out.snd) Try.underlying28 rfl (by kernel_rfl)
    · rfl
    rw [HB2.out]
    have hE2 : Ext w (w1.setRow (w.heap.size + 1) (ccs now last mark (.slice A n c) (.slice A2 n2 c2))) := HE1.out.setRow (by omega) _
    exact ⟨_, rfl, ⟨A, c, A2, c2, by rw [Hn.out, Hn2.out], HA.out.ext hE2, HA2.out.ext hE2⟩, hE2⟩
  · have HB2 : Hid (S = (⟨now, X, mark, fl ++ [X], pn⟩, X, 0)) := Lib.hid (by rw [HB.out, if_neg q])
    have d : decide (1099511627776 < X) = false := decide_eq_false q
    clear HB q
    go_enter Try.func50, Try.ntmps50
    go_wp2_with fail
    refine (HC.out _).mono ?_
    rintro e w1 ⟨rfl, he1⟩
    have ht := HT.out.ext he1
    obtain ⟨c0, c1, c2', c3, c4, cf⟩ := ht.c
    have ht1 := ht.set 1 (.int .i64 X)
    have HT1 : Hid (Two (w1.setCell ⟨w.heap.size, 1, none⟩ (.int .i64 X)) w.heap.size (ccs now X mark (.slice A n c) (.slice A2 n2 c2)) zcs) := Lib.hid ht1
    obtain ⟨e0, e1, e2, e3, e4, ef⟩ := HT1.out.c
    have HE1 : Hid (Ext w (w1.setCell ⟨w.heap.size, 1, none⟩ (.int .i64 X))) := Lib.hid ((HE0.out.trans he1).setCell (Nat.le_refl _) _)
    have HP1 := Lib.hid (HP.out _ HE1.out)
    clear ht he1 ht1 e0 e1 e2 e4 ef
    go_wp2_with fail
    refine HP1.out.mono ?_
    rintro e w2 ⟨A3, c3', rfl, hown3, he3⟩
    have ht2 := HT1.out.ext he3
    have ht3 := ht2.set 3 (.slice A3 (n + 1) c3')
    have HT3 : Hid (Two (w2.setCell ⟨w.heap.size, 3, none⟩ (.slice A3 (n + 1) c3')) w.heap.size (ccs now X mark (.slice A3 (n + 1) c3') (.slice A2 n2 c2)) zcs) := Lib.hid ht3
    obtain ⟨g0, g1, g2, g3, g4, gf⟩ := ht2.c
    have hz2 : w.heap.size + 2 ≤ w2.heap.size := by have := (Array.getElem?_eq_some_iff.1 ht2.snd).1; omega
    have hz1 : w.heap.size + 2 ≤ (w1.setCell ⟨w.heap.size, 1, none⟩ (.int .i64 X)).heap.size := by have := (Array.getElem?_eq_some_iff.1 HT1.out.snd).1; omega
    have Hz1 := Lib.hid hz1
    have HE3 : Hid (Ext w (w2.setCell ⟨w.heap.size, 3, none⟩ (.slice A3 (n + 1) c3'))) := Lib.hid ((HE1.out.trans he3).setCell (Nat.le_refl _) _)
    have H3 := Lib.hid hown3
    clear ht2 ht3 he3 hz2 hz1 hown3
    go_wp2_with (refine wpList_store_clk rfl _ _ rfl (w.heap.size + 1) now X mark A3 (n + 1) c3' A2 n2 c2 rfl rfl rfl HT3.out.snd ?_)
    apply bodyPost_ret
    · exact results_c3 rfl _ _ (w.heap.size + 1) 28 (ccs now X mark (.slice A3 (n + 1) c3') (.slice A2 n2 c2)) (0, 0) _ rfl (setRow_heap _ (w.heap.size + 1) _ _ 28 (0, 0) HT3.out.snd) Try.underlying28 rfl (by kernel_rfl)
    · rfl
    rw [HB2.out]
    have hz1 := Hz1.out
    have hE4 : Ext w ((w2.setCell ⟨w.heap.size, 3, none⟩ (.slice A3 (n + 1) c3')).setRow (w.heap.size + 1) (ccs now X mark (.slice A3 (n + 1) c3') (.slice A2 n2 c2))) := HE3.out.setRow (by omega) _
    have k1 := H3.out.grown (grown_setCellM w2 w.heap.size 3 (.slice A3 (n + 1) c3')) (fun a ha e => by have := (H3.out.block a ha).1; injection e with e; omega)
    have k2 := k1.grown (grown_setRow _ (w.heap.size + 1) (ccs now X mark (.slice A3 (n + 1) c3') (.slice A2 n2 c2))) (fun a ha e => by have := (k1.block a ha).1; injection e with e; omega)
    refine ⟨_, rfl, ⟨A3, c3', A2, c2, ?_, k2.mono (by omega), HA2.out.ext hE4⟩, hE4⟩
    show _ = cval now X mark (.slice A3 (fl ++ [X]).length c3') (.slice A2 pn.length c2)
    rw [← Hn2.out, List.length_append, ← Hn.out]
    rfl

set_option maxHeartbeats 1600000 in
theorem rpin_any (t : Int) : Calls Try.prog 55 #[v, .int .i64 t] w fun e w' => ∃ v', e = .returned (.tuple #[v', .int .i64 (s.pin t).2]) ∧ CV w' base v' (s.pin t).1 ∧ Ext w w' := by
  obtain ⟨A, c, A2, c2, rfl, hA, hA2⟩ := h.ex
  obtain ⟨now, last, mark, fl, pn⟩ := s
  obtain ⟨o1, o2, o3, o4, o5, o6⟩ := ho
  simp only at hA hA2 o1 o2 o4 o5
  have HB : Hid (CkS.pin ⟨now, last, mark, fl, pn⟩ t = if t < 0 ∨ t > 1099511627776 then (⟨now, last, mark, fl, pn⟩, 1) else if t < mark then (⟨now, last, mark, fl, pn⟩, 171) else (⟨now, last, mark, fl, pn ++ [t]⟩, 0)) := Lib.hid rfl
  obtain ⟨S, hS⟩ : ∃ S, S = CkS.pin ⟨now, last, mark, fl, pn⟩ t := ⟨_, rfl⟩
  rw [← hS] at HB ⊢
  have HT := Lib.hid (two_made w (ccs now last mark (.slice A fl.length c) (.slice A2 pn.length c2)) zcs)
  have HE0 : Hid (Ext w ((w.alloc (.cells (ccs now last mark (.slice A fl.length c) (.slice A2 pn.length c2)) 28)).alloc (.cells zcs 28))) := Lib.hid (((Ext.refl w).alloc _).alloc _)
  have HP := Lib.hid (fun W (hW : Ext w W) => rput_any A2 pn.length c2 pn t W (hA2.rd.ext hW) (by omega))
  obtain ⟨n, hn⟩ : ∃ n, n = fl.length := ⟨_, rfl⟩
  obtain ⟨n2, hn2⟩ : ∃ n2, n2 = pn.length := ⟨_, rfl⟩
  have Hn := Lib.hid hn
  have Hn2 := Lib.hid hn2
  have HA := Lib.hid hA
  have HA2 := Lib.hid hA2
  simp only [← hn, ← hn2] at HT HE0 HP ⊢
  clear hS hn hn2 hA hA2 h o1 o2 o3 o4 o5 o6
  have key : (decide (t < 0) = true) ∨ (decide (t < 0) = false ∧ decide (1099511627776 < t) = true) ∨ (decide (t < 0) = false ∧ decide (1099511627776 < t) = false ∧ decide (t < mark) = true) ∨ (decide (t < 0) = false ∧ decide (1099511627776 < t) = false ∧ decide (t < mark) = false) := by
    simp only [decide_eq_true_eq, decide_eq_false_iff_not]
    omega
  rcases key with q1 | ⟨q1, q2⟩ | ⟨q1, q2, q3⟩ | ⟨q1, q2, q3⟩
  · have HB2 : Hid (S = (⟨now, last, mark, fl, pn⟩, 1)) := Lib.hid (by rw [HB.out, if_pos (.inl (of_decide_eq_true q1))])
    clear HB
    go_enter Try.func55, Try.ntmps55
    go_wp2_with fail
    refine bodyPost_ret (v := .tuple #[cval now last mark (.slice A n c) (.slice A2 n2 c2), .int .i64 1]) (by simp [results, Try.results55, go_sem]) rfl ?_
    rw [HB2.out]
    have hE4 : Ext w ((w.alloc (.cells (ccs now last mark (.slice A n c) (.slice A2 n2 c2)) 28)).alloc (.cells (ccs now last mark (.slice A n c) (.slice A2 n2 c2)) 28)) := ((Ext.refl w).alloc _).alloc _
    exact ⟨_, rfl, ⟨A, c, A2, c2, by rw [← Hn.out, ← Hn2.out], HA.out.ext hE4, HA2.out.ext hE4⟩, hE4⟩
  · have HB2 : Hid (S = (⟨now, last, mark, fl, pn⟩, 1)) := Lib.hid (by rw [HB.out, if_pos (.inr (of_decide_eq_true q2))])
    clear HB
    go_enter Try.func55, Try.ntmps55
    go_wp2_with fail
    refine bodyPost_ret (v := .tuple #[cval now last mark (.slice A n c) (.slice A2 n2 c2), .int .i64 1]) (by simp [results, Try.results55, go_sem]) rfl ?_
    rw [HB2.out]
    have hE4 : Ext w ((w.alloc (.cells (ccs now last mark (.slice A n c) (.slice A2 n2 c2)) 28)).alloc (.cells (ccs now last mark (.slice A n c) (.slice A2 n2 c2)) 28)) := ((Ext.refl w).alloc _).alloc _
    exact ⟨_, rfl, ⟨A, c, A2, c2, by rw [← Hn.out, ← Hn2.out], HA.out.ext hE4, HA2.out.ext hE4⟩, hE4⟩
  · have HB2 : Hid (S = (⟨now, last, mark, fl, pn⟩, 171)) := Lib.hid (by rw [HB.out, if_neg (by rintro (q | q); exact of_decide_eq_false q1 q; exact of_decide_eq_false q2 q), if_pos (of_decide_eq_true q3)])
    clear HB
    go_enter Try.func55, Try.ntmps55
    go_wp2_with fail
    refine bodyPost_ret (v := .tuple #[cval now last mark (.slice A n c) (.slice A2 n2 c2), .int .i64 171]) (by simp [results, Try.results55, go_sem]) rfl ?_
    rw [HB2.out]
    have hE4 : Ext w ((w.alloc (.cells (ccs now last mark (.slice A n c) (.slice A2 n2 c2)) 28)).alloc (.cells (ccs now last mark (.slice A n c) (.slice A2 n2 c2)) 28)) := ((Ext.refl w).alloc _).alloc _
    exact ⟨_, rfl, ⟨A, c, A2, c2, by rw [← Hn.out, ← Hn2.out], HA.out.ext hE4, HA2.out.ext hE4⟩, hE4⟩
  · have HB2 : Hid (S = (⟨now, last, mark, fl, pn ++ [t]⟩, 0)) := Lib.hid (by rw [HB.out, if_neg (by rintro (q | q); exact of_decide_eq_false q1 q; exact of_decide_eq_false q2 q), if_neg (of_decide_eq_false q3)])
    clear HB
    go_enter Try.func55, Try.ntmps55
    have HP1 := Lib.hid (HP.out _ HE0.out)
    go_wp2_with fail
    refine HP1.out.mono ?_
    rintro e w2 ⟨A3, c3', rfl, hown3, he3⟩
    have ht2 := HT.out.ext he3
    have ht3 := ht2.set 4 (.slice A3 (n2 + 1) c3')
    have HT3 : Hid (Two (w2.setCell ⟨w.heap.size, 4, none⟩ (.slice A3 (n2 + 1) c3')) w.heap.size (ccs now last mark (.slice A n c) (.slice A3 (n2 + 1) c3')) zcs) := Lib.hid ht3
    obtain ⟨g0, g1, g2, g3, g4, gf⟩ := ht2.c
    have HE3 : Hid (Ext w (w2.setCell ⟨w.heap.size, 4, none⟩ (.slice A3 (n2 + 1) c3'))) := Lib.hid ((HE0.out.trans he3).setCell (Nat.le_refl _) _)
    have H3 := Lib.hid hown3
    clear ht2 ht3 he3 hown3
    go_wp2_with (refine wpList_store_clk rfl _ _ rfl (w.heap.size + 1) now last mark A n c A3 (n2 + 1) c3' rfl rfl rfl HT3.out.snd ?_)
    apply bodyPost_ret
    · exact results_c2 rfl _ _ (w.heap.size + 1) 28 (ccs now last mark (.slice A n c) (.slice A3 (n2 + 1) c3')) (0, 0) _ rfl (setRow_heap _ (w.heap.size + 1) _ _ 28 (0, 0) HT3.out.snd) Try.underlying28 rfl (by kernel_rfl)
    · rfl
    rw [HB2.out]
    have hz1 : ((w.alloc (.cells (ccs now last mark (.slice A n c) (.slice A2 n2 c2)) 28)).alloc (.cells zcs 28)).heap.size = w.heap.size + 2 := by simp
    have hE4 : Ext w ((w2.setCell ⟨w.heap.size, 4, none⟩ (.slice A3 (n2 + 1) c3')).setRow (w.heap.size + 1) (ccs now last mark (.slice A n c) (.slice A3 (n2 + 1) c3'))) := HE3.out.setRow (by omega) _
    have k1 := H3.out.grown (grown_setCellM w2 w.heap.size 4 (.slice A3 (n2 + 1) c3')) (fun a ha e => by have := (H3.out.block a ha).1; injection e with e; omega)
    have k2 := k1.grown (grown_setRow _ (w.heap.size + 1) (ccs now last mark (.slice A n c) (.slice A3 (n2 + 1) c3'))) (fun a ha e => by have := (k1.block a ha).1; injection e with e; omega)
    refine ⟨_, rfl, ⟨A, c, A3, c3', ?_, HA.out.ext hE4, k2.mono (by omega)⟩, hE4⟩
    show _ = cval now last mark (.slice A fl.length c) (.slice A3 (pn ++ [t]).length c3')
    rw [← Hn.out, List.length_append, ← Hn2.out]
    rfl

set_option maxHeartbeats 1600000 in
theorem rend_any (t : Int) : Calls Try.prog 51 #[v, .int .i64 t] w fun e w' => ∃ v', e = .returned (.tuple #[v', .int .i64 (endE s.fl t)]) ∧ CV w' base v' (s.fin t) ∧ Ext w w' := by
  obtain ⟨A, c, A2, c2, rfl, hA, hA2⟩ := h.ex
  obtain ⟨now, last, mark, fl, pn⟩ := s
  obtain ⟨o1, o2, o3, o4, o5, o6⟩ := ho
  simp only at hA hA2 o1 o2 o4 o5
  have HS : Hid (CkS.fin ⟨now, last, mark, fl, pn⟩ t = ⟨now, last, mark, fl.erase t, pn⟩) := Lib.hid rfl
  have HE : Hid (endE fl t = if t ∈ fl then 0 else 172) := Lib.hid rfl
  obtain ⟨S, hS⟩ : ∃ S, S = CkS.fin ⟨now, last, mark, fl, pn⟩ t := ⟨_, rfl⟩
  rw [← hS] at HS ⊢
  simp only
  obtain ⟨E, hE⟩ : ∃ E, E = endE fl t := ⟨_, rfl⟩
  rw [← hE] at HE ⊢
  have HT := Lib.hid (two_made w (ccs now last mark (.slice A fl.length c) (.slice A2 pn.length c2)) zcs)
  have HE0 : Hid (Ext w ((w.alloc (.cells (ccs now last mark (.slice A fl.length c) (.slice A2 pn.length c2)) 28)).alloc (.cells zcs 28))) := Lib.hid (((Ext.refl w).alloc _).alloc _)
  have HP := Lib.hid (fun W (hW : Ext w W) => rwithout_any A fl.length c fl t W (hA.rd.ext hW) (by omega))
  obtain ⟨n, hn⟩ : ∃ n, n = fl.length := ⟨_, rfl⟩
  obtain ⟨n2, hn2⟩ : ∃ n2, n2 = pn.length := ⟨_, rfl⟩
  obtain ⟨m, hm⟩ : ∃ m, m = (fl.erase t).length := ⟨_, rfl⟩
  have Hn := Lib.hid hn
  have Hn2 := Lib.hid hn2
  have Hm := Lib.hid hm
  have HA := Lib.hid hA
  have HA2 := Lib.hid hA2
  simp only [← hn, ← hn2, ← hm] at HT HE0 HP ⊢
  clear hS hE hn hn2 hm hA hA2 h o1 o2 o3 o4 o5 o6
  by_cases q : t ∈ fl
  · have HE2 : Hid (E = 0) := Lib.hid (by rw [HE.out, if_pos q])
    rw [decide_eq_true q] at HP
    clear HE q
    go_enter Try.func51, Try.ntmps51
    have HP1 := Lib.hid (HP.out _ HE0.out)
    obtain ⟨c0, c1, c2', c3, c4, cf⟩ := HT.out.c
    clear c0 c1 c2' c3 c4 cf
    go_wp2_with fail
    refine HP1.out.mono ?_
    rintro e w2 ⟨A3, c3', rfl, hown3, he3⟩
    have ht2 := HT.out.ext he3
    have ht3 := ht2.set 3 (.slice A3 m c3')
    have HT3 : Hid (Two (w2.setCell ⟨w.heap.size, 3, none⟩ (.slice A3 m c3')) w.heap.size (ccs now last mark (.slice A3 m c3') (.slice A2 n2 c2)) zcs) := Lib.hid ht3
    obtain ⟨g0, g1, g2, g3, g4, gf⟩ := ht2.c
    have HE3 : Hid (Ext w (w2.setCell ⟨w.heap.size, 3, none⟩ (.slice A3 m c3'))) := Lib.hid ((HE0.out.trans he3).setCell (Nat.le_refl _) _)
    have H3 := Lib.hid hown3
    clear ht2 ht3 he3 hown3
    go_wp2_with (refine wpList_store_clk rfl _ _ rfl (w.heap.size + 1) now last mark A3 m c3' A2 n2 c2 rfl rfl rfl HT3.out.snd ?_)
    apply bodyPost_ret
    · exact results_c2 rfl _ _ (w.heap.size + 1) 28 (ccs now last mark (.slice A3 m c3') (.slice A2 n2 c2)) (0, 0) _ rfl (setRow_heap _ (w.heap.size + 1) _ _ 28 (0, 0) HT3.out.snd) Try.underlying28 rfl (by kernel_rfl)
    · rfl
    rw [HS.out, HE2.out]
    have hz1 : ((w.alloc (.cells (ccs now last mark (.slice A n c) (.slice A2 n2 c2)) 28)).alloc (.cells zcs 28)).heap.size = w.heap.size + 2 := by simp
    have hE4 : Ext w ((w2.setCell ⟨w.heap.size, 3, none⟩ (.slice A3 m c3')).setRow (w.heap.size + 1) (ccs now last mark (.slice A3 m c3') (.slice A2 n2 c2))) := HE3.out.setRow (by omega) _
    have k1 := H3.out.grown (grown_setCellM w2 w.heap.size 3 (.slice A3 m c3')) (fun a ha e => by have := (H3.out.block a ha).1; injection e with e; omega)
    have k2 := k1.grown (grown_setRow _ (w.heap.size + 1) (ccs now last mark (.slice A3 m c3') (.slice A2 n2 c2))) (fun a ha e => by have := (k1.block a ha).1; injection e with e; omega)
    exact ⟨_, rfl, ⟨⟨A3, c3', A2, c2, by rw [← Hm.out, ← Hn2.out], k2.mono (by omega), HA2.out.ext hE4⟩⟩, hE4⟩
  · have HE2 : Hid (E = 172) := Lib.hid (by rw [HE.out, if_neg q])
    have Hq := Lib.hid q
    rw [decide_eq_false q] at HP
    clear HE q
    go_enter Try.func51, Try.ntmps51
    have HP1 := Lib.hid (HP.out _ HE0.out)
    go_wp2_with fail
    refine HP1.out.mono ?_
    rintro e w2 ⟨A3, c3', rfl, hown3, he3⟩
    have ht2 := HT.out.ext he3
    have HT2 := Lib.hid ht2
    obtain ⟨g0, g1, g2, g3, g4, gf⟩ := ht2.c
    have HE3 := Lib.hid (HE0.out.trans he3)
    clear ht2 he3 hown3
    go_wp2_with (refine wpList_store_clk rfl _ _ rfl (w.heap.size + 1) now last mark A n c A2 n2 c2 rfl rfl rfl HT2.out.snd ?_)
    apply bodyPost_ret
    · exact results_c2 rfl _ _ (w.heap.size + 1) 28 (ccs now last mark (.slice A n c) (.slice A2 n2 c2)) (0, 0) _ rfl (setRow_heap _ (w.heap.size + 1) _ _ 28 (0, 0) HT2.out.snd) Try.underlying28 rfl (by kernel_rfl)
    · rfl
    rw [HS.out, HE2.out, List.erase_of_not_mem Hq.out]
    have hE4 : Ext w (w2.setRow (w.heap.size + 1) (ccs now last mark (.slice A n c) (.slice A2 n2 c2))) := HE3.out.setRow (by omega) _
    exact ⟨_, rfl, ⟨A, c, A2, c2, by rw [← Hn.out, ← Hn2.out], HA.out.ext hE4, HA2.out.ext hE4⟩, hE4⟩

set_option maxHeartbeats 1600000 in
theorem runpin_any (t : Int) : Calls Try.prog 57 #[v, .int .i64 t] w fun e w' => ∃ v', e = .returned (.tuple #[v', .int .i64 (endE s.pn t)]) ∧ CV w' base v' (s.unpin t) ∧ Ext w w' := by
  obtain ⟨A, c, A2, c2, rfl, hA, hA2⟩ := h.ex
  obtain ⟨now, last, mark, fl, pn⟩ := s
  obtain ⟨o1, o2, o3, o4, o5, o6⟩ := ho
  simp only at hA hA2 o1 o2 o4 o5
  have HS : Hid (CkS.unpin ⟨now, last, mark, fl, pn⟩ t = ⟨now, last, mark, fl, pn.erase t⟩) := Lib.hid rfl
  have HE : Hid (endE pn t = if t ∈ pn then 0 else 172) := Lib.hid rfl
  obtain ⟨S, hS⟩ : ∃ S, S = CkS.unpin ⟨now, last, mark, fl, pn⟩ t := ⟨_, rfl⟩
  rw [← hS] at HS ⊢
  simp only
  obtain ⟨E, hE⟩ : ∃ E, E = endE pn t := ⟨_, rfl⟩
  rw [← hE] at HE ⊢
  have HT := Lib.hid (two_made w (ccs now last mark (.slice A fl.length c) (.slice A2 pn.length c2)) zcs)
  have HE0 : Hid (Ext w ((w.alloc (.cells (ccs now last mark (.slice A fl.length c) (.slice A2 pn.length c2)) 28)).alloc (.cells zcs 28))) := Lib.hid (((Ext.refl w).alloc _).alloc _)
  have HP := Lib.hid (fun W (hW : Ext w W) => rwithout_any A2 pn.length c2 pn t W (hA2.rd.ext hW) (by omega))
  obtain ⟨n, hn⟩ : ∃ n, n = fl.length := ⟨_, rfl⟩
  obtain ⟨n2, hn2⟩ : ∃ n2, n2 = pn.length := ⟨_, rfl⟩
  obtain ⟨m, hm⟩ : ∃ m, m = (pn.erase t).length := ⟨_, rfl⟩
  have Hn := Lib.hid hn
  have Hn2 := Lib.hid hn2
  have Hm := Lib.hid hm
  have HA := Lib.hid hA
  have HA2 := Lib.hid hA2
  simp only [← hn, ← hn2, ← hm] at HT HE0 HP ⊢
  clear hS hE hn hn2 hm hA hA2 h o1 o2 o3 o4 o5 o6
  by_cases q : t ∈ pn
  · have HE2 : Hid (E = 0) := Lib.hid (by rw [HE.out, if_pos q])
    rw [decide_eq_true q] at HP
    clear HE q
    go_enter Try.func57, Try.ntmps57
    have HP1 := Lib.hid (HP.out _ HE0.out)
    obtain ⟨c0, c1, c2', c3, c4, cf⟩ := HT.out.c
    clear c0 c1 c2' c3 c4 cf
    go_wp2_with fail
    refine HP1.out.mono ?_
    rintro e w2 ⟨A3, c3', rfl, hown3, he3⟩
    have ht2 := HT.out.ext he3
    have ht3 := ht2.set 4 (.slice A3 m c3')
    have HT3 : Hid (Two (w2.setCell ⟨w.heap.size, 4, none⟩ (.slice A3 m c3')) w.heap.size (ccs now last mark (.slice A n c) (.slice A3 m c3')) zcs) := Lib.hid ht3
    obtain ⟨g0, g1, g2, g3, g4, gf⟩ := ht2.c
    have HE3 : Hid (Ext w (w2.setCell ⟨w.heap.size, 4, none⟩ (.slice A3 m c3'))) := Lib.hid ((HE0.out.trans he3).setCell (Nat.le_refl _) _)
    have H3 := Lib.hid hown3
    clear ht2 ht3 he3 hown3
    go_wp2_with (refine wpList_store_clk rfl _ _ rfl (w.heap.size + 1) now last mark A n c A3 m c3' rfl rfl rfl HT3.out.snd ?_)
    apply bodyPost_ret
    · exact results_c2 rfl _ _ (w.heap.size + 1) 28 (ccs now last mark (.slice A n c) (.slice A3 m c3')) (0, 0) _ rfl (setRow_heap _ (w.heap.size + 1) _ _ 28 (0, 0) HT3.out.snd) Try.underlying28 rfl (by kernel_rfl)
    · rfl
    rw [HS.out, HE2.out]
    have hz1 : ((w.alloc (.cells (ccs now last mark (.slice A n c) (.slice A2 n2 c2)) 28)).alloc (.cells zcs 28)).heap.size = w.heap.size + 2 := by simp
    have hE4 : Ext w ((w2.setCell ⟨w.heap.size, 4, none⟩ (.slice A3 m c3')).setRow (w.heap.size + 1) (ccs now last mark (.slice A n c) (.slice A3 m c3'))) := HE3.out.setRow (by omega) _
    have k1 := H3.out.grown (grown_setCellM w2 w.heap.size 4 (.slice A3 m c3')) (fun a ha e => by have := (H3.out.block a ha).1; injection e with e; omega)
    have k2 := k1.grown (grown_setRow _ (w.heap.size + 1) (ccs now last mark (.slice A n c) (.slice A3 m c3'))) (fun a ha e => by have := (k1.block a ha).1; injection e with e; omega)
    exact ⟨_, rfl, ⟨⟨A, c, A3, c3', by rw [← Hm.out, ← Hn.out], HA.out.ext hE4, k2.mono (by omega)⟩⟩, hE4⟩
  · have HE2 : Hid (E = 172) := Lib.hid (by rw [HE.out, if_neg q])
    have Hq := Lib.hid q
    rw [decide_eq_false q] at HP
    clear HE q
    go_enter Try.func57, Try.ntmps57
    have HP1 := Lib.hid (HP.out _ HE0.out)
    go_wp2_with fail
    refine HP1.out.mono ?_
    rintro e w2 ⟨A3, c3', rfl, hown3, he3⟩
    have ht2 := HT.out.ext he3
    have HT2 := Lib.hid ht2
    obtain ⟨g0, g1, g2, g3, g4, gf⟩ := ht2.c
    have HE3 := Lib.hid (HE0.out.trans he3)
    clear ht2 he3 hown3
    go_wp2_with (refine wpList_store_clk rfl _ _ rfl (w.heap.size + 1) now last mark A n c A2 n2 c2 rfl rfl rfl HT2.out.snd ?_)
    apply bodyPost_ret
    · exact results_c2 rfl _ _ (w.heap.size + 1) 28 (ccs now last mark (.slice A n c) (.slice A2 n2 c2)) (0, 0) _ rfl (setRow_heap _ (w.heap.size + 1) _ _ 28 (0, 0) HT2.out.snd) Try.underlying28 rfl (by kernel_rfl)
    · rfl
    rw [HS.out, HE2.out, List.erase_of_not_mem Hq.out]
    have hE4 : Ext w (w2.setRow (w.heap.size + 1) (ccs now last mark (.slice A n c) (.slice A2 n2 c2))) := HE3.out.setRow (by omega) _
    exact ⟨_, rfl, ⟨A, c, A2, c2, by rw [← Hn.out, ← Hn2.out], HA.out.ext hE4, HA2.out.ext hE4⟩, hE4⟩

omit hbase in
theorem rfloor_any : Calls Try.prog 21 #[v] w fun e w' => e = .returned (.int .i64 s.floor) ∧ Ext w w' := by
  obtain ⟨A, c, A2, c2, rfl, hA, hA2⟩ := h.ex
  obtain ⟨now, last, mark, fl, pn⟩ := s
  obtain ⟨o1, o2, o3, o4, o5, o6⟩ := ho
  simp only at hA hA2 o1 o2 o4 o5
  have HS : Hid (CkS.floor ⟨now, last, mark, fl, pn⟩ = leastL pn mark) := Lib.hid rfl
  have HE0 : Hid (Ext w (w.alloc (.cells (ccs now last mark (.slice A fl.length c) (.slice A2 pn.length c2)) 28))) := Lib.hid ((Ext.refl w).alloc _)
  have HP := Lib.hid (rleast_any A2 pn.length c2 pn mark _ (hA2.rd.ext HE0.out) (by omega))
  obtain ⟨X, hX⟩ : ∃ X, X = leastL pn mark := ⟨_, rfl⟩
  rw [← hX] at HS HP
  obtain ⟨n, hn⟩ : ∃ n, n = fl.length := ⟨_, rfl⟩
  obtain ⟨n2, hn2⟩ : ∃ n2, n2 = pn.length := ⟨_, rfl⟩
  simp only [← hn, ← hn2] at HE0 HP ⊢
  clear hX hn hn2 hA hA2 h o1 o2 o3 o4 o5 o6
  go_enter Try.func21, Try.ntmps21
  go_wp2_with fail
  refine HP.out.mono ?_
  rintro e w2 ⟨rfl, rfl⟩
  go_wp2_with fail
  go_ret
  exact ⟨by rw [HS.out]; rfl, HE0.out⟩

omit hbase in
set_option maxHeartbeats 1600000 in
theorem rclean_any : Calls Try.prog 19 #[v] w fun e w' => e = .returned (.int .i64 s.clean) ∧ Ext w w' := by
  obtain ⟨A, c, A2, c2, rfl, hA, hA2⟩ := h.ex
  obtain ⟨now, last, mark, fl, pn⟩ := s
  have hr := CkS.next_ok ho
  have hm : -9223372036854775808 ≤ leastL fl (CkS.next ⟨now, last, mark, fl, pn⟩) - 1 ∧ leastL fl (CkS.next ⟨now, last, mark, fl, pn⟩) - 1 ≤ 9223372036854775807 := by
    obtain ⟨k1, k2, k3⟩ := leastL_spec fl (CkS.next ⟨now, last, mark, fl, pn⟩)
    rcases k3 with k3 | k3
    · rw [k3]; omega
    · have := ho.flr _ k3; omega
  obtain ⟨o1, o2, o3, o4, o5, o6⟩ := ho
  simp only at hA hA2 o1 o2 o4 o5
  have HS : Hid (CkS.clean ⟨now, last, mark, fl, pn⟩ = leastL fl (CkS.next ⟨now, last, mark, fl, pn⟩) - 1) := Lib.hid rfl
  have hnx : CkS.next ⟨now, last, mark, fl, pn⟩ = if last + 1 > now then last + 1 else now := rfl
  have HC := Lib.hid (fun W => rnext_any now last mark A fl.length c A2 pn.length c2 W o2)
  have HE0 : Hid (Ext w (w.alloc (.cells (ccs now last mark (.slice A fl.length c) (.slice A2 pn.length c2)) 28))) := Lib.hid ((Ext.refl w).alloc _)
  have HP := Lib.hid (fun W (hW : Ext w W) => rleast_any A fl.length c fl (CkS.next ⟨now, last, mark, fl, pn⟩) W (hA.rd.ext hW) (by omega))
  obtain ⟨L, hL⟩ : ∃ L, L = leastL fl (CkS.next ⟨now, last, mark, fl, pn⟩) := ⟨_, rfl⟩
  rw [← hL] at HS HP hm
  obtain ⟨X, hX⟩ : ∃ X, X = CkS.next ⟨now, last, mark, fl, pn⟩ := ⟨_, rfl⟩
  rw [← hX] at HP hnx
  rw [← hnx] at HC
  have Hw : Hid (IntKind.i64.wrap (L - 1) = L - 1) := Lib.hid (IntWalk.i64_in _ (by omega))
  obtain ⟨n, hn⟩ : ∃ n, n = fl.length := ⟨_, rfl⟩
  obtain ⟨n2, hn2⟩ : ∃ n2, n2 = pn.length := ⟨_, rfl⟩
  simp only [← hn, ← hn2] at HE0 HP HC ⊢
  have HK : Hid (∀ W, Ext (w.alloc (.cells (ccs now last mark (.slice A n c) (.slice A2 n2 c2)) 28)) W → W.cell? ⟨w.heap.size, 0, none⟩ = some (.int .i64 now) ∧ W.cell? ⟨w.heap.size, 1, none⟩ = some (.int .i64 last) ∧ W.cell? ⟨w.heap.size, 2, none⟩ = some (.int .i64 mark) ∧ W.cell? ⟨w.heap.size, 3, none⟩ = some (.slice A n c) ∧ W.cell? ⟨w.heap.size, 4, none⟩ = some (.slice A2 n2 c2)) := Lib.hid fun W hW => by
    have h1 := (hW.block w.heap.size (by simp)).trans (heap_alloc_new w (.cells (ccs now last mark (.slice A n c) (.slice A2 n2 c2)) 28))
    refine ⟨?_, ?_, ?_, ?_, ?_⟩ <;> (rw [cell_of_row W w.heap.size _ _ _ (0, 0) h1]; rfl)
  have hk0 := HK.out _ (Ext.refl _)
  clear hL hX hnx hn hn2 hA hA2 h o1 o2 o3 o4 o5 o6 hm hr
  go_enter Try.func19, Try.ntmps19
  go_wp2_with fail
  go_region_held3 (fun w' => w'.cell? ⟨w.heap.size, 0, none⟩ = some (.int .i64 now) ∧ w'.cell? ⟨w.heap.size, 1, none⟩ = some (.int .i64 last) ∧ w'.cell? ⟨w.heap.size, 2, none⟩ = some (.int .i64 mark) ∧ w'.cell? ⟨w.heap.size, 3, none⟩ = some (.slice A n c) ∧ w'.cell? ⟨w.heap.size, 4, none⟩ = some (.slice A2 n2 c2))
    (first | exact hk0 | exact HK.out _ he2 | fail)
    (first
      | (go_at_call 61; refine (HC.out _).mono ?_; rintro e w2 ⟨rfl, he2'⟩; have he2 : Ext (w.alloc (.cells (ccs now last mark (.slice A n c) (.slice A2 n2 c2)) 28)) w2 := ⟨he2'.os, he2'.tape, he2'.output, he2'.size, he2'.block⟩)
      | (go_at_call 58; refine (HP.out _ ?_).mono ?_; (first | exact HE0.out.trans he2 | exact (HE0.out.trans he2).drew | exact (HE0.out.trans he2).drewN _ | fail); rintro e w3 ⟨rfl, rfl⟩)
      | fail)
  go_wp2_with fail
  go_ret
  refine ⟨by (have e := congrArg (fun z => Ending.returned (Value.int .i64 z)) Hw.out; rw [HS.out]; exact e), ?_⟩
  first | exact HE0.out.trans he2 | exact (HE0.out.trans he2).drew | exact (HE0.out.trans he2).drewN _
end

end Go.Proofs.Ytkmnhapeohlooaa
