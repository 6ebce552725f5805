import Derived.Test.YtpjichclpnebjaaZ7
import Derived.Test.YtpjichclpnebjaaZ8

-- part H25
/-
  Layer 6: rows and sets written.
-/
namespace Go.Proofs.Ytpjichclpnebjaa
open Go.RowKit

theorem own_keep {w w' : World} {base lo hi c N : Nat} {A : Option Addr} {xs : List Nat} (h : Own .u8 5 w base A c xs) (hlo : lo ≤ base) (hhi : w.heap.size ≤ hi) {W : World} (_hW : Ext w W) (hg : W.grownBy w' (Value.slice A N c).ownBlock) {g o : Nat} {v : Value} (hv : W.cell? ⟨g, o, none⟩ = some v) (hq : g < lo ∨ hi ≤ g) : w'.cell? ⟨g, o, none⟩ = some v := by
  have hlt : g < W.heap.size := World.block_lt_of_cell? W _ hv
  refine (World.cell?_of_block (a := ⟨g, o, none⟩) (hg.block g hlt ?_)).trans hv
  intro e
  cases A with
  | none => simp [Value.ownBlock] at e
  | some a =>
    have h1 := h.block a rfl
    simp [Value.ownBlock] at e
    omega

set_option maxRecDepth 100000 in
/-- 'append(out, ys...)' in a drawn region. -/
theorem step_pushes {w0 w : World} {ops : Array Oper} {o : Oper} {a : Act} {K : Act → World → Prop} {Q : Exit → Act → World → Prop} {E : Prop} (hgd : o.guard = none) (s y : Operand)
    (ho : o.op = .call { callee := .builtin .append, args := #[s, y], argTypes := #[59, 59] })
    {base : Nat} {A A2 : Option Addr} {c m c2 : Nat} {xs ys : List Nat} (hown : Own .u8 5 w base A c xs) (n : Nat) (hn : xs.length = n) (hs : a.eval s = .slice A n c)
    (hy : a.eval y = .slice A2 m c2) (hrd : Rd .u8 w A2 m ys) (hlen : n + m ≤ 180000000000000) (hb : Below base w0 w) (hbase : base ≤ w.heap.size)
    (h : ∀ A' c' w', Own .u8 5 w' base A' c' (xs ++ ys) → w.grownBy w' (Value.slice A n c).ownBlock → Below base w0 w' → base ≤ w'.heap.size → K (a.put o.dst (.slice A' (n + m : Nat) c')) w') :
    if Region.wanted o (yielded ops a.tmps) = true then Oper.wp Try.prog o a w K Q else E := by
  have hw : Region.wanted o (yielded ops a.tmps) = true := by simp [Region.wanted, hgd]
  rw [if_pos hw]
  subst hn
  obtain ⟨i, hi0, hz, hsz, hbs⟩ := info_parts Try.infoU8
  have hyl := hrd.len
  cases A2 with
  | none =>
    have hm : m = 0 := by
      rcases Nat.eq_zero_or_pos m with h0 | h0
      · exact h0
      · obtain ⟨b, o, he, _⟩ := hrd.2 h0
        cases he
    subst hm
    obtain rfl : ys = [] := List.eq_nil_of_length_eq_zero hyl
    have hrun := run_append_none (P := Try.prog) (w := w) 59 o.type i 1 c2 Try.underlying59 hi0 _ _ _ hown
    unfold Oper.wp
    simp [execOp, ho, resolve, invoke, builtin, hs, hy, hrun, Result.andThen]
    exact h A c w (by simpa using hown) (World.grownBy.refl _ _) hb hbase
  | some ad =>
    refine wp_append_own_wide w s y 59 ho base 5 i _ 1 1 Try.underlying59 hi0 hz hsz hbs rfl (by decide) _ xs.length (xs.map fun x : Nat => Value.int .u8 (x : Int)) hs hown
      ad m c2 (ys.map fun x : Nat => Value.int .u8 (x : Int)) hy (by simp [hyl]) ?_ ?_ (by unfold maxLen; omega) (by omega) hbase ?_
    · intro j u hj
      have hjl : j < ys.length := by
        have := (List.getElem?_eq_some_iff.1 hj).1
        simpa using this
      obtain ⟨b, o', he, hbl, hc⟩ := hrd.at_ (j := j) (by omega)
      injection he with he
      subst he
      have hadd : (⟨b, o', none⟩ : Addr).add j = ⟨b, o' + j, none⟩ := by simp [Addr.add]
      rw [hadd, hc]
      rw [List.getElem?_map, List.getElem?_eq_getElem hjl] at hj
      simp at hj
      simp [← hj, hjl]
    · intro u hu
      obtain ⟨x, _, rfl⟩ := List.mem_map.1 hu
      rfl
    · intro v' w' hown' hg _
      have hform : ∃ A' c', v' = .slice A' (xs.length + m) c' := by
        rcases hown'.2 with ⟨hv, h0⟩ | ⟨g, cap, cur, hv, _⟩
        · exact ⟨none, 0, by rw [hv, h0]⟩
        · exact ⟨_, _, hv⟩
      obtain ⟨A', c', rfl⟩ := hform
      have hb' : Below base w0 w' := Below.grown hb hg hbase (fun g hg' => (hown.lt g hg').1)
      refine h A' c' w' ?_ hg hb' ?_
      · unfold Own
        rw [List.length_append, hyl, List.map_append]
        exact hown'
      · have := hg.size
        omega

theorem own_keepB {w w' : World} {base c N : Nat} {A : Option Addr} {xs : List Nat} (h : Own .u8 5 w base A c xs) {W : World} (hW : Ext w W) (hg : W.grownBy w' (Value.slice A N c).ownBlock) {g : Nat} {C : Array Value} {T : TypeId} {fr : Nat × Nat} (hv : W.heap[g]? = some (.cells C T fr)) (hT : T ≠ 5) : w'.heap[g]? = some (.cells C T fr) := by
  refine (hg.block g (Array.getElem?_eq_some_iff.1 hv).1 ?_).trans hv
  intro e
  rcases (h.ext hW).2 with ⟨hv', _⟩ | ⟨g', cap, cur, hv', hgb, hh, _⟩
  · injection hv' with e1 e2 e3
    subst e1
    simp [Value.ownBlock] at e
  · injection hv' with hA
    subst hA
    simp [Value.ownBlock] at e
    subst e
    rw [hh] at hv
    injection hv with hv
    injection hv with h1 h2 h3
    exact hT h2.symm

/-- 'append(out, ys...)'. -/
theorem wpList_pushes2 {w0 w : World} {ops : Array Oper} {rest : List Oper} {o : Oper} {a : Act} {Q : Exit → Act → World → Prop} (hgd : o.guard = none) (s y : Operand)
    (ho : o.op = .call { callee := .builtin .append, args := #[s, y], argTypes := #[59, 59] })
    {base : Nat} {A A2 : Option Addr} {c m c2 : Nat} {xs ys : List Nat} (hown : Own .u8 5 w base A c xs) (n : Nat) (hn : xs.length = n) (hs : a.eval s = .slice A n c)
    (hy : a.eval y = .slice A2 m c2) (hrd : Rd .u8 w A2 m ys) (hlen : n + m ≤ 180000000000000) (hb : Below base w0 w) (hbase : base ≤ w.heap.size)
    (h : ∀ A' c' w', Own .u8 5 w' base A' c' (xs ++ ys) → w.grownBy w' (Value.slice A n c).ownBlock → Below base w0 w' → base ≤ w'.heap.size → wpList Try.prog ops Q rest (a.put o.dst (.slice A' (n + m : Nat) c')) w') :
    wpList Try.prog ops Q (o :: rest) a w :=
  wpList_plain hgd fun K hK => by
    have hw : Region.wanted o (yielded ops a.tmps) = true := by simp [Region.wanted, hgd]
    have h0 := step_pushes (K := K) (Q := Q) (ops := ops) (E := True) hgd s y ho hown n hn hs hy hrd hlen hb hbase (fun A' c' w' h1 h2 h3 h4 => hK _ _ (h A' c' w' h1 h2 h3 h4))
    rw [if_pos hw] at h0
    exact h0

/-- What PutRow answers. -/
def prowL (keys : Int) (cs : List Col) (xs : List Ci) : List Nat := if rowS keys cs xs = 0 then rowB cs (xs.map Ci.val) else []

theorem rowS_zero {keys : Int} {cs : List Col} {xs : List Ci} (h : rowS keys cs xs = 0) : schE keys cs = 0 ∧ xs.length = cs.length ∧ rowW cs (xs.map Ci.val) = 0 := by
  unfold rowS at h
  by_cases e0 : schE keys cs = 0
  · rw [if_neg (fun q => q e0)] at h
    unfold rowE at h
    by_cases l0 : xs.length = cs.length
    · rw [if_neg (fun q => q l0), rowF_val] at h
      exact ⟨e0, l0, h⟩
    · rw [if_pos l0] at h
      exact absurd h (by decide)
  · rw [if_pos e0] at h
    exact absurd h e0

theorem vals_ok {w : World} {A : Option Addr} {n : Nat} {xs : List Ci} (h : RdX w A n xs) : ∀ v ∈ xs.map Ci.val, CVok v := by
  intro v hv
  obtain ⟨x, hx, rfl⟩ := List.mem_map.1 hv
  obtain ⟨j, hj⟩ := List.getElem?_of_mem hx
  have hl := (List.getElem?_eq_some_iff.1 hj).1
  obtain ⟨b, o, _, _, hc⟩ := h.2 (by rw [← h.1]; omega)
  exact (hc j x hj).2.2.2.ok

set_option maxHeartbeats 6400000 in
set_option maxRecDepth 100000 in
theorem sputRow_any (A : Option Addr) (n c : Nat) (keys : Int) (cs : List Col) (A2 : Option Addr) (n2 c2 : Nat) (xs : List Ci) (w : World) (hs : SchIn w A n c cs) (hx : RdX w A2 n2 xs) (hn2 : n2 ≤ 140737488355328) :
    Calls Try.prog 35 #[.agg #[.slice A n c, .int .i64 keys], .slice A2 n2 c2] w (CPutPost (prowL keys cs xs) (rowS keys cs xs) w) := by
  have hE : Ext w (w.alloc (.cells #[.slice A n c, .int .i64 keys] 24)) := (Ext.refl w).alloc _
  have h1 := hs.ext hE
  have h2 := hx.ext hE
  have sb := AtS.box w A n c keys
  have hz0 := rowS_zero (keys := keys) (cs := cs) (xs := xs)
  have hvok := vals_ok hx
  obtain ⟨L, hL⟩ : ∃ L, L = prowL keys cs xs := ⟨_, rfl⟩
  rw [← hL]
  unfold prowL at hL
  obtain ⟨E, hEe⟩ : ∃ E, E = rowS keys cs xs := ⟨_, rfl⟩
  rw [← hEe] at hL hz0 ⊢
  have HE := Lib.hid hEe
  clear hEe
  by_cases e0 : E = 0
  · obtain ⟨hs0, hxl, hrw⟩ := hz0 e0
    rw [if_pos e0] at hL
    have hinv := schE_inv hs0
    have hln := hs.rd.1
    have hl2 := hx.1
    rw [hln] at hinv hxl
    have hn12 : n ≤ 12 := hinv.2.1
    have hnn : n2 = n := by rw [← hl2]; exact hxl
    subst hnn
    have HL := Lib.hid hL
    have Hln := Lib.hid hln
    have Hxl := Lib.hid hxl
    have Hvok := Lib.hid hvok
    have b1 : (E != 0) = false := by simp [e0]
    have He0 := Lib.hid e0
    clear hL hln hxl hl2 hinv hs0 hrw hz0 e0 hvok
    go_enter Try.func35, Try.ntmps35
    go_wp2_with fail
    refine (srow_any A n2 c keys cs A2 n2 c2 xs _ h1 h2 hn2).mono ?_
    rintro e w1 ⟨rfl, he1⟩
    rw [← HE.out]
    have s1 := sb.ext he1
    have hE1 := hE.trans he1
    go_wp2_with fail
    go_loopw [7, 18] (fun v i wr => ∃ (j : Nat) (A' : Option Addr) (c' : Nat) (X : List Nat), j ≤ n2 ∧ i = .int .i64 j ∧ v = .slice A' X.length c' ∧ Hid (X = rowB (cs.take j) ((xs.map Ci.val).take j)) ∧ Own .u8 5 wr w1.heap.size A' c' X ∧ Ext w1 wr) (fun _ i _ => n2 - (intOf i).toNat)
    case atStart => exact ⟨0, _, _, [], Nat.zero_le _, rfl, rfl, Lib.hid (by simp [rowB]), Own.nil .., Ext.refl w1⟩
    case round =>
      obtain ⟨j, A', c', X, hj, rfl, rfl, HX, hown, hb⟩ := hrel
      have s0 := s1.ext hb
      have hz := hb.size
      have hbw := hE1.trans hb
      by_cases hlt : j < n2
      · obtain ⟨b, o, dd, rfl, hbl, hd, c0, c1, c2'⟩ := (hs.rd.ext hbw).at_ hlt
        obtain ⟨b2, o2, x, rfl, hb2, hx2, e0, e1, e2, hin⟩ := (hx.ext hbw).at_ hlt
        have hstep := rowB_step hd (show (xs.map Ci.val)[j]? = some x.val by rw [List.getElem?_map, hx2]; rfl)
        rw [← HX.out] at hstep
        have hXl : X.length ≤ 3600 := by
          rw [HX.out]
          have := rowB_len (cs := cs.take j) (vs := (xs.map Ci.val).take j) (fun v hv => Hvok.out v (List.mem_of_mem_take hv))
          rw [List.length_take, Hln.out] at this
          omega
        obtain ⟨nm, kd, nl⟩ := dd
        obtain ⟨xn, xi, xA, xc, xt⟩ := x
        simp only at c0 c1 c2' e0 e1 e2
        obtain ⟨xr, xu, x0, x1, xl⟩ := hin
        simp only at xr xu x0 x1 xl
        obtain ⟨n3, hn3⟩ : ∃ n3, n3 = xt.length := ⟨_, rfl⟩
        rw [← hn3] at e2 xr xl
        obtain ⟨P, hP⟩ : ∃ P, P = cputL kd xn xi xt := ⟨_, rfl⟩
        have hPP : putB ⟨nm, kd, nl⟩ (Ci.val ⟨xn, xi, xA, xc, xt⟩) = P := hP.symm
        rw [hPP] at hstep
        have hPl : P.length ≤ 300 := by rw [hP]; exact cputL_len x0 x1
        obtain ⟨W8, hW8⟩ : ∃ W8, W8 = wr.alloc (.cells #[.bool xn, .int .i64 xi, .slice xA n3 xc] 82) := ⟨_, rfl⟩
        have hX : Ext wr W8 := by rw [hW8]; exact (Ext.refl wr).alloc _
        have HC : Hid (∀ W, Ext W8 W → Calls Try.prog 66 #[.agg #[.string nm, .int .i64 kd, .bool nl], .agg #[.bool xn, .int .i64 xi, .slice xA n3 xc]] W fun e w' => ∃ A' c', e = .returned (.slice A' P.length c') ∧ Own .u8 5 w' W.heap.size A' c' P ∧ Ext W w') := Lib.hid (fun W hW => by
          rw [hP]; exact putCell_any nm kd nl xn xi xA n3 xc xt W ((xr.ext hX).ext hW) xu (by omega) x0 x1)
        have K : Hid (∀ w', Ext W8 w' → w'.cell? ⟨w.heap.size, 0, none⟩ = some (.slice (some ⟨b, o, none⟩) n2 c) ∧ w'.cell? ⟨b, o + j * 3, none⟩ = some (.string nm) ∧ w'.cell? ⟨b, o + j * 3 + 1, none⟩ = some (.int .i64 kd) ∧ w'.cell? ⟨b, o + j * 3 + 2, none⟩ = some (.bool nl) ∧ w'.cell? ⟨wr.heap.size, 0, none⟩ = some (.bool xn) ∧ w'.cell? ⟨wr.heap.size, 1, none⟩ = some (.int .i64 xi) ∧ w'.cell? ⟨wr.heap.size, 2, none⟩ = some (.slice xA n3 xc)) := Lib.hid (fun w' he => by
          have hE2 := hX.trans he
          have a := (AtC.box wr xn xi xA n3 xc)
          rw [← hW8] at a
          have a2 := a.ext he
          exact ⟨(s0.ext hE2).c0, (hE2.cells b _ hbl).trans c0, (hE2.cells b _ hbl).trans c1, (hE2.cells b _ hbl).trans c2', a2.c0, a2.c1, a2.c2⟩)
        have hbW : b < w.heap.size := by
          obtain ⟨b', o', e', hb', _⟩ := hs.rd.2 (show 0 < n2 by omega)
          injection e' with e'
          injection e' with e1 e2
          omega
        have hz01 : w.heap.size < w1.heap.size := by have := s1.lt; omega
        have K2 : Hid (∀ W w' N, Ext W8 W → W.grownBy w' (Value.slice A' N c').ownBlock → w'.cell? ⟨w.heap.size, 0, none⟩ = some (.slice (some ⟨b, o, none⟩) n2 c) ∧ w'.cell? ⟨b, o + j * 3, none⟩ = some (.string nm) ∧ w'.cell? ⟨b, o + j * 3 + 1, none⟩ = some (.int .i64 kd) ∧ w'.cell? ⟨b, o + j * 3 + 2, none⟩ = some (.bool nl) ∧ w'.cell? ⟨wr.heap.size, 0, none⟩ = some (.bool xn) ∧ w'.cell? ⟨wr.heap.size, 1, none⟩ = some (.int .i64 xi) ∧ w'.cell? ⟨wr.heap.size, 2, none⟩ = some (.slice xA n3 xc)) := Lib.hid (fun W w' N hW hg => by
          obtain ⟨q1, q2, q3, q4, q5, q6, q7⟩ := K.out W hW
          have kk := fun {g o : Nat} {v : Value} (hv : W.cell? ⟨g, o, none⟩ = some v) (hq : g < w1.heap.size ∨ wr.heap.size ≤ g) => own_keep hown (Nat.le_refl _) (Nat.le_refl _) (hX.trans hW) hg hv hq
          exact ⟨kk q1 (.inl hz01), kk q2 (.inl (by omega)), kk q3 (.inl (by omega)), kk q4 (.inl (by omega)), kk q5 (.inr (Nat.le_refl _)), kk q6 (.inr (Nat.le_refl _)), kk q7 (.inr (Nat.le_refl _))⟩)
        have Hown : Hid (∀ W, Ext W8 W → Own .u8 5 W w1.heap.size A' c' X) := Lib.hid (fun W hW => (hown.ext hX).ext hW)
        have HB : Hid (∀ W, Ext W8 W → Below w1.heap.size w1 W ∧ w1.heap.size ≤ W.heap.size) := Lib.hid (fun W hW => ⟨(hb.trans hX).trans hW, Nat.le_trans (Nat.le_trans hz hX.size) hW.size⟩)
        have Hstep := Lib.hid hstep
        obtain ⟨N, hN⟩ : ∃ N, X.length = N := ⟨_, rfl⟩
        obtain ⟨M, hM⟩ : ∃ M, P.length = M := ⟨_, rfl⟩
        rw [hN] at hXl ⊢
        rw [hM] at hPl HC
        have HN := Lib.hid hN
        have HM := Lib.hid hM
        have i0 : (0 : Int) ≤ (j : Int) := by omega
        have i1 : (j : Int) < (n2 : Int) := by omega
        clear hstep hPP hP hn3 hd hx2 xr xu x0 x1 xl hown hN hM
        go_wp2_with fail
        rw [← hW8]
        have g8 := K.out _ (Ext.refl W8)
        clear hW8 c0 c1 c2' e0 e1 e2 s0
        go_region_held3 (fun w' => w'.cell? ⟨w.heap.size, 0, none⟩ = some (.slice (some ⟨b, o, none⟩) n2 c) ∧ w'.cell? ⟨b, o + j * 3, none⟩ = some (.string nm) ∧ w'.cell? ⟨b, o + j * 3 + 1, none⟩ = some (.int .i64 kd) ∧ w'.cell? ⟨b, o + j * 3 + 2, none⟩ = some (.bool nl) ∧ w'.cell? ⟨wr.heap.size, 0, none⟩ = some (.bool xn) ∧ w'.cell? ⟨wr.heap.size, 1, none⟩ = some (.int .i64 xi) ∧ w'.cell? ⟨wr.heap.size, 2, none⟩ = some (.slice xA n3 xc))
          (first | exact g8 | (refine K2.out _ _ _ ?_ hgr4; focus ((repeat (first | exact Ext.refl _ | (with_reducible refine Ext.trans ?_ he3) | apply Ext.drew | apply Ext.alloc | fail)); done)) | (refine K.out _ ?_; (repeat (first | exact Ext.refl _ | (with_reducible refine Ext.trans ?_ he3) | apply Ext.drew | apply Ext.alloc | fail))) | fail)
          (first
            | (go_at_call 66; (with_reducible refine (HC.out _ ?_).mono ?_); (focus ((repeat (first | exact Ext.refl _ | (with_reducible refine Ext.trans ?_ he3) | apply Ext.drew | apply Ext.alloc | fail)); done)); rintro e w3 ⟨A3, c3, rfl, hown3, he3⟩)
            | (refine step_pushes (w0 := w1) (by rfl) _ _ (by rfl) (Hown.out _ (by (repeat (first | exact Ext.refl _ | (with_reducible refine Ext.trans ?_ he3) | apply Ext.drew | apply Ext.alloc | fail)))) N HN.out (by rfl) (by rfl) (hown3.rd' HM.out) (by omega) (HB.out _ (by (repeat (first | exact Ext.refl _ | (with_reducible refine Ext.trans ?_ he3) | apply Ext.drew | apply Ext.alloc | fail)))).1 (HB.out _ (by (repeat (first | exact Ext.refl _ | (with_reducible refine Ext.trans ?_ he3) | apply Ext.drew | apply Ext.alloc | fail)))).2 ?_; intro A4 c4 w4 hown4 hgr4 hb4 hz4)
            | fail)
        go_wp2
        go_roundw
        case rel => exact ⟨j + 1, A4, c4, _, by omega, by go_num, by rw [List.length_append, HN.out, HM.out], Lib.hid Hstep.out.symm, hown4, hb4⟩
        case measure => simp [intOf]; omega
      · obtain rfl : j = n2 := by omega
        have hX := HX.out
        rw [List.take_of_length_le (Nat.le_of_eq Hln.out), List.take_of_length_le (by rw [List.length_map, Hxl.out]; exact Nat.le_refl _), ← HL.out] at hX
        subst hX
        have HO := Lib.hid hown
        clear hown
        go_wp2
        go_ret2
        exact ⟨A', c', by rw [He0.out]; rfl, HO.out.mono hE1.size, hE1.trans hb⟩
  · rw [if_neg e0] at hL
    have b1 : (E != 0) = true := by simp [e0]
    clear e0 hz0
    subst hL
    go_enter Try.func35, Try.ntmps35
    go_wp2_with fail
    refine (srow_any A n c keys cs A2 n2 c2 xs _ h1 h2 hn2).mono ?_
    rintro e w1 ⟨rfl, he1⟩
    rw [← HE.out]
    go_wp2
    go_ret2
    exact ⟨none, 0, rfl, Own.nil .., hE.trans he1⟩

set_option maxHeartbeats 6400000 in
set_option maxRecDepth 100000 in
theorem refPutRow_any (A : Option Addr) (n c : Nat) (keys : Int) (cs : List Col) (A2 : Option Addr) (n2 c2 : Nat) (xs : List Ci) (w : World) (hs : SchIn w A n c cs) (hx : RdX w A2 n2 xs) (hn2 : n2 ≤ 140737488355328) :
    Calls Try.prog 34 #[.agg #[.slice A n c, .int .i64 keys], .slice A2 n2 c2] w (CPutPost (prowL keys cs xs) (rowS keys cs xs) w) := by
  have hE : Ext w (w.alloc (.cells #[.slice A n c, .int .i64 keys] 24)) := (Ext.refl w).alloc _
  have h1 := hs.ext hE
  have h2 := hx.ext hE
  have sb := AtS.box w A n c keys
  have hz0 := rowS_zero (keys := keys) (cs := cs) (xs := xs)
  have hvok := vals_ok hx
  obtain ⟨L, hL⟩ : ∃ L, L = prowL keys cs xs := ⟨_, rfl⟩
  rw [← hL]
  unfold prowL at hL
  obtain ⟨E, hEe⟩ : ∃ E, E = rowS keys cs xs := ⟨_, rfl⟩
  rw [← hEe] at hL hz0 ⊢
  have HE := Lib.hid hEe
  clear hEe
  by_cases e0 : E = 0
  · obtain ⟨hs0, hxl, hrw⟩ := hz0 e0
    rw [if_pos e0] at hL
    have hinv := schE_inv hs0
    have hln := hs.rd.1
    have hl2 := hx.1
    rw [hln] at hinv hxl
    have hn12 : n ≤ 12 := hinv.2.1
    have hnn : n2 = n := by rw [← hl2]; exact hxl
    subst hnn
    have HL := Lib.hid hL
    have Hln := Lib.hid hln
    have Hxl := Lib.hid hxl
    have Hvok := Lib.hid hvok
    have b1 : (E != 0) = false := by simp [e0]
    have He0 := Lib.hid e0
    clear hL hln hxl hl2 hinv hs0 hrw hz0 e0 hvok
    go_enter Try.func34, Try.ntmps34
    go_wp2_with fail
    refine (refSrow_any A n2 c keys cs A2 n2 c2 xs _ h1 h2 hn2).mono ?_
    rintro e w1 ⟨rfl, he1⟩
    rw [← HE.out]
    have s1 := sb.ext he1
    have hE1 := hE.trans he1
    go_wp2_with fail
    go_loopw [7, 8] (fun v i wr => ∃ (j : Nat) (A' : Option Addr) (c' : Nat) (X : List Nat), j ≤ n2 ∧ i = .int .i64 j ∧ v = .slice A' X.length c' ∧ Hid (X = rowB (cs.take j) ((xs.map Ci.val).take j)) ∧ Own .u8 5 wr w1.heap.size A' c' X ∧ Ext w1 wr) (fun _ i _ => n2 - (intOf i).toNat)
    case atStart => exact ⟨0, _, _, [], Nat.zero_le _, rfl, rfl, Lib.hid (by simp [rowB]), Own.made _ _ _ (Nat.le_refl _), (Ext.refl w1).alloc _⟩
    case round =>
      obtain ⟨j, A', c', X, hj, rfl, rfl, HX, hown, hb⟩ := hrel
      have s0 := s1.ext hb
      have hz := hb.size
      have hbw := hE1.trans hb
      by_cases hlt : j < n2
      · obtain ⟨b, o, dd, rfl, hbl, hd, c0, c1, c2'⟩ := (hs.rd.ext hbw).at_ hlt
        obtain ⟨b2, o2, x, rfl, hb2, hx2, e0, e1, e2, hin⟩ := (hx.ext hbw).at_ hlt
        have hstep := rowB_step hd (show (xs.map Ci.val)[j]? = some x.val by rw [List.getElem?_map, hx2]; rfl)
        rw [← HX.out] at hstep
        have hXl : X.length ≤ 3600 := by
          rw [HX.out]
          have := rowB_len (cs := cs.take j) (vs := (xs.map Ci.val).take j) (fun v hv => Hvok.out v (List.mem_of_mem_take hv))
          rw [List.length_take, Hln.out] at this
          omega
        obtain ⟨nm, kd, nl⟩ := dd
        obtain ⟨xn, xi, xA, xc, xt⟩ := x
        simp only at c0 c1 c2' e0 e1 e2
        obtain ⟨xr, xu, x0, x1, xl⟩ := hin
        simp only at xr xu x0 x1 xl
        obtain ⟨n3, hn3⟩ : ∃ n3, n3 = xt.length := ⟨_, rfl⟩
        rw [← hn3] at e2 xr xl
        obtain ⟨P, hP⟩ : ∃ P, P = cputL kd xn xi xt := ⟨_, rfl⟩
        obtain ⟨F, hF⟩ : ∃ F, F = chk kd true xn xi xt := ⟨_, rfl⟩
        have hPP : putB ⟨nm, kd, nl⟩ (Ci.val ⟨xn, xi, xA, xc, xt⟩) = P := hP.symm
        rw [hPP] at hstep
        have hPl : P.length ≤ 300 := by rw [hP]; exact cputL_len x0 x1
        have HC : Hid (∀ W, Ext wr W → Calls Try.prog 65 #[.int .i64 kd, .agg #[.bool xn, .int .i64 xi, .slice xA n3 xc]] W fun e w' => ∃ A' c', e = .returned (.tuple #[.slice A' P.length c', .int .i64 F]) ∧ Own .u8 5 w' W.heap.size A' c' P ∧ Ext W w') := Lib.hid (fun W hW => by
          rw [hP, hF]; exact refCPut_any kd xn xi xA n3 xc xt W (xr.ext hW) (by omega) x0 x1)
        have K : Hid (∀ w', Ext wr w' → w'.cell? ⟨w.heap.size, 0, none⟩ = some (.slice (some ⟨b, o, none⟩) n2 c) ∧ w'.cell? ⟨b, o + j * 3 + 1, none⟩ = some (.int .i64 kd) ∧ w'.cell? ⟨b2, o2 + j * 3, none⟩ = some (.bool xn) ∧ w'.cell? ⟨b2, o2 + j * 3 + 1, none⟩ = some (.int .i64 xi) ∧ w'.cell? ⟨b2, o2 + j * 3 + 2, none⟩ = some (.slice xA n3 xc)) := Lib.hid (fun w' he =>
          ⟨(s0.ext he).c0, (he.cells b _ hbl).trans c1, (he.cells b2 _ hb2).trans e0, (he.cells b2 _ hb2).trans e1, (he.cells b2 _ hb2).trans e2⟩)
        have Hown := Lib.hid hown
        have Hstep := Lib.hid hstep
        obtain ⟨N, hN⟩ : ∃ N, X.length = N := ⟨_, rfl⟩
        obtain ⟨M, hM⟩ : ∃ M, P.length = M := ⟨_, rfl⟩
        rw [hN] at hXl ⊢
        rw [hM] at hPl HC
        have HN := Lib.hid hN
        have HM := Lib.hid hM
        have i0 : (0 : Int) ≤ (j : Int) := by omega
        have i1 : (j : Int) < (n2 : Int) := by omega
        have g8 := K.out _ (Ext.refl wr)
        clear hstep hPP hP hF hn3 hd hx2 xr xu x0 x1 xl hown hN hM c0 c1 c2' e0 e1 e2 s0
        go_wp2_with fail
        go_region_held3 (fun w' => w'.cell? ⟨w.heap.size, 0, none⟩ = some (.slice (some ⟨b, o, none⟩) n2 c) ∧ w'.cell? ⟨b, o + j * 3 + 1, none⟩ = some (.int .i64 kd) ∧ w'.cell? ⟨b2, o2 + j * 3, none⟩ = some (.bool xn) ∧ w'.cell? ⟨b2, o2 + j * 3 + 1, none⟩ = some (.int .i64 xi) ∧ w'.cell? ⟨b2, o2 + j * 3 + 2, none⟩ = some (.slice xA n3 xc))
          (first | exact g8 | (refine K.out _ ?_; (repeat (first | exact Ext.refl _ | (with_reducible refine Ext.trans ?_ he3) | apply Ext.drew | apply Ext.alloc | fail))) | fail)
          (first
            | (go_at_call 65; (with_reducible refine (HC.out _ ?_).mono ?_); (focus ((repeat (first | exact Ext.refl _ | (with_reducible refine Ext.trans ?_ he3) | apply Ext.drew | apply Ext.alloc | fail)); done)); rintro e w3 ⟨A3, c3, rfl, hown3, he3⟩)
            | fail)
        have hE3 : Ext wr w3 := by (repeat (first | exact Ext.refl _ | (with_reducible refine Ext.trans ?_ he3) | apply Ext.drew | apply Ext.alloc | fail))
        have hq1 := Hown.out.rd' HN.out
        go_wp2_with fail
        refine (cat_any _ _ _ _ _ _ X P _ (hq1.ext hE3) (hown3.rd' HM.out) (by omega)).mono ?_
        rintro e w4 ⟨A4, c4, rfl, hown4, he4⟩
        have hb4 := hE3.trans he4
        have ho4 := hown4.mono (base' := w1.heap.size) (Nat.le_trans hz hE3.size)
        go_wp2
        go_roundw
        case rel => exact ⟨j + 1, A4, c4, _, by omega, by go_num, by rw [List.length_append, HN.out, HM.out], Lib.hid Hstep.out.symm, ho4, hb.trans hb4⟩
        case measure => simp [intOf]; omega
      · obtain rfl : j = n2 := by omega
        have hX := HX.out
        rw [List.take_of_length_le (Nat.le_of_eq Hln.out), List.take_of_length_le (by rw [List.length_map, Hxl.out]; exact Nat.le_refl _), ← HL.out] at hX
        subst hX
        have HO := Lib.hid hown
        clear hown
        go_wp2
        go_ret2
        exact ⟨A', c', by rw [He0.out]; rfl, HO.out.mono hE1.size, hE1.trans hb⟩
  · rw [if_neg e0] at hL
    have b1 : (E != 0) = true := by simp [e0]
    clear e0 hz0
    subst hL
    go_enter Try.func34, Try.ntmps34
    go_wp2_with fail
    refine (refSrow_any A n c keys cs A2 n2 c2 xs _ h1 h2 hn2).mono ?_
    rintro e w1 ⟨rfl, he1⟩
    rw [← HE.out]
    go_wp2
    go_ret2
    exact ⟨none, 0, rfl, Own.nil .., hE.trans he1⟩

end Go.Proofs.Ytpjichclpnebjaa

-- part H26
/-
  Layer 6: sets written.
-/
namespace Go.Proofs.Ytpjichclpnebjaa
open Go.RowKit

/-- What PutSets answers. -/
def psetsL (keys : Int) (cs : List Col) (ts : List Si) : List Nat := if setsS keys cs ts = 0 then setsB cs (ts.map Si.val) else []

theorem setsS_zero {keys : Int} {cs : List Col} {ts : List Si} (h : setsS keys cs ts = 0) : schE keys cs = 0 ∧ ts.length ≠ 0 ∧ setW cs (keys - 1) (ts.map Si.val) = 0 := by
  unfold setsS at h
  by_cases e0 : schE keys cs = 0
  · rw [if_neg (fun q => q e0)] at h
    unfold setsE at h
    by_cases l0 : ts.length = 0
    · rw [if_pos l0] at h
      exact absurd h (by decide)
    · rw [if_neg l0, setF_val] at h
      exact ⟨e0, l0, h⟩
  · rw [if_pos e0] at h
    exact absurd h e0
theorem setW_all {cs : List Col} : ∀ {ts : List (Int × CV)} {L : Int}, setW cs L ts = 0 → ∀ t ∈ ts, L < t.1 ∧ t.1 < (cs.length : Int) ∧ chkW (colAt cs t.1.toNat) t.2 = 0
  | [], _, _, t, ht => by cases ht
  | u :: r, L, h, t, ht => by
    obtain ⟨h1, h2, h3, h4⟩ := setW_cons h
    rcases List.mem_cons.1 ht with rfl | ht
    · exact ⟨h1, h2, h3⟩
    · obtain ⟨k1, k2, k3⟩ := setW_all h4 t ht
      exact ⟨by omega, k2, k3⟩
theorem setW_len {cs : List Col} : ∀ {ts : List (Int × CV)} {L : Int}, setW cs L ts = 0 → L ≤ (cs.length : Int) - 1 → (ts.length : Int) ≤ (cs.length : Int) - 1 - L
  | [], _, _, h => by simp; omega
  | u :: r, L, h, hl => by
    obtain ⟨h1, h2, h3, h4⟩ := setW_cons h
    have := setW_len h4 (by omega)
    rw [List.length_cons]
    omega
theorem tvals_ok {w : World} {A : Option Addr} {n : Nat} {ts : List Si} (h : RdT w A n ts) : ∀ v ∈ ts.map Si.val, CVok v.2 := by
  intro v hv
  obtain ⟨x, hx, rfl⟩ := List.mem_map.1 hv
  obtain ⟨j, hj⟩ := List.getElem?_of_mem hx
  have hl := (List.getElem?_eq_some_iff.1 hj).1
  obtain ⟨b, o, _, _, hc⟩ := h.2 (by rw [← h.1]; omega)
  exact (hc j x hj).2.2.2.2.ok

set_option maxHeartbeats 6400000 in
set_option maxRecDepth 100000 in
theorem sputSets_any (A : Option Addr) (n c : Nat) (keys : Int) (cs : List Col) (A2 : Option Addr) (n2 c2 : Nat) (ts : List Si) (w : World) (hs : SchIn w A n c cs) (hx : RdT w A2 n2 ts) (hn2 : n2 ≤ 140737488355328) :
    Calls Try.prog 37 #[.agg #[.slice A n c, .int .i64 keys], .slice A2 n2 c2] w (CPutPost (psetsL keys cs ts) (setsS keys cs ts) w) := by
  have hE : Ext w (w.alloc (.cells #[.slice A n c, .int .i64 keys] 24)) := (Ext.refl w).alloc _
  have h1 := hs.ext hE
  have h2 := hx.ext hE
  have sb := AtS.box w A n c keys
  have hz0 := setsS_zero (keys := keys) (cs := cs) (ts := ts)
  have hvok := tvals_ok hx
  obtain ⟨L, hL⟩ : ∃ L, L = psetsL keys cs ts := ⟨_, rfl⟩
  rw [← hL]
  unfold psetsL at hL
  obtain ⟨E, hEe⟩ : ∃ E, E = setsS keys cs ts := ⟨_, rfl⟩
  rw [← hEe] at hL hz0 ⊢
  have HE := Lib.hid hEe
  clear hEe
  by_cases e0 : E = 0
  · obtain ⟨hs0, hxl, hrw⟩ := hz0 e0
    rw [if_pos e0] at hL
    have hinv := schE_inv hs0
    have hln := hs.rd.1
    have hl2 := hx.1
    have hall := setW_all hrw
    have hlen := setW_len hrw (by omega)
    rw [List.length_map] at hlen
    rw [hln] at hinv hlen
    rw [hl2] at hlen
    have hn12 : n ≤ 12 := hinv.2.1
    have hk1 : 1 ≤ keys := hinv.2.2.1
    have hn212 : n2 ≤ 12 := by omega
    have HL := Lib.hid hL
    have Hln := Lib.hid hln
    have Hl2 := Lib.hid hl2
    have Hall := Lib.hid hall
    have Hvok := Lib.hid hvok
    have b1 : (E != 0) = false := by simp [e0]
    have He0 := Lib.hid e0
    have hw0 : IntKind.u64.wrap (n2 : Int) = (n2 : Int) := IntWalk.u64_in _ (by omega)
    have hsl : (setsB cs (ts.map Si.val)) = vput n2 ++ setB cs (ts.map Si.val) := by unfold setsB; rw [List.length_map, hl2]
    have Hsl := Lib.hid hsl
    have HVL := Lib.hid (vput_len n2)
    have hvl2 := vsize_le (u := n2) (by omega)
    clear hL hln hxl hl2 hinv hs0 hrw hz0 e0 hvok hall hlen hsl
    go_enter Try.func37, Try.ntmps37
    go_wp2_with fail
    refine (ssets_any A n c keys cs A2 n2 c2 ts _ h1 h2 hn2).mono ?_
    rintro e w1 ⟨rfl, he1⟩
    rw [← HE.out]
    have s1 := sb.ext he1
    have hE1 := hE.trans he1
    go_wp2_with fail
    refine (put_any n2 _ (by omega)).mono ?_
    rintro e w2 ⟨Av, cv, rfl, hownv, he2⟩
    have s2 := s1.ext he2
    have hE2 := hE1.trans he2
    go_wp2_with fail
    go_loopw [7, 22] (fun v i wr => ∃ (j : Nat) (A' : Option Addr) (c' : Nat) (X : List Nat), j ≤ n2 ∧ i = .int .i64 j ∧ v = .slice A' X.length c' ∧ Hid (X = vput n2 ++ setB cs ((ts.map Si.val).take j)) ∧ Own .u8 5 wr w1.heap.size A' c' X ∧ Ext w1 wr) (fun _ i _ => n2 - (intOf i).toNat)
    case atStart => exact ⟨0, _, _, vput n2, Nat.zero_le _, rfl, rfl, Lib.hid (by simp [setB]), hownv, he2⟩
    case round =>
      clear hownv he2 s2 hE2
      obtain ⟨j, A', c', X, hj, rfl, rfl, HX, hown, hb⟩ := hrel
      have s0 := s1.ext hb
      have hz := hb.size
      have hbw := hE1.trans hb
      by_cases hlt : j < n2
      · obtain ⟨b2, o2, x, rfl, hb2, hx2, e9, e0, e1, e2, hin⟩ := (hx.ext hbw).at_ hlt
        have hxv : (ts.map Si.val)[j]? = some x.val := by rw [List.getElem?_map, hx2]; rfl
        obtain ⟨a1, a2, a3⟩ := Hall.out x.val (List.mem_of_getElem? hxv)
        have hstep := setB_step cs hxv
        have hXl : X.length ≤ 10 + 310 * 12 := by
          rw [HX.out, List.length_append, HVL.out]
          have := setB_len cs (ts := (ts.map Si.val).take j) (fun t ht => ⟨by have := (Hall.out t (List.mem_of_mem_take ht)).2.1; rw [Hln.out] at this; omega, Hvok.out t (List.mem_of_mem_take ht)⟩)
          rw [List.length_take, List.length_map, Hl2.out] at this
          omega
        obtain ⟨p, xn, xi, xA, xc, xt⟩ := x
        simp only [Si.val] at e9 e0 e1 e2 a1 a2 a3 hstep
        rw [Hln.out] at a2
        obtain ⟨q, rfl⟩ := Int.eq_ofNat_of_zero_le (show 0 ≤ p by omega)
        rw [Int.toNat_natCast] at hstep a3
        have hqn : q < n := by omega
        obtain ⟨b, o, dd, rfl, hbl, hd, c0, c1, c2'⟩ := (hs.rd.ext hbw).at_ hqn
        rw [colAt_of hd] at hstep a3
        obtain ⟨nm, kd, nl⟩ := dd
        simp only at c0 c1 c2'
        obtain ⟨xr, xu, x0, x1, xl⟩ := hin
        simp only at xr xu x0 x1 xl
        obtain ⟨n3, hn3⟩ : ∃ n3, n3 = xt.length := ⟨_, rfl⟩
        rw [← hn3] at e2 xr xl
        obtain ⟨P, hP⟩ : ∃ P, P = cputL kd xn xi xt := ⟨_, rfl⟩
        have hPP : putB ⟨nm, kd, nl⟩ (Ci.val ⟨xn, xi, xA, xc, xt⟩) = P := hP.symm
        rw [hPP] at hstep
        have hPl : P.length ≤ 300 := by rw [hP]; exact cputL_len x0 x1
        have hstep2 : (X ++ vput q) ++ P = vput n2 ++ setB cs ((ts.map Si.val).take (j + 1)) := by rw [hstep, HX.out]; simp
        have hvq := vput_len q
        have hvq2 := vsize_le (u := q) (by omega)
        have hwq : IntKind.u64.wrap (q : Int) = (q : Int) := IntWalk.u64_in _ (by omega)
        obtain ⟨W8, hW8⟩ : ∃ W8, W8 = wr.alloc (.cells #[.int .i64 (q : Int), .bool xn, .int .i64 xi, .slice xA n3 xc] 84) := ⟨_, rfl⟩
        have hX : Ext wr W8 := by rw [hW8]; exact (Ext.refl wr).alloc _
        have hz01 : w.heap.size < w1.heap.size := by have := s1.lt; omega
        have hbW : b < w.heap.size := by
          obtain ⟨b', o', e', hb', _⟩ := hs.rd.2 (show 0 < n by omega)
          injection e' with e'
          injection e' with e1 e2
          omega
        have hA8 : W8.heap[wr.heap.size]? = some (.cells #[.int .i64 (q : Int), .bool xn, .int .i64 xi, .slice xA n3 xc] 84) := by rw [hW8]; exact heap_alloc_new wr _
        have K : Hid (∀ w', Ext W8 w' → w'.cell? ⟨w.heap.size, 0, none⟩ = some (.slice (some ⟨b, o, none⟩) n c) ∧ w'.cell? ⟨b, o + q * 3, none⟩ = some (.string nm) ∧ w'.cell? ⟨b, o + q * 3 + 1, none⟩ = some (.int .i64 kd) ∧ w'.cell? ⟨b, o + q * 3 + 2, none⟩ = some (.bool nl) ∧ w'.cell? ⟨wr.heap.size, 0, none⟩ = some (.int .i64 (q : Int)) ∧ w'.cell? ⟨wr.heap.size, 1, none⟩ = some (.bool xn) ∧ w'.cell? ⟨wr.heap.size, 2, none⟩ = some (.int .i64 xi) ∧ w'.cell? ⟨wr.heap.size, 3, none⟩ = some (.slice xA n3 xc)) := Lib.hid (fun w' he => by
          have hE2 := hX.trans he
          have hk : w'.heap[wr.heap.size]? = some (.cells #[.int .i64 (q : Int), .bool xn, .int .i64 xi, .slice xA n3 xc] 84) := (he.block _ (Array.getElem?_eq_some_iff.1 hA8).1).trans hA8
          exact ⟨(s0.ext hE2).c0, (hE2.cells b _ hbl).trans c0, (hE2.cells b _ hbl).trans c1, (hE2.cells b _ hbl).trans c2', cell_of_row w' wr.heap.size 0 _ _ (0, 0) hk, cell_of_row w' wr.heap.size 1 _ _ (0, 0) hk, cell_of_row w' wr.heap.size 2 _ _ (0, 0) hk, cell_of_row w' wr.heap.size 3 _ _ (0, 0) hk⟩)
        have hown8 := hown.ext hX
        obtain ⟨N, hN⟩ : ∃ N, X.length = N := ⟨_, rfl⟩
        obtain ⟨M, hM⟩ : ∃ M, P.length = M := ⟨_, rfl⟩
        obtain ⟨V, hV⟩ : ∃ V, (vput q).length = V := ⟨_, rfl⟩
        rw [hN] at hXl ⊢
        rw [hM] at hPl
        have hV10 : V ≤ 10 := by omega
        clear hvq hvq2
        have HN := Lib.hid hN
        have HM := Lib.hid hM
        have HV := Lib.hid hV
        have Hstep := Lib.hid hstep2
        have Hxr := Lib.hid (show ∀ W, Ext w W → Rd .u8 W xA n3 xt from fun W hW => by
          obtain ⟨b2', o2', x', e', _, hx2', _, _, _, _, hin'⟩ := (hx.ext hW).at_ hlt
          rw [hx2] at hx2'
          injection hx2' with hx2'
          subst hx2'
          exact hn3 ▸ hin'.rd)
        have hPe := Lib.hid hP
        have i0 : (0 : Int) ≤ (q : Int) := by omega
        have i1 : (q : Int) < (n : Int) := by omega
        have hz8 := hX.size
        clear hstep hPP hP hN hM hV hstep2 hn3
        obtain ⟨g0, g1, g2, g3, g4, g5, g6, g7⟩ := K.out _ (Ext.refl W8)
        go_wp2_with fail
        rw [← hW8]
        clear hW8 c0 c1 c2' e0 e1 e2 e9 hx2 hxv
        refine (put_any q _ (by omega)).mono ?_
        rintro e w3 ⟨A3, c3, rfl, hown3, he3⟩
        rw [HV.out]
        have hown3' := hown8.ext he3
        have hK83 : w3.heap[wr.heap.size]? = some (.cells #[.int .i64 (q : Int), .bool xn, .int .i64 xi, .slice xA n3 xc] 84) := (he3.block _ (Array.getElem?_eq_some_iff.1 hA8).1).trans hA8
        go_wp2_with (at_builtin; refine wpList_pushes2 (w0 := w1) rfl _ _ rfl hown3' N HN.out rfl rfl (hown3.rd' HV.out) (by omega) ((hb.trans hX).trans he3) (by have := he3.size; omega) ?_; intro A4 c4 w4 hown4 hgr4 hb4 hz4)
        have hk4 := own_keepB hown3' (Ext.refl w3) hgr4 hK83 (by decide)
        have hE4 : Ext w w4 := hE1.trans hb4
        have s4 := s1.ext hb4
        obtain ⟨b', o', dd', e4', hbl4, hd4, c0, c1, c2'⟩ := (hs.rd.ext hE4).at_ hqn
        injection e4' with e4'
        injection e4' with e5' e6'
        subst e5' e6'
        rw [hd] at hd4
        injection hd4 with hd4
        subst hd4
        simp only at c0 c1 c2'
        have K3 : Hid (∀ w', Ext w4 w' → w'.cell? ⟨w.heap.size, 0, none⟩ = some (.slice (some ⟨b, o, none⟩) n c) ∧ w'.cell? ⟨b, o + q * 3, none⟩ = some (.string nm) ∧ w'.cell? ⟨b, o + q * 3 + 1, none⟩ = some (.int .i64 kd) ∧ w'.cell? ⟨b, o + q * 3 + 2, none⟩ = some (.bool nl) ∧ w'.cell? ⟨wr.heap.size, 0, none⟩ = some (.int .i64 (q : Int)) ∧ w'.cell? ⟨wr.heap.size, 1, none⟩ = some (.bool xn) ∧ w'.cell? ⟨wr.heap.size, 2, none⟩ = some (.int .i64 xi) ∧ w'.cell? ⟨wr.heap.size, 3, none⟩ = some (.slice xA n3 xc)) := Lib.hid (fun w' he => by
          have hk := (he.block _ (Array.getElem?_eq_some_iff.1 hk4).1).trans hk4
          exact ⟨(s4.ext he).c0, (he.cells b _ hbl4).trans c0, (he.cells b _ hbl4).trans c1, (he.cells b _ hbl4).trans c2', cell_of_row w' wr.heap.size 0 _ _ (0, 0) hk, cell_of_row w' wr.heap.size 1 _ _ (0, 0) hk, cell_of_row w' wr.heap.size 2 _ _ (0, 0) hk, cell_of_row w' wr.heap.size 3 _ _ (0, 0) hk⟩)
        have K4 : Hid (∀ W w' N, Ext w4 W → W.grownBy w' (Value.slice A4 N c4).ownBlock → w'.cell? ⟨w.heap.size, 0, none⟩ = some (.slice (some ⟨b, o, none⟩) n c) ∧ w'.cell? ⟨b, o + q * 3, none⟩ = some (.string nm) ∧ w'.cell? ⟨b, o + q * 3 + 1, none⟩ = some (.int .i64 kd) ∧ w'.cell? ⟨b, o + q * 3 + 2, none⟩ = some (.bool nl) ∧ w'.cell? ⟨wr.heap.size, 0, none⟩ = some (.int .i64 (q : Int)) ∧ w'.cell? ⟨wr.heap.size, 1, none⟩ = some (.bool xn) ∧ w'.cell? ⟨wr.heap.size, 2, none⟩ = some (.int .i64 xi) ∧ w'.cell? ⟨wr.heap.size, 3, none⟩ = some (.slice xA n3 xc)) := Lib.hid (fun W w' N hW hg => by
          obtain ⟨q1, q2, q3, q4, _⟩ := K3.out W hW
          have hk := own_keepB hown4 hW hg ((hW.block _ (Array.getElem?_eq_some_iff.1 hk4).1).trans hk4) (by decide)
          have kk := fun {g o : Nat} {v : Value} (hv : W.cell? ⟨g, o, none⟩ = some v) (hq : g < w1.heap.size) => own_keep (hi := w4.heap.size) hown4 (Nat.le_refl _) (Nat.le_refl _) hW hg hv (.inl hq)
          exact ⟨kk q1 hz01, kk q2 (by omega), kk q3 (by omega), kk q4 (by omega), cell_of_row w' wr.heap.size 0 _ _ (0, 0) hk, cell_of_row w' wr.heap.size 1 _ _ (0, 0) hk, cell_of_row w' wr.heap.size 2 _ _ (0, 0) hk, cell_of_row w' wr.heap.size 3 _ _ (0, 0) hk⟩)
        have HC : Hid (∀ W, Ext w4 W → Calls Try.prog 66 #[.agg #[.string nm, .int .i64 kd, .bool nl], .agg #[.bool xn, .int .i64 xi, .slice xA n3 xc]] W fun e w' => ∃ A' c', e = .returned (.slice A' M c') ∧ Own .u8 5 w' W.heap.size A' c' P ∧ Ext W w') := Lib.hid (fun W hW => by
          rw [← HM.out, hPe.out]; exact putCell_any nm kd nl xn xi xA n3 xc xt W (Hxr.out W (hE4.trans hW)) xu (by omega) x0 x1)
        have Hown : Hid (∀ W, Ext w4 W → Own .u8 5 W w1.heap.size A4 c4 (X ++ vput q)) := Lib.hid (fun W hW => hown4.ext hW)
        have HB : Hid (∀ W, Ext w4 W → Below w1.heap.size w1 W ∧ w1.heap.size ≤ W.heap.size) := Lib.hid (fun W hW => ⟨Ext.trans (show Ext w1 w4 from hb4) hW, Nat.le_trans hz4 hW.size⟩)
        have HNV : Hid ((X ++ vput q).length = N + V) := Lib.hid (by rw [List.length_append, HN.out, HV.out])
        have hg8 := K3.out _ (Ext.refl w4)
        have h9a := hg8.1
        have h9b := hg8.2.2.2.2.1
        clear c0 c1 c2' hown3 hown3' he3 hk4 hK83 hown hown8 hb hbw s0 s4 g0 g1 g2 g3 g4 g5 g6 g7 hA8 K hd hgr4
        go_region_held3 (fun w' => w'.cell? ⟨w.heap.size, 0, none⟩ = some (.slice (some ⟨b, o, none⟩) n c) ∧ w'.cell? ⟨b, o + q * 3, none⟩ = some (.string nm) ∧ w'.cell? ⟨b, o + q * 3 + 1, none⟩ = some (.int .i64 kd) ∧ w'.cell? ⟨b, o + q * 3 + 2, none⟩ = some (.bool nl) ∧ w'.cell? ⟨wr.heap.size, 0, none⟩ = some (.int .i64 (q : Int)) ∧ w'.cell? ⟨wr.heap.size, 1, none⟩ = some (.bool xn) ∧ w'.cell? ⟨wr.heap.size, 2, none⟩ = some (.int .i64 xi) ∧ w'.cell? ⟨wr.heap.size, 3, none⟩ = some (.slice xA n3 xc))
          (first | exact hg8 | (refine K4.out _ _ _ ?_ hgr6; focus ((repeat (first | exact Ext.refl _ | (with_reducible refine Ext.trans ?_ he5) | apply Ext.drew | apply Ext.alloc | fail)); done)) | (refine K3.out _ ?_; (repeat (first | exact Ext.refl _ | (with_reducible refine Ext.trans ?_ he5) | apply Ext.drew | apply Ext.alloc | fail))) | fail)
          (first
            | (go_at_call 66; (with_reducible refine (HC.out _ ?_).mono ?_); (focus ((repeat (first | exact Ext.refl _ | (with_reducible refine Ext.trans ?_ he5) | apply Ext.drew | apply Ext.alloc | fail)); done)); rintro e w5 ⟨A5, c5, rfl, hown5, he5⟩)
            | (refine step_pushes (w0 := w1) (by rfl) _ _ (by rfl) (Hown.out _ (by (repeat (first | exact Ext.refl _ | (with_reducible refine Ext.trans ?_ he5) | apply Ext.drew | apply Ext.alloc | fail)))) (N + V) HNV.out (by rfl) (by rfl) (hown5.rd' HM.out) (by omega) (HB.out _ (by (repeat (first | exact Ext.refl _ | (with_reducible refine Ext.trans ?_ he5) | apply Ext.drew | apply Ext.alloc | fail)))).1 (HB.out _ (by (repeat (first | exact Ext.refl _ | (with_reducible refine Ext.trans ?_ he5) | apply Ext.drew | apply Ext.alloc | fail)))).2 ?_; intro A6 c6 w6 hown6 hgr6 hb6 hz6)
            | fail)
        go_wp2
        go_roundw
        case rel => exact ⟨j + 1, A6, c6, _, by omega, by go_num, by rw [List.length_append, HNV.out, HM.out], Lib.hid Hstep.out, hown6, hb6⟩
        case measure => simp [intOf]; omega
      · obtain rfl : j = n2 := by omega
        have hX := HX.out
        rw [List.take_of_length_le (by rw [List.length_map, Hl2.out]; exact Nat.le_refl _), ← Hsl.out, ← HL.out] at hX
        subst hX
        have HO := Lib.hid hown
        clear hown
        go_wp2
        go_ret2
        exact ⟨A', c', by rw [He0.out]; rfl, HO.out.mono hE1.size, hE1.trans hb⟩
  · rw [if_neg e0] at hL
    have b1 : (E != 0) = true := by simp [e0]
    clear e0 hz0
    subst hL
    go_enter Try.func37, Try.ntmps37
    go_wp2_with fail
    refine (ssets_any A n c keys cs A2 n2 c2 ts _ h1 h2 hn2).mono ?_
    rintro e w1 ⟨rfl, he1⟩
    rw [← HE.out]
    go_wp2
    go_ret2
    exact ⟨none, 0, rfl, Own.nil .., hE.trans he1⟩

end Go.Proofs.Ytpjichclpnebjaa

-- part H27
/-
  Layer 6: sets written by the document.
-/
namespace Go.Proofs.Ytpjichclpnebjaa
open Go.RowKit

set_option maxHeartbeats 6400000 in
set_option maxRecDepth 100000 in
theorem refPutSets_any (A : Option Addr) (n c : Nat) (keys : Int) (cs : List Col) (A2 : Option Addr) (n2 c2 : Nat) (ts : List Si) (w : World) (hs : SchIn w A n c cs) (hx : RdT w A2 n2 ts) (hn2 : n2 ≤ 140737488355328) :
    Calls Try.prog 36 #[.agg #[.slice A n c, .int .i64 keys], .slice A2 n2 c2] w (CPutPost (psetsL keys cs ts) (setsS keys cs ts) w) := by
  have hE : Ext w (w.alloc (.cells #[.slice A n c, .int .i64 keys] 24)) := (Ext.refl w).alloc _
  have h1 := hs.ext hE
  have h2 := hx.ext hE
  have sb := AtS.box w A n c keys
  have hz0 := setsS_zero (keys := keys) (cs := cs) (ts := ts)
  have hvok := tvals_ok hx
  obtain ⟨L, hL⟩ : ∃ L, L = psetsL keys cs ts := ⟨_, rfl⟩
  rw [← hL]
  unfold psetsL at hL
  obtain ⟨E, hEe⟩ : ∃ E, E = setsS keys cs ts := ⟨_, rfl⟩
  rw [← hEe] at hL hz0 ⊢
  have HE := Lib.hid hEe
  clear hEe
  by_cases e0 : E = 0
  · obtain ⟨hs0, hxl, hrw⟩ := hz0 e0
    rw [if_pos e0] at hL
    have hinv := schE_inv hs0
    have hln := hs.rd.1
    have hl2 := hx.1
    have hall := setW_all hrw
    have hlen := setW_len hrw (by omega)
    rw [List.length_map] at hlen
    rw [hln] at hinv hlen
    rw [hl2] at hlen
    have hn12 : n ≤ 12 := hinv.2.1
    have hk1 : 1 ≤ keys := hinv.2.2.1
    have hn212 : n2 ≤ 12 := by omega
    have HL := Lib.hid hL
    have Hln := Lib.hid hln
    have Hl2 := Lib.hid hl2
    have Hall := Lib.hid hall
    have Hvok := Lib.hid hvok
    have b1 : (E != 0) = false := by simp [e0]
    have He0 := Lib.hid e0
    have hw0 : IntKind.u64.wrap (n2 : Int) = (n2 : Int) := IntWalk.u64_in _ (by omega)
    have hsl : (setsB cs (ts.map Si.val)) = vput n2 ++ setB cs (ts.map Si.val) := by unfold setsB; rw [List.length_map, hl2]
    have Hsl := Lib.hid hsl
    have HVL := Lib.hid (vput_len n2)
    have hvl2 := vsize_le (u := n2) (by omega)
    clear hL hln hxl hl2 hinv hs0 hrw hz0 e0 hvok hall hlen hsl
    go_enter Try.func36, Try.ntmps36
    go_wp2_with fail
    refine (refSsets_any A n c keys cs A2 n2 c2 ts _ h1 h2 hn2).mono ?_
    rintro e w1 ⟨rfl, he1⟩
    rw [← HE.out]
    have s1 := sb.ext he1
    have hE1 := hE.trans he1
    go_wp2_with fail
    refine (refPut_any n2 _ (by omega)).mono ?_
    rintro e w2 ⟨Av, cv, rfl, hownv, he2⟩
    have s2 := s1.ext he2
    have hE2 := hE1.trans he2
    go_wp2_with fail
    go_loopw [7, 8] (fun v i wr => ∃ (j : Nat) (A' : Option Addr) (c' : Nat) (X : List Nat), j ≤ n2 ∧ i = .int .i64 j ∧ v = .slice A' X.length c' ∧ Hid (X = vput n2 ++ setB cs ((ts.map Si.val).take j)) ∧ Own .u8 5 wr w1.heap.size A' c' X ∧ Ext w1 wr) (fun _ i _ => n2 - (intOf i).toNat)
    case atStart => exact ⟨0, _, _, vput n2, Nat.zero_le _, rfl, rfl, Lib.hid (by simp [setB]), hownv, he2⟩
    case round =>
      clear hownv he2 s2 hE2
      obtain ⟨j, A', c', X, hj, rfl, rfl, HX, hown, hb⟩ := hrel
      have s0 := s1.ext hb
      have hz := hb.size
      have hbw := hE1.trans hb
      by_cases hlt : j < n2
      · obtain ⟨b2, o2, x, rfl, hb2, hx2, e9, e0, e1, e2, hin⟩ := (hx.ext hbw).at_ hlt
        have hxv : (ts.map Si.val)[j]? = some x.val := by rw [List.getElem?_map, hx2]; rfl
        obtain ⟨a1, a2, a3⟩ := Hall.out x.val (List.mem_of_getElem? hxv)
        have hstep := setB_step cs hxv
        have hXl : X.length ≤ 10 + 310 * 12 := by
          rw [HX.out, List.length_append, HVL.out]
          have := setB_len cs (ts := (ts.map Si.val).take j) (fun t ht => ⟨by have := (Hall.out t (List.mem_of_mem_take ht)).2.1; rw [Hln.out] at this; omega, Hvok.out t (List.mem_of_mem_take ht)⟩)
          rw [List.length_take, List.length_map, Hl2.out] at this
          omega
        obtain ⟨p, xn, xi, xA, xc, xt⟩ := x
        simp only [Si.val] at e9 e0 e1 e2 a1 a2 a3 hstep
        rw [Hln.out] at a2
        obtain ⟨q, rfl⟩ := Int.eq_ofNat_of_zero_le (show 0 ≤ p by omega)
        rw [Int.toNat_natCast] at hstep a3
        have hqn : q < n := by omega
        obtain ⟨b, o, dd, rfl, hbl, hd, c0, c1, c2'⟩ := (hs.rd.ext hbw).at_ hqn
        rw [colAt_of hd] at hstep a3
        obtain ⟨nm, kd, nl⟩ := dd
        simp only at c0 c1 c2'
        obtain ⟨xr, xu, x0, x1, xl⟩ := hin
        simp only at xr xu x0 x1 xl
        obtain ⟨n3, hn3⟩ : ∃ n3, n3 = xt.length := ⟨_, rfl⟩
        rw [← hn3] at e2 xr xl
        obtain ⟨P, hP⟩ : ∃ P, P = cputL kd xn xi xt := ⟨_, rfl⟩
        have hPP : putB ⟨nm, kd, nl⟩ (Ci.val ⟨xn, xi, xA, xc, xt⟩) = P := hP.symm
        rw [hPP] at hstep
        have hPl : P.length ≤ 300 := by rw [hP]; exact cputL_len x0 x1
        have hstep2 : (X ++ vput q) ++ P = vput n2 ++ setB cs ((ts.map Si.val).take (j + 1)) := by rw [hstep, HX.out]; simp
        have hvq := vput_len q
        have hvq2 := vsize_le (u := q) (by omega)
        have hwq : IntKind.u64.wrap (q : Int) = (q : Int) := IntWalk.u64_in _ (by omega)
        obtain ⟨F, hF⟩ : ∃ F, F = chk kd true xn xi xt := ⟨_, rfl⟩
        have K : Hid (∀ w', Ext wr w' → w'.cell? ⟨w.heap.size, 0, none⟩ = some (.slice (some ⟨b, o, none⟩) n c) ∧ w'.cell? ⟨b, o + q * 3 + 1, none⟩ = some (.int .i64 kd) ∧ w'.cell? ⟨b2, o2 + j * 4, none⟩ = some (.int .i64 (q : Int)) ∧ w'.cell? ⟨b2, o2 + j * 4 + 1, none⟩ = some (.bool xn) ∧ w'.cell? ⟨b2, o2 + j * 4 + 2, none⟩ = some (.int .i64 xi) ∧ w'.cell? ⟨b2, o2 + j * 4 + 3, none⟩ = some (.slice xA n3 xc)) := Lib.hid (fun w' he =>
          ⟨(s0.ext he).c0, (he.cells b _ hbl).trans c1, (he.cells b2 _ hb2).trans e9, (he.cells b2 _ hb2).trans e0, (he.cells b2 _ hb2).trans e1, (he.cells b2 _ hb2).trans e2⟩)
        have HC0 : ∀ W, Ext wr W → Calls Try.prog 65 #[.int .i64 kd, .agg #[.bool xn, .int .i64 xi, .slice xA n3 xc]] W fun e w' => ∃ A' c', e = .returned (.tuple #[.slice A' P.length c', .int .i64 F]) ∧ Own .u8 5 w' W.heap.size A' c' P ∧ Ext W w' := fun W hW => by
          rw [hP, hF]; exact refCPut_any kd xn xi xA n3 xc xt W (xr.ext hW) (by omega) x0 x1
        obtain ⟨N, hN⟩ : ∃ N, X.length = N := ⟨_, rfl⟩
        obtain ⟨M, hM⟩ : ∃ M, P.length = M := ⟨_, rfl⟩
        obtain ⟨V, hV⟩ : ∃ V, (vput q).length = V := ⟨_, rfl⟩
        rw [hN] at hXl ⊢
        rw [hM] at hPl HC0
        rw [hV] at hvq
        have hV10 : V ≤ 10 := by omega
        clear hvq hvq2
        have HC := Lib.hid HC0
        have HN := Lib.hid hN
        have HM := Lib.hid hM
        have HV := Lib.hid hV
        have Hstep := Lib.hid hstep2
        have i0 : (0 : Int) ≤ (q : Int) := by omega
        have i1 : (q : Int) < (n : Int) := by omega
        have i2 : (0 : Int) ≤ (j : Int) := by omega
        have i3 : (j : Int) < (n2 : Int) := by omega
        have Hown := Lib.hid hown
        have g8 := K.out _ (Ext.refl wr)
        clear hstep hPP hP hF hN hM hV hstep2 hn3 hd hx2 hxv HC0 hown c0 c1 c2' e9 e0 e1 e2 s0 xr xu x0 x1 xl
        go_wp2_with fail
        go_region_held3 (fun w' => w'.cell? ⟨w.heap.size, 0, none⟩ = some (.slice (some ⟨b, o, none⟩) n c) ∧ w'.cell? ⟨b, o + q * 3 + 1, none⟩ = some (.int .i64 kd) ∧ w'.cell? ⟨b2, o2 + j * 4, none⟩ = some (.int .i64 (q : Int)) ∧ w'.cell? ⟨b2, o2 + j * 4 + 1, none⟩ = some (.bool xn) ∧ w'.cell? ⟨b2, o2 + j * 4 + 2, none⟩ = some (.int .i64 xi) ∧ w'.cell? ⟨b2, o2 + j * 4 + 3, none⟩ = some (.slice xA n3 xc))
          (first | exact g8 | (refine K.out _ ?_; (repeat (first | exact Ext.refl _ | (with_reducible refine Ext.trans ?_ he3) | apply Ext.drew | apply Ext.alloc | fail))) | fail)
          (first
            | (go_at_call 65; (with_reducible refine (HC.out _ ?_).mono ?_); (focus ((repeat (first | exact Ext.refl _ | (with_reducible refine Ext.trans ?_ he3) | apply Ext.drew | apply Ext.alloc | fail)); done)); rintro e w3 ⟨A3, c3, rfl, hown3, he3⟩)
            | fail)
        have hE3 : Ext wr w3 := by (repeat (first | exact Ext.refl _ | (with_reducible refine Ext.trans ?_ he3) | apply Ext.drew | apply Ext.alloc | fail))
        obtain ⟨_, _, f0, f1, f2, f3⟩ := K.out _ hE3
        have hr3 := hown3.rd' HM.out
        have hx3 := (Hown.out.rd' HN.out).ext hE3
        have hz3 := hE3.size
        clear hown3 g8
        go_wp2_with fail
        refine (refPut_any q _ (by omega)).mono ?_
        rintro e w4 ⟨A4, c4, rfl, hown4, he4⟩
        rw [HV.out]
        go_wp2_with fail
        refine (cat_any _ _ _ _ _ _ X (vput q) _ (hx3.ext he4) (hown4.rd' HV.out) (by omega)).mono ?_
        rintro e w5 ⟨A5, c5, rfl, hown5, he5⟩
        have hr5 := hown5.rd' (n := N + V) (by rw [List.length_append, HN.out, HV.out])
        go_wp2_with fail
        refine (cat_any _ _ _ _ _ _ (X ++ vput q) P _ hr5 ((hr3.ext he4).ext he5) (by omega)).mono ?_
        rintro e w6 ⟨A6, c6, rfl, hown6, he6⟩
        have ho6 := hown6.mono (base' := w1.heap.size) (by have := he4.size; have := he5.size; omega)
        have hb6 := (((hb.trans hE3).trans he4).trans he5).trans he6
        go_wp2
        go_roundw
        case rel => exact ⟨j + 1, A6, c6, _, by omega, by go_num, by rw [List.length_append, List.length_append, HN.out, HV.out, HM.out], Lib.hid Hstep.out, ho6, hb6⟩
        case measure => simp [intOf]; omega
      · obtain rfl : j = n2 := by omega
        have hX := HX.out
        rw [List.take_of_length_le (by rw [List.length_map, Hl2.out]; exact Nat.le_refl _), ← Hsl.out, ← HL.out] at hX
        subst hX
        have HO := Lib.hid hown
        clear hown
        go_wp2
        go_ret2
        exact ⟨A', c', by rw [He0.out]; rfl, HO.out.mono hE1.size, hE1.trans hb⟩
  · rw [if_neg e0] at hL
    have b1 : (E != 0) = true := by simp [e0]
    clear e0 hz0
    subst hL
    go_enter Try.func36, Try.ntmps36
    go_wp2_with fail
    refine (refSsets_any A n c keys cs A2 n2 c2 ts _ h1 h2 hn2).mono ?_
    rintro e w1 ⟨rfl, he1⟩
    rw [← HE.out]
    go_wp2
    go_ret2
    exact ⟨none, 0, rfl, Own.nil .., hE.trans he1⟩

end Go.Proofs.Ytpjichclpnebjaa
