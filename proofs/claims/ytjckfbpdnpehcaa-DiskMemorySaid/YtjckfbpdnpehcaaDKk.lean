/-
  Layer 14: bytes put behind a file.
-/
import Derived.Deep.RegionLaw
import Derived.Maps.AppendAt
import Derived.Test.YtjckfbpdnpehcaaSLI
import Derived.Test.YtjckfbpdnpehcaaDKj
namespace Go.Proofs.Ytjckfbpdnpehcaa
open Go.RowKit Go.Maps Go.WideMaps
set_option maxRecDepth 100000

/-- 'append(out, ys...)' in a drawn region, and where the new row lies. -/
theorem step_pushesAt {w : World} {ops : Array Oper} {o : Oper} {a : Act} {K : Act → World → Prop} {Q : Exit → Act → World → Prop} {E : Prop} (hgd : o.guard = none) (s y : Operand)
    (ho : o.op = .call { callee := .builtin .append, args := #[s, y], argTypes := #[22, 22] })
    {base : Nat} {A A2 : Option Addr} {c m c2 : Nat} {xs ys : List Nat} (hown : Own .u8 5 w base A c xs) (n : Nat) (hn : xs.length = n) (hs : a.eval s = .slice A n c)
    (hy : a.eval y = .slice A2 m c2) (hrd : Rd .u8 w A2 m ys) (hlen : n + m ≤ 140737488355328) (hbase : base ≤ w.heap.size)
    (h : ∀ A' c' w', Own .u8 5 w' base A' c' (xs ++ ys) → w.grownBy w' (Value.slice A n c).ownBlock → (∀ a', A' = some a' → (∃ a0, A = some a0 ∧ a'.block = a0.block) ∨ a'.block = w.heap.size) → K (a.put o.dst (.slice A' (n + m : Nat) c')) w') :
    if Region.wanted o (yielded ops a.tmps) = true then Oper.wp Try.prog o a w K Q else E := by
  have hw : Region.wanted o (yielded ops a.tmps) = true := by simp [Region.wanted, hgd]
  rw [if_pos hw]
  subst hn
  obtain ⟨i, hi0, hz, hsz, hbs⟩ := info_parts Try.infoU8
  have hyl := hrd.len
  cases A2 with
  | none =>
    have hm : m = 0 := by
      rcases Nat.eq_zero_or_pos m with h0 | h0
      · exact h0
      · obtain ⟨b, o, he, _⟩ := hrd.2 h0
        cases he
    subst hm
    obtain rfl : ys = [] := List.eq_nil_of_length_eq_zero hyl
    have hrun := run_append_none (P := Try.prog) (w := w) 22 o.type i 1 c2 Try.underlying22 hi0 _ _ _ hown
    unfold Oper.wp
    simp [execOp, ho, resolve, invoke, builtin, hs, hy, hrun, Result.andThen]
    exact h A c w (by simpa using hown) ⟨rfl, rfl, rfl, Nat.le_refl _, fun _ _ _ => rfl⟩ (fun a ha => .inl ⟨a, ha, rfl⟩)
  | some ad =>
    obtain ⟨v', w', hr, h2, h3, _, h5⟩ := run_append_own_at (P := Try.prog) w base 22 o.type 5 i (.int .u8 0) 1 1 Try.underlying22 hi0 hz hsz hbs rfl (by decide) _ xs.length (xs.map fun x : Nat => Value.int .u8 (x : Int)) hown
      ad m c2 (ys.map fun x : Nat => Value.int .u8 (x : Int)) (by simp [hyl]) (by
        intro j u hj
        rw [List.getElem?_map] at hj
        cases hy2 : ys[j]? with
        | none => rw [hy2] at hj; cases hj
        | some y2 =>
          rw [hy2] at hj
          injection hj with hj
          subst hj
          have hjm : j < m := by have := (List.getElem?_eq_some_iff.1 hy2).1; omega
          obtain ⟨b, o2, he, _, hc⟩ := hrd.2 (by omega)
          injection he with he
          subst he
          have h1 := hc j hjm
          rw [show (⟨b, o2, none⟩ : Addr).add j = ⟨b, o2 + j, none⟩ from by simp [Addr.add]]
          rw [h1]
          simp [List.getD, hy2]) (by
        intro u hu
        obtain ⟨x, _, rfl⟩ := List.mem_map.1 hu
        rfl) (by unfold maxLen; omega) (by omega) hbase
    unfold Oper.wp execOp
    simp only [ho, resolve, invoke, builtin, Sem.run_bind, Sem.run_pure, Result.andThen_ok, List.map_toArray, List.map_cons, List.map_nil, hs, hy, hr]
    have hform : ∃ A' c', v' = .slice A' (xs.length + m) c' := by
      rcases h2.2 with ⟨hv, h0⟩ | ⟨g, cap, cur, hv, _⟩
      · exact ⟨none, 0, by rw [hv, h0]⟩
      · exact ⟨_, _, hv⟩
    obtain ⟨A', c', rfl⟩ := hform
    refine h A' c' w' ?_ h3 ?_
    · unfold Own
      rw [List.length_append, hyl, List.map_append]
      exact h2
    · rintro a' rfl
      rcases h5 with q | q
      · cases A with
        | none => cases q
        | some a0 => exact .inl ⟨a0, rfl, Option.some.inj q⟩
      · exact .inr (Option.some.inj q)

theorem min3_run (x y z : Int) (ts : Array TypeId) (t : TypeId) (W : World) : (Builtin.min_ ts t #[.int .i64 x, .int .i64 y, .int .i64 z]).run Try.prog W = .ok (.int .i64 (min (min x y) z)) W := by
  have e1 : (if y < x then y else x) = min x y := by omega
  have e2 : (if z < min x y then z else min x y) = min (min x y) z := by omega
  simp [Builtin.min_, Builtin.min2, e1, e2]

/-- The box of bytes, as a closure holds it. -/
def Bs (w : World) (q : Nat) (A : Option Addr) (m c : Nat) : Prop := w.heap[q]? = some (.cells #[.slice A m c] 22 (0, 0))

def doAppend (x : List UInt8) (ys : List Nat) (S : DS) : Int × DS := match lkp S.files x with
  | none => (143, S)
  | some q => if S.room - (usedD S : Int) < (ys.length : Int) then (142, S) else (0, { S with fl := setF S.fl q fun f => ⟨f.data ++ ys, f.safe⟩ })
def doPart (x : List UInt8) (ys : List Nat) (S : DS) (n : Int) : DS := match lkp S.files x with
  | none => S
  | some q => { S with fl := setF S.fl q fun f => ⟨f.data ++ ys.take (max (min (min n (ys.length : Int)) (S.room - (usedD S : Int))) 0).toNat, f.safe⟩ }

theorem used_ge {S : DS} (x : List UInt8) {q : Nat} (hl : lkp S.files x = some q) : lenF S q ≤ usedD S := by
  unfold usedD
  have : ∀ d : Dir, lkp d x = some q → lenF S q ≤ (d.map fun e => lenF S e.2).sum := by
    intro d
    induction d with
    | nil => intro h; cases h
    | cons e r ih =>
      intro h
      by_cases he : e.1 = x
      · have : e.2 = q := by simpa [lkp, he] using h
        rw [← this]
        simp
      · have h2 : lkp r x = some q := by simpa [lkp, he] using h
        have := ih h2
        simp only [List.map_cons, List.sum_cons]
        omega
  exact this _ hl

section
variable {w w' : World} {X : Nat → Prop} {base dp : Nat} {S : DS} {I : DI}
/-- The disk behind bytes that were put behind a file. -/
theorem DK.appended {V W : World} {q : Nat} {f0 : FS} {ys : List Nat} {A : Option Addr} {c k : Nat} (h : DK V X base dp S I) (hf : (q, f0) ∈ S.fl) (hu : U8 ys) (hk : k = f0.data.length + ys.length)
    (ho : Own .u8 5 W base A c (f0.data ++ ys)) (hg : V.grownBy W (Value.slice (I.rows q) f0.data.length (I.caps q)).ownBlock) (hA : ∀ a', A = some a' → (∃ a0, I.rows q = some a0 ∧ a'.block = a0.block) ∨ a'.block = V.heap.size) :
    ∃ I', DK (W.setCell ⟨q, 0, none⟩ (.slice A k c)) (fun b => X b ∨ (V.heap.size ≤ b ∧ b < W.heap.size)) base dp { S with fl := setF S.fl q fun f => ⟨f.data ++ ys, f.safe⟩ } I' ∧ Nx X V (fun b => X b ∨ (V.heap.size ≤ b ∧ b < W.heap.size)) (W.setCell ⟨q, 0, none⟩ (.slice A k c)) := by
  obtain ⟨k1, k2, k3⟩ := h.fil q f0 hf
  have hs := setCell_grown W ⟨q, 0, none⟩ (.slice A k c)
  have hz : (W.setCell ⟨q, 0, none⟩ (.slice A k c)).heap.size = W.heap.size := by simp [World.setCell]
  have s1 := hg.size
  have hrow : ∀ b, b < V.heap.size → (∀ a, I.rows q = some a → b ≠ a.block) → W.heap[b]? = V.heap[b]? := fun b hb hne => hg.block b hb (fun e => by
    cases hr : I.rows q with
    | none => rw [hr] at e; cases e
    | some a => rw [hr] at e; exact hne a hr (Option.some.inj e))
  have hq := (h.bd q k2).2
  have hqW : W.heap[q]? = V.heap[q]? := hrow q hq (fun a ha e => by
    obtain ⟨cur, hc⟩ := k1.own.ty a ha
    rw [← e, k1.blk] at hc
    injection hc with hc
    injection hc with _ hc
    exact absurd hc (by decide))
  have hbase : base ≤ V.heap.size := by have := h.bd dp h.xs.1; omega
  have hAq : ∀ a, A = some a → a.block ≠ q := fun a ha e => by
    obtain ⟨cur, hc⟩ := ho.ty a ha
    rw [e, hqW, k1.blk] at hc
    injection hc with hc
    injection hc with _ hc
    exact absurd hc (by decide)
  have hAl : ∀ a, A = some a → a.block < W.heap.size := fun a ha => by
    obtain ⟨cur, hc⟩ := ho.ty a ha
    exact (Array.getElem?_eq_some_iff.1 hc).1
  rw [setF_one h.nd hf (fun f => (⟨f.data ++ ys, f.safe⟩ : FS))]
  refine ⟨_, h.filed (f1 := ⟨f0.data ++ ys, f0.safe⟩) hf A c (fun b hb => .inl hb) ?_ ?_ ⟨?_, ?_, ?_, ?_, k1.lq⟩ ?_, ⟨?_, fun b hb => .inl hb, fun b hb => ?_⟩⟩
  · intro b hb
    rw [hz]
    rcases hb with hb | hb
    · have := h.bd b hb; omega
    · omega
  · intro b hb n1 n2
    have hl := (h.bd b hb).2
    exact (hs.block b (by omega) (fun e => n1 (Option.some.inj e))).trans (hrow b hl n2)
  · rw [heap_setCell_same W q 0 _ _ _ (hqW.trans k1.blk), hk, ← List.length_append]
    rfl
  · exact ho.blk fun a ha => hs.block _ (hAl a ha) (fun e => hAq a ha (Option.some.inj e))
  · intro y hy
    rcases List.mem_append.1 hy with hy | hy
    · exact k1.u8 y hy
    · exact hu y hy
  · show f0.safe ≤ (f0.data ++ ys).length
    have := k1.le
    rw [List.length_append]
    omega
  · intro a ha
    rcases hA a ha with q' | q'
    · exact .inl q'
    · exact .inr ⟨.inr ⟨by omega, hAl a ha⟩, by omega⟩
  · refine (row_frX hg k3).trans (grownBy_frX hs (.inl k2))
  · rcases hb with hb | hb
    · exact .inl hb
    · exact .inr hb.1

theorem append1_call (args : Array Value) (W : World) : (callFunc 49 args).run Try.prog W = .ok (.enter 49 args) W := by
  have h1 : Try.f49.name ≠ "runtime.NumGoroutine" := by decide
  have h2 : Try.f49.body ≠ none := by intro h; cases h
  simp [callFunc, Try.func49, h1, h2]
theorem append2_call (args : Array Value) (W : World) : (callFunc 51 args).run Try.prog W = .ok (.enter 51 args) W := by
  have h1 : Try.f51.name ≠ "runtime.NumGoroutine" := by decide
  have h2 : Try.f51.body ≠ none := by intro h; cases h
  simp [callFunc, Try.func51, h1, h2]

set_option maxHeartbeats 4000000 in
theorem append1_any {q qn qb : Nat} {A2 : Option Addr} {m c2 : Nat} {ys : List Nat} (h : DK w X base dp S I) (x : List UInt8) (hx : x.length ≤ 140737488355328) (hq : Bx w q dp) (hn : Bn w qn x) (hb : Bs w qb A2 m c2) (hrd : Rd .u8 w A2 m ys) (hu : U8 ys) (hf : Fit S 140737488355328) : Calls Try.prog 49 #[.pointer (some ⟨q, 0, none⟩), .pointer (some ⟨qn, 0, none⟩), .pointer (some ⟨qb, 0, none⟩)] w fun e w' => ∃ r X' S' I', e = .returned (.int .i64 r) ∧ DK w' X' base dp S' I' ∧ PostF X (fun _ => doAppend x ys) S w r X' S' I' w' := by
  have c1 : w.cell? ⟨q, 0, none⟩ = some (.pointer (some ⟨dp, 0, none⟩)) := cell_of_row w q 0 _ _ (0, 0) hq
  have c2' : w.cell? ⟨qn, 0, none⟩ = some (nm x) := cell_of_row w qn 0 _ _ (0, 0) hn
  have c3' : w.cell? ⟨qb, 0, none⟩ = some (.slice A2 m c2) := cell_of_row w qb 0 _ _ (0, 0) hb
  obtain ⟨d0, d1, d2, d3, d4, d5, d6⟩ := h.at_
  have lk := h.drew.dF.look (x := x) (by unfold maxLen; omega)
  have Hd := Lib.hid h
  have hml := hrd.len
  cases hl : lkp S.files x with
  | none =>
    rw [hl] at lk
    replace lk : (Instr.lookup 84 (.map (some I.F)) (nm x) false).run Try.prog w.drew = .ok (.pointer none) w.drew := lk
    have Hl := Lib.hid hl
    clear h hq hn hb d0 d2 d3 d4 d5 d6 hl hrd hml hf
    go_enter Try.func49, Try.ntmps49
    go_wp2_with fail
    go_region
    all_goals
      go_wp2
      go_ret
      exact ⟨143, X, S, I, rfl, Hd.out.drew, _, Nat.le_refl _, by simp [doAppend, Hl.out], Nx.of_ext (Ext.refl w).drew⟩
  | some p =>
    rw [hl] at lk
    replace lk : (Instr.lookup 84 (.map (some I.F)) (nm x) false).run Try.prog w.drew = .ok (.pointer (some ⟨p, 0, none⟩)) w.drew := lk
    obtain ⟨_, f0, hf0⟩ := h.idF x p hl
    have hlen0 := lenF_mem h.nd hf0
    have hge := used_ge x hl
    have hroom := hf.room
    have Hl := Lib.hid hl
    have Hf0 := Lib.hid hf0
    have HBX : Hid (∀ W, Ext w W → W.cell? ⟨q, 0, none⟩ = some (.pointer (some ⟨dp, 0, none⟩)) ∧ W.cell? ⟨qb, 0, none⟩ = some (.slice A2 m c2)) := Lib.hid (fun W hW => ⟨cell_of_row W q 0 _ _ (0, 0) ((hW.block q (Array.getElem?_eq_some_iff.1 hq).1).trans hq), cell_of_row W qb 0 _ _ (0, 0) ((hW.block qb (Array.getElem?_eq_some_iff.1 hb).1).trans hb)⟩)
    have HFL : Hid (∀ W, Ext w W → Calls Try.prog 50 #[.pointer (some ⟨dp, 0, none⟩)] W fun e w' => e = .returned (.int .i64 (S.room - (usedD S : Int))) ∧ Ext W w') := Lib.hid (fun W hW => left_any (h.ext hW) hf)
    have HRD := Lib.hid hrd
    obtain ⟨L, hL⟩ : ∃ L, L = S.room - (usedD S : Int) := ⟨_, rfl⟩
    rw [← hL] at HFL
    have HL := Lib.hid hL
    have hbound : (m : Int) ≤ L → f0.data.length + m ≤ 140737488355328 := by omega
    have Hbd := Lib.hid hbound
    have Hml := Lib.hid hml
    clear h hq hn hb d0 d2 d3 d4 d5 d6 hl hrd hml hf hlen0 hge hroom hL hbound hf0
    go_enter Try.func49, Try.ntmps49
    go_wp2_with fail
    go_region
    all_goals
      obtain ⟨V, hV⟩ : ∃ V, V = w.drew := ⟨_, rfl⟩
      have HV : Hid (Ext w V) := Lib.hid (by rw [hV]; exact (Ext.refl w).drew)
      obtain ⟨k1, k2⟩ := HBX.out V HV.out
      rw [← hV]
      clear hV c1 c2' c3' d1 lk
      go_wp2_with fail
      go_region_held3 (fun W => W.cell? ⟨q, 0, none⟩ = some (.pointer (some ⟨dp, 0, none⟩)) ∧ W.cell? ⟨qb, 0, none⟩ = some (.slice A2 m c2))
        (first | exact ⟨k1, k2⟩ | exact HBX.out _ he3.out | fail)
        (first
          | (go_at_call 50; refine (HFL.out _ ?_).mono ?_; (first | exact HV.out | exact HV.out.drew | exact Ext.trans HV.out (Ext.of_drewN _ _) | fail); rintro e w3 ⟨rfl, he3'⟩; have he3 : Hid (Ext w w3) := Lib.hid (HV.out.trans ⟨he3'.os, he3'.tape, he3'.output, he3'.size, he3'.block⟩); clear he3')
          | fail)
      obtain ⟨j1, j2⟩ := HBX.out w3 he3.out
      clear k1 k2
      by_cases hlt : L < (m : Int)
      · go_wp2
        go_ret
        exact ⟨142, X, S, I, rfl, Hd.out.ext he3.out, _, he3.out.size, by simp only [doAppend, Hl.out]; rw [if_pos (by rw [← HL.out, Hml.out]; exact hlt)], Nx.of_ext he3.out⟩
      · have Hlt := Lib.hid (show ¬ L < (m : Int) from hlt)
        have HDr := Lib.hid (Hd.out.ext he3.out).drew
        have HRd := Lib.hid (HRD.out.ext he3.out.drew)
        obtain ⟨b1, b2, b3⟩ := HDr.out.fil p f0 Hf0.out
        have e0 : w3.cell? ⟨p, 0, none⟩ = some (.slice (I.rows p) f0.data.length (I.caps p)) := cell_of_row w3.drew p 0 _ _ (0, 0) b1.blk
        have HOW := Lib.hid b1.own
        have HB1 := Lib.hid b1.blk
        have HE3 : Hid (Ext w w3.drew) := Lib.hid he3.out.drew
        have hb9 : f0.data.length + m ≤ 140737488355328 := Hbd.out (by omega)
        have Hbs : Hid (base ≤ w3.drew.heap.size) := Lib.hid (by have := (HDr.out.bd dp HDr.out.xs.1); omega)
        have Hrows : Hid (∀ a, I.rows p = some a → a.block ≠ p) := Lib.hid (fun a ha e => by
          obtain ⟨cur, hc⟩ := b1.own.ty a ha
          rw [e, b1.blk] at hc
          injection hc with hc
          injection hc with _ hc
          exact absurd hc (by decide))
        have Hpl : Hid (p < w3.drew.heap.size) := Lib.hid (HDr.out.bd p b2).2
        clear b1 b2 b3
        go_wp2_with fail
        go_region_law
          (first
            | (refine step_pushesAt (by rfl) _ _ (by rfl) HOW.out _ (by rfl) (by rfl) (by rfl) HRd.out hb9 Hbs.out ?_; intro A' c' w4 ho4 hg4 ha4; have hb4 := (hg4.block p Hpl.out (fun e => by cases hr : I.rows p with | none => rw [hr] at e; cases e | some a => rw [hr] at e; exact Hrows.out a hr (Option.some.inj e).symm)).trans HB1.out; have e4 : w4.cell? ⟨p, 0, none⟩ = some (.slice (I.rows p) f0.data.length (I.caps p)) := cell_of_row w4 p 0 _ _ (0, 0) hb4; have fr4 : w4.frozen? ⟨p, 0, none⟩ = false := by simp [World.frozen?, hb4])
            | fail)
        all_goals
          go_wp2
          go_ret
          obtain ⟨I', hD, hN⟩ := HDr.out.appended (k := f0.data.length + m) Hf0.out hu (by rw [Hml.out]) ho4 hg4 ha4
          exact ⟨0, _, _, I', rfl, hD, _, HE3.out.size, by simp only [doAppend, Hl.out]; rw [if_neg (by rw [← HL.out, Hml.out]; have := Hlt.out; omega)], (Nx.of_ext HE3.out).trans hN⟩

set_option maxHeartbeats 4000000 in
theorem append2_any {q qn qb : Nat} {A2 : Option Addr} {m c2 : Nat} {ys : List Nat} (h : DK w X base dp S I) (x : List UInt8) (z : Int) (hx : x.length ≤ 140737488355328) (hq : Bx w q dp) (hn : Bn w qn x) (hb : Bs w qb A2 m c2) (hmc : m ≤ c2) (hrd : Rd .u8 w A2 m ys) (hu : U8 ys) (hf : Fit S 140737488355328) : Calls Try.prog 51 #[.int .i64 z, .pointer (some ⟨q, 0, none⟩), .pointer (some ⟨qn, 0, none⟩), .pointer (some ⟨qb, 0, none⟩)] w fun e w' => e = .returned (.tuple #[]) ∧ ∃ X' S' I', DK w' X' base dp S' I' ∧ PostG X (doPart x ys) S w z X' S' I' w' := by
  have c1 : w.cell? ⟨q, 0, none⟩ = some (.pointer (some ⟨dp, 0, none⟩)) := cell_of_row w q 0 _ _ (0, 0) hq
  have c2' : w.cell? ⟨qn, 0, none⟩ = some (nm x) := cell_of_row w qn 0 _ _ (0, 0) hn
  have c3' : w.cell? ⟨qb, 0, none⟩ = some (.slice A2 m c2) := cell_of_row w qb 0 _ _ (0, 0) hb
  obtain ⟨d0, d1, d2, d3, d4, d5, d6⟩ := h.at_
  have lk := h.drew.dF.look (x := x) (by unfold maxLen; omega)
  have Hd := Lib.hid h
  have hml := hrd.len
  cases hl : lkp S.files x with
  | none =>
    rw [hl] at lk
    replace lk : (Instr.lookup 84 (.map (some I.F)) (nm x) false).run Try.prog w.drew = .ok (.pointer none) w.drew := lk
    have Hl := Lib.hid hl
    clear h hq hn hb d0 d2 d3 d4 d5 d6 hl hrd hml hf
    go_enter Try.func51, Try.ntmps51
    go_wp2_with fail
    go_region
    all_goals
      go_wp2
      go_end0
      exact ⟨rfl, X, S, I, Hd.out.drew, by simp [doPart, Hl.out], Nx.of_ext (Ext.refl w).drew⟩
  | some p =>
    rw [hl] at lk
    replace lk : (Instr.lookup 84 (.map (some I.F)) (nm x) false).run Try.prog w.drew = .ok (.pointer (some ⟨p, 0, none⟩)) w.drew := lk
    obtain ⟨_, f0, hf0⟩ := h.idF x p hl
    have hlen0 := lenF_mem h.nd hf0
    have hlen9 := hf.len p f0 hf0
    have hge := used_ge x hl
    have hroom := hf.room
    have Hl := Lib.hid hl
    have Hf0 := Lib.hid hf0
    have HBX : Hid (∀ W, Ext w W → W.cell? ⟨q, 0, none⟩ = some (.pointer (some ⟨dp, 0, none⟩)) ∧ W.cell? ⟨qb, 0, none⟩ = some (.slice A2 m c2)) := Lib.hid (fun W hW => ⟨cell_of_row W q 0 _ _ (0, 0) ((hW.block q (Array.getElem?_eq_some_iff.1 hq).1).trans hq), cell_of_row W qb 0 _ _ (0, 0) ((hW.block qb (Array.getElem?_eq_some_iff.1 hb).1).trans hb)⟩)
    have HFL : Hid (∀ W, Ext w W → Calls Try.prog 50 #[.pointer (some ⟨dp, 0, none⟩)] W fun e w' => e = .returned (.int .i64 (S.room - (usedD S : Int))) ∧ Ext W w') := Lib.hid (fun W hW => left_any (h.ext hW) hf)
    obtain ⟨L, hL⟩ : ∃ L, L = S.room - (usedD S : Int) := ⟨_, rfl⟩
    rw [← hL] at HFL
    have HL := Lib.hid hL
    obtain ⟨k, hk⟩ : ∃ k : Nat, k = (max (min (min z (m : Int)) L) 0).toNat := ⟨_, rfl⟩
    have hkm : k ≤ m := by omega
    have hmax : max (min (min z (m : Int)) L) 0 = (k : Int) := by omega
    have hbound : f0.data.length + k ≤ 140737488355328 := by omega
    have Hbd := Lib.hid hbound
    have HRD := Lib.hid (hrd.upto hkm)
    have Hml := Lib.hid hml
    have Hkl : Hid ((ys.take k).length = k) := Lib.hid (by rw [List.length_take]; omega)
    have Hk := Lib.hid hk
    have hsl := run_upto .i64 A2 m c2 k (by omega)
    rw [← hmax] at hsl
    have hmin3 : ∀ (ts : Array TypeId) (t : TypeId) (W : World), (Builtin.min_ ts t #[.int .i64 z, .int .i64 (m : Int), .int .i64 L]).run Try.prog W = .ok (.int .i64 (min (min z (m : Int)) L)) W := fun ts t W => min3_run z (m : Int) L ts t W
    obtain ⟨M, hM⟩ : ∃ M, M = min (min z (m : Int)) L := ⟨_, rfl⟩
    rw [← hM] at hmin3 hsl
    have hU : U8 (ys.take k) := fun y hy => hu y (List.mem_of_mem_take hy)
    clear h hq hn hb d0 d2 d3 d4 d5 d6 hl hrd hml hf hlen0 hlen9 hge hroom hL hbound hf0 hk hkm hmax hmc hM
    go_enter Try.func51, Try.ntmps51
    go_wp2_with fail
    go_region
    all_goals
      obtain ⟨V, hV⟩ : ∃ V, V = w.drew := ⟨_, rfl⟩
      have HV : Hid (Ext w V) := Lib.hid (by rw [hV]; exact (Ext.refl w).drew)
      obtain ⟨k1, k2⟩ := HBX.out V HV.out
      rw [← hV]
      clear hV c1 c2' c3' d1 lk
      go_wp2_with fail
      go_region_held3 (fun W => W.cell? ⟨q, 0, none⟩ = some (.pointer (some ⟨dp, 0, none⟩)) ∧ W.cell? ⟨qb, 0, none⟩ = some (.slice A2 m c2))
        (first | exact ⟨k1, k2⟩ | exact HBX.out _ he3.out | fail)
        (first
          | (go_at_call 50; refine (HFL.out _ ?_).mono ?_; (first | exact HV.out | exact HV.out.drew | exact Ext.trans HV.out (Ext.of_drewN _ _) | fail); rintro e w3 ⟨rfl, he3'⟩; have he3 : Hid (Ext w w3) := Lib.hid (HV.out.trans ⟨he3'.os, he3'.tape, he3'.output, he3'.size, he3'.block⟩); clear he3')
          | fail)
      obtain ⟨j1, j2⟩ := HBX.out w3 he3.out
      clear k1 k2
      have HDr := Lib.hid (Hd.out.ext he3.out).drew
      have HRd := Lib.hid (HRD.out.ext he3.out.drew)
      obtain ⟨b1, b2, b3⟩ := HDr.out.fil p f0 Hf0.out
      have e0 : w3.cell? ⟨p, 0, none⟩ = some (.slice (I.rows p) f0.data.length (I.caps p)) := cell_of_row w3.drew p 0 _ _ (0, 0) b1.blk
      have HOW := Lib.hid b1.own
      have HB1 := Lib.hid b1.blk
      have HE3 : Hid (Ext w w3.drew) := Lib.hid he3.out.drew
      have Hbs : Hid (base ≤ w3.drew.heap.size) := Lib.hid (by have := (HDr.out.bd dp HDr.out.xs.1); omega)
      have Hrows : Hid (∀ a, I.rows p = some a → a.block ≠ p) := Lib.hid (fun a ha e => by
        obtain ⟨cur, hc⟩ := b1.own.ty a ha
        rw [e, b1.blk] at hc
        injection hc with hc
        injection hc with _ hc
        exact absurd hc (by decide))
      have Hpl : Hid (p < w3.drew.heap.size) := Lib.hid (HDr.out.bd p b2).2
      clear b1 b2 b3
      go_wp2_with fail
      go_region_law
        (first
          | (refine step_pushesAt (by rfl) _ _ (by rfl) HOW.out _ (by rfl) (by rfl) (by rfl) HRd.out Hbd.out Hbs.out ?_; intro A' c' w4 ho4 hg4 ha4; have hb4 := (hg4.block p Hpl.out (fun e => by cases hr : I.rows p with | none => rw [hr] at e; cases e | some a => rw [hr] at e; exact Hrows.out a hr (Option.some.inj e).symm)).trans HB1.out; have e4 : w4.cell? ⟨p, 0, none⟩ = some (.slice (I.rows p) f0.data.length (I.caps p)) := cell_of_row w4 p 0 _ _ (0, 0) hb4; have fr4 : w4.frozen? ⟨p, 0, none⟩ = false := by simp [World.frozen?, hb4])
          | fail)
      all_goals
        go_wp2
        go_end0
        obtain ⟨I', hD, hN⟩ := HDr.out.appended (k := f0.data.length + k) Hf0.out hU (by rw [Hkl.out]) ho4 hg4 ha4
        exact ⟨rfl, _, _, I', hD, by simp only [doPart, Hl.out]; rw [Hml.out, ← HL.out, ← Hk.out], (Nx.of_ext HE3.out).trans hN⟩

theorem boxesA (w : World) (dp : Nat) (x : List UInt8) (A : Option Addr) (m c : Nat) : Bx (((w.alloc (.cells #[.pointer (some ⟨dp, 0, none⟩)] 26)).alloc (.cells #[nm x] 9)).alloc (.cells #[.slice A m c] 22)) w.heap.size dp ∧ Bn (((w.alloc (.cells #[.pointer (some ⟨dp, 0, none⟩)] 26)).alloc (.cells #[nm x] 9)).alloc (.cells #[.slice A m c] 22)) (w.heap.size + 1) x ∧ Bs (((w.alloc (.cells #[.pointer (some ⟨dp, 0, none⟩)] 26)).alloc (.cells #[nm x] 9)).alloc (.cells #[.slice A m c] 22)) (w.heap.size + 2) A m c := by
  obtain ⟨h1, h2⟩ := boxes2 w dp x
  refine ⟨(heap_alloc_old _ _ (by simp; omega)).trans h1, (heap_alloc_old _ _ (by simp)).trans h2, ?_⟩
  have q := heap_alloc_new ((w.alloc (.cells #[.pointer (some ⟨dp, 0, none⟩)] 26)).alloc (.cells #[nm x] 9)) (.cells #[.slice A m c] 22)
  simpa [Bs] using q

theorem append_any {A : Option Addr} {m c : Nat} {ys : List Nat} (h : DK w X base dp S I) (hs : 0 ≤ S.steps ∧ S.steps < 1000000000000000) (x : List UInt8) (hx : x.length ≤ 140737488355328) (hmc : m ≤ c) (hrd : Rd .u8 w A m ys) (hu : U8 ys) (hnX : 0 < m → ∀ a, A = some a → ¬ X a.block) (hf : Fit S 140737488355328) : Calls Try.prog 11 #[.pointer (some ⟨dp, 0, none⟩), nm x, .slice A m c] w fun e w' => ∃ r, e = .returned (.int .i64 r) ∧ Stepped w X base dp S (fun _ => doAppend x ys) (doPart x ys) r w' := by
  obtain ⟨B1, B2, B3⟩ := boxesA w dp x A m c
  have nX : ∀ q, w.heap.size ≤ q → ¬ X q := fun q hq hX => by have := (h.bd q hX).2; omega
  have E : Ext w (((w.alloc (.cells #[.pointer (some ⟨dp, 0, none⟩)] 26)).alloc (.cells #[nm x] 9)).alloc (.cells #[.slice A m c] 22)) := (((Ext.refl w).alloc _).alloc _).alloc _
  have HW := Lib.hid (h.ext E)
  have HE := Lib.hid E
  have hz : (((w.alloc (.cells #[.pointer (some ⟨dp, 0, none⟩)] 26)).alloc (.cells #[nm x] 9)).alloc (.cells #[.slice A m c] 22)).heap.size = w.heap.size + 3 := by simp
  have hdp := (h.bd dp h.xs.1).2
  have hrd1 := hrd.ext E
  have hrd2 : ∀ w1, FrX (fun q => q = dp) (((w.alloc (.cells #[.pointer (some ⟨dp, 0, none⟩)] 26)).alloc (.cells #[nm x] 9)).alloc (.cells #[.slice A m c] 22)) w1 → Rd .u8 w1 A m ys := by
    intro w1 f1
    refine ⟨hrd1.1, fun hm => ?_⟩
    obtain ⟨b, o, hA, hb, hc⟩ := hrd1.2 hm
    refine ⟨b, o, hA, Nat.lt_of_lt_of_le hb f1.size, fun j hj => ?_⟩
    rw [← hc j hj]
    exact World.cell?_of_block (a := ⟨b, o + j, none⟩) (f1.block b hb (fun e => hnX hm _ hA (by rw [show b = dp from e]; exact h.xs.1)))
  have C := Lib.hid (partly_any (R1 := PostF X (fun _ => doAppend x ys) { S with steps := S.steps + 1 }) (R2 := PostG X (doPart x ys) { S with steps := S.steps + 1 }) (c1 := #[.pointer (some ⟨w.heap.size, 0, none⟩), .pointer (some ⟨w.heap.size + 1, 0, none⟩), .pointer (some ⟨w.heap.size + 2, 0, none⟩)]) (c2 := #[.pointer (some ⟨w.heap.size, 0, none⟩), .pointer (some ⟨w.heap.size + 1, 0, none⟩), .pointer (some ⟨w.heap.size + 2, 0, none⟩)]) (h.ext E) hs append1_call append2_call (fun w1 f1 d1 =>
    append1_any d1 x hx ((f1.block w.heap.size (by rw [hz]; omega) (fun e => by omega)).trans B1) ((f1.block (w.heap.size + 1) (by rw [hz]; omega) (fun e => by omega)).trans B2) ((f1.block (w.heap.size + 2) (by rw [hz]; omega) (fun e => by omega)).trans B3) (hrd2 w1 f1) hu ⟨hf.room, hf.len⟩) (fun w1 n f1 d1 =>
    append2_any d1 x n hx ((f1.block w.heap.size (by rw [hz]; omega) (fun e => by omega)).trans B1) ((f1.block (w.heap.size + 1) (by rw [hz]; omega) (fun e => by omega)).trans B2) ((f1.block (w.heap.size + 2) (by rw [hz]; omega) (fun e => by omega)).trans B3) hmc (hrd2 w1 f1) hu ⟨hf.room, hf.len⟩))
  clear h hs B1 B2 B3 nX E hz hdp hrd hrd1 hrd2 hnX hf
  go_enter Try.func11, Try.ntmps11
  go_wp2_with fail
  refine C.out.mono ?_
  rintro e w' ⟨r, rfl, h1⟩
  have H1 := Lib.hid h1
  clear h1
  go_wp2
  go_ret
  exact ⟨r, rfl, Stepped.of HW.out HE.out H1.out⟩
end

end Go.Proofs.Ytjckfbpdnpehcaa
