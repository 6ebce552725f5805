import Derived.Test.YtkmnhapeohlooaaG17
import Derived.Test.YtkmnhapeohlooaaG14
import Derived.Test.YtkmnhapeohlooaaG15
import Derived.Test.YtkmnhapeohlooaaG16
import Derived.Test.YtkmnhapeohlooaaG3

/-
  Layer 18: a call of the script: Each.
-/
namespace Go.Proofs.Ytkmnhapeohlooaa
open Go.RowKit
set_option maxRecDepth 100000

set_option maxHeartbeats 8000000 in
theorem asks_each {w0 w : World} {sb : Nat} {hs : List Int} {Ak : Option Addr} {n : Nat} {Av : Option Addr} {ss : List Sl} {V : List Int} {X : Nat → Prop} {base : Nat} (h : AS w0 w sb hs Ak n Av ss V X base) (hn : n ≤ 1048576) (ck cv : Nat) (kA : Option Addr) (kn kc : Nat) (key : List Nat) (tk : Rd .u8 w kA kn key) (uk : U8 key) (lk : kn ≤ 1048576) (hA : Option Addr) (hn2 hc : Nat) (hi : List Nat) (th : Rd .u8 w hA hn2 hi) (uh : U8 hi) (_lh : hn2 ≤ 1048576) (v : Int) :
    Calls Try.prog 33 #[.pointer (some ⟨sb, 0, none⟩), .agg #[.slice Ak n ck, .slice Av n cv], .agg #[.int .i64 5, .slice kA kn kc, .slice hA hn2 hc, .int .i64 v]] w (AskPost w0 w sb hs n X Ak Av ss) := by
  have hEa : Ext w ((((w.alloc (.cells #[.slice Ak n ck, .slice Av n cv] 51)).alloc (.cells #[.int .i64 5, .slice kA kn kc, .slice hA hn2 hc, .int .i64 v] 54)).alloc (.cells #[.slice none 0 0, .slice none 0 0] 51)).alloc (.cells #[.bool false] 4)) := ((((Ext.refl w).alloc _).alloc _).alloc _).alloc _
  have CP := Lib.hid (rplace_any Ak n ck Av n cv ss kA kn kc key _ (h.rk.ext hEa) (fun s hs => ⟨((h.tx s hs).1).ext hEa, by have := (h.tx s hs).2.2; omega⟩) (by omega) (tk.ext hEa) (by omega))
  have HH := Lib.hid h
  have HEa := Lib.hid hEa
  have Tk := Lib.hid tk
  have Uk := Lib.hid uk
  have Th := Lib.hid th
  have Uh := Lib.hid uh
  have HnL := Lib.hid h.len
  have HLb : Hid ((bodies ss).length < 1099511627776) := Lib.hid (by rw [h.len]; omega)
  obtain ⟨s, hs0⟩ : ∃ s, s = skN key (bodies ss) := ⟨_, rfl⟩
  obtain ⟨D, hD⟩ : ∃ D, D = decide ((bodies ss)[skN key (bodies ss)]? = some key) := ⟨_, rfl⟩
  have hsn : s ≤ n := by have := skN_le key (bodies ss); rw [h.len] at this; omega
  rw [← hD, ← hs0] at CP
  have Hs0 := Lib.hid hs0
  have HD := Lib.hid hD
  clear h hEa tk uk th uh hs0 hD
  refine (callsIn_wide (n := 6)).1 ?_
  refine callsIn_of_wp_marks Try.func33 rfl trivial ?_ rfl
  simp only [Try.ntmps33, List.size_toArray, List.length_cons, List.length_nil, Nat.reduceAdd, Nat.reduceSub, Array.replicate_succ, Array.replicate_zero, List.push_toArray, List.append_toArray, List.nil_append, List.cons_append]
  refine wpIn_wide.2 ?_
  go_wp2_with fail
  refine CP.out.mono ?_
  rintro e w1 ⟨rfl, he1⟩
  have HQ0 : Hid (((((w.alloc (.cells #[.slice Ak n ck, .slice Av n cv] 51)).alloc (.cells #[.int .i64 5, .slice kA kn kc, .slice hA hn2 hc, .int .i64 v] 54)).alloc (.cells #[.slice none 0 0, .slice none 0 0] 51)).alloc (.cells #[.bool false] 4)).heap.size = w.heap.size + 4) := Lib.hid (by simp [World.size_alloc])
  obtain ⟨W1, hW1⟩ : ∃ W1, W1 = w1.alloc (.cells #[.int .i64 (s : Int)] 3) := ⟨_, rfl⟩
  have hq4 := (he1.block w.heap.size (by rw [HQ0.out]; omega)).trans ((Below.heap_alloc _ _ _ (by simp <;> omega)).trans ((Below.heap_alloc _ _ _ (by simp <;> omega)).trans ((Below.heap_alloc _ _ _ (by simp)).trans (heap_alloc_new w (.cells #[.slice Ak n ck, .slice Av n cv] 51)))))
  have hq5 := (he1.block (w.heap.size + 1) (by rw [HQ0.out]; omega)).trans ((Below.heap_alloc _ _ _ (by simp <;> omega)).trans ((Below.heap_alloc _ _ _ (by simp <;> omega)).trans (show _ = some (Obj.cells #[.int .i64 5, .slice kA kn kc, .slice hA hn2 hc, .int .i64 v] 54 (0, 0)) from by
    have := heap_alloc_new (w.alloc (.cells #[.slice Ak n ck, .slice Av n cv] 51)) (.cells #[.int .i64 5, .slice kA kn kc, .slice hA hn2 hc, .int .i64 v] 54)
    rwa [World.size_alloc] at this)))
  have hq6 := (he1.block (w.heap.size + 1 + 1) (by rw [HQ0.out]; omega)).trans ((Below.heap_alloc _ _ _ (by simp <;> omega)).trans (show _ = some (Obj.cells #[.slice none 0 0, .slice none 0 0] 51 (0, 0)) from by
    have := heap_alloc_new ((w.alloc (.cells #[.slice Ak n ck, .slice Av n cv] 51)).alloc (.cells #[.int .i64 5, .slice kA kn kc, .slice hA hn2 hc, .int .i64 v] 54)) (.cells #[.slice none 0 0, .slice none 0 0] 51)
    rwa [World.size_alloc, World.size_alloc] at this))
  have hq7 := (he1.block (w.heap.size + 1 + 1 + 1) (by rw [HQ0.out]; omega)).trans (show _ = some (Obj.cells #[.bool false] 4 (0, 0)) from by
    have := heap_alloc_new (((w.alloc (.cells #[.slice Ak n ck, .slice Av n cv] 51)).alloc (.cells #[.int .i64 5, .slice kA kn kc, .slice hA hn2 hc, .int .i64 v] 54)).alloc (.cells #[.slice none 0 0, .slice none 0 0] 51)) (.cells #[.bool false] 4)
    rwa [World.size_alloc, World.size_alloc, World.size_alloc] at this)
  have hz1 := he1.size
  rw [HQ0.out] at hz1
  obtain ⟨B4, hB4⟩ : ∃ B4, B4 = w.heap.size := ⟨_, rfl⟩
  obtain ⟨B8, hB8⟩ : ∃ B8, B8 = w1.heap.size := ⟨_, rfl⟩
  have he8 : Ext w1 W1 := by rw [hW1]; exact (Ext.refl w1).alloc _
  have hq8 : W1.heap[B8]? = some (.cells #[.int .i64 (s : Int)] 3 (0, 0)) := by rw [hW1, hB8]; exact heap_alloc_new w1 _
  rw [← hB4] at hq4 hq5 hq6 hq7
  have HB4 := Lib.hid hB4
  have HB8 := Lib.hid hB8
  have HE1 := Lib.hid ((HEa.out.trans he1).trans he8)
  have HQ : Hid (∀ W, Ext W1 W → W.heap[B4]? = some (.cells #[.slice Ak n ck, .slice Av n cv] 51 (0, 0)) ∧ W.heap[B4 + 1]? = some (.cells #[.int .i64 5, .slice kA kn kc, .slice hA hn2 hc, .int .i64 v] 54 (0, 0)) ∧ W.heap[B4 + 1 + 1]? = some (.cells #[.slice none 0 0, .slice none 0 0] 51 (0, 0)) ∧ W.heap[B4 + 1 + 1 + 1]? = some (.cells #[.bool false] 4 (0, 0)) ∧ W.heap[B8]? = some (.cells #[.int .i64 (s : Int)] 3 (0, 0))) := Lib.hid fun W hW => by
    have hx := he8.trans hW
    exact ⟨(hx.block _ (by rw [hB4]; omega)).trans hq4, (hx.block _ (by rw [hB4]; omega)).trans hq5, (hx.block _ (by rw [hB4]; omega)).trans hq6, (hx.block _ (by rw [hB4]; omega)).trans hq7, (hW.block _ (Array.getElem?_eq_some_iff.1 hq8).1).trans hq8⟩
  have HZ := Lib.hid (show w.heap.size + 4 ≤ B8 ∧ B8 < W1.heap.size from ⟨by rw [hB8]; exact hz1, (Array.getElem?_eq_some_iff.1 hq8).1⟩)
  have HL1 := Lib.hid (HH.out.to HE1.out)
  have Q4 := Lib.hid (HQ.out W1 (Ext.refl _)).1
  have Q6 := Lib.hid (HQ.out W1 (Ext.refl _)).2.2.1
  obtain ⟨q4, q5, q6, q7, q8⟩ := HQ.out W1 (Ext.refl _)
  have c40 := cell_of_row W1 B4 0 _ _ (0, 0) q4
  have c41 : W1.cell? ⟨B4, 1, none⟩ = some (.slice Av n cv) := cell_of_row W1 B4 1 _ _ (0, 0) q4
  have c50 : W1.cell? ⟨B4 + 1, 0, none⟩ = some (.int .i64 5) := cell_of_row W1 (B4 + 1) 0 _ _ (0, 0) q5
  have c51 : W1.cell? ⟨B4 + 1, 1, none⟩ = some (.slice kA kn kc) := cell_of_row W1 (B4 + 1) 1 _ _ (0, 0) q5
  have c52 : W1.cell? ⟨B4 + 1, 2, none⟩ = some (.slice hA hn2 hc) := cell_of_row W1 (B4 + 1) 2 _ _ (0, 0) q5
  have c53 : W1.cell? ⟨B4 + 1, 3, none⟩ = some (.int .i64 v) := cell_of_row W1 (B4 + 1) 3 _ _ (0, 0) q5
  have c7 : W1.cell? ⟨B4 + 1 + 1 + 1, 0, none⟩ = some (.bool false) := cell_of_row W1 (B4 + 1 + 1 + 1) 0 _ _ (0, 0) q7
  have f7 : W1.frozen? ⟨B4 + 1 + 1 + 1, 0, none⟩ = false := by simp [World.frozen?, q7]
  have c80 : W1.cell? ⟨B8, 0, none⟩ = some (.int .i64 (s : Int)) := cell_of_row W1 B8 0 _ _ (0, 0) q8
  have c7r : ∀ cs, (W1.setRow (B4 + 1 + 1) cs).cell? ⟨B4 + 1 + 1 + 1, 0, none⟩ = some (.bool false) := fun cs => (row_far (by omega) q7 cs).1
  have f7r : ∀ cs, (W1.setRow (B4 + 1 + 1) cs).frozen? ⟨B4 + 1 + 1 + 1, 0, none⟩ = false := fun cs => (row_far (by omega) q7 cs).2
  clear he8 hq4 hq5 hq6 hq7 hq8 hz1 CP HQ0 HEa q4 q5 q6 q7 q8

  simp only [hB8, hB4, hW1] at c40 c41 c50 c51 c52 c53 c7 f7 c80 c7r f7r

  have CE := Lib.hid (seach_any sb kA kn kc key _ ((Tk.out.ext HE1.out).ext ((Ext.refl W1).alloc (.cells #[.int .i64 0] 3))) (by omega))
  have d51 := (Below.cell ((Ext.refl (w1.alloc (.cells #[.int .i64 (s : Int)] 3))).alloc (.cells #[.int .i64 0] 3)) (p := ⟨w.heap.size + 1, 1, none⟩) (World.block_lt_of_cell? _ _ c51)).trans c51
  have HzW := Lib.hid (show W1.heap.size = B8 + 1 from by rw [hW1, hB8, World.size_alloc])
  simp only [hW1] at CE
  go_wp2_with fail
  simp only [← hW1] at CE
  clear d51
  rw [← hW1, ← hB8, ← hB4]
  clear he1 hW1 hB8 hB4
  refine CE.out.mono ?_
  rintro e w5 ⟨Bl, Bw, Ac, cc, rfl, he5, l1, l2, m1, m2, b1, b2, hrd5⟩
  clear c40 c41 c50 c51 c52 c53 c7 f7 c80 Q4 Q6
  clear c7r f7r CE
  go_wp2_with fail
  have hE5 : Ext W1 w5 := ((Ext.refl W1).alloc _).trans he5
  have hq27 := (he5.block W1.heap.size (by simp)).trans (heap_alloc_new W1 (.cells #[.int .i64 0] 3))
  have hz5 := he5.size
  rw [World.size_alloc, HzW.out] at hz5
  rw [World.size_alloc, HzW.out] at l1 l2
  rw [HzW.out] at hq27
  obtain ⟨ns, hS5, hR5⟩ := HL1.out.ls.ext hE5
  have hXb : Hid (∀ q, X q → q < w.heap.size) := Lib.hid fun q hq => (HH.out.ls.bd' q hq).2
  have hYb : Hid (∀ q, (X q ∨ q = Bl) → q < w5.heap.size ∧ q ≠ B8 + 1) := Lib.hid fun q hq => by
    have hb := HB4.out
    have hz := HZ.out
    rcases hq with hq | rfl
    · have := hXb.out q hq
      omega
    · omega
  have HC : Hid (∀ W9, FrX (fun q => q = B8 + 1) w5 W9 → (W9.cell? ⟨B4, 0, none⟩ = some (.slice Ak n ck) ∧ W9.cell? ⟨B4, 1, none⟩ = some (.slice Av n cv) ∧ W9.cell? ⟨B8, 0, none⟩ = some (.int .i64 (s : Int)) ∧ W9.cell? ⟨B4 + 1, 3, none⟩ = some (.int .i64 v)) ∧ (W9.heap[B4 + 1 + 1]? = some (.cells #[.slice none 0 0, .slice none 0 0] 51 (0, 0)) ∧ W9.heap[B4 + 1 + 1 + 1]? = some (.cells #[.bool false] 4 (0, 0))) ∧ RdL W9 Ak n ss ∧ (∀ s ∈ ss, Rd .u8 W9 s.A s.body.length s.body) ∧ RdG shZ W9 Av n V) := Lib.hid fun W9 f => by
    obtain ⟨q4, q5, q6, q7, q8⟩ := HQ.out w5 hE5
    have hb := HB4.out
    have hz := HZ.out
    have e4 := (f.block B4 (Array.getElem?_eq_some_iff.1 q4).1 (by omega)).trans q4
    have e5 := (f.block (B4 + 1) (Array.getElem?_eq_some_iff.1 q5).1 (by omega)).trans q5
    have e6 := (f.block (B4 + 1 + 1) (Array.getElem?_eq_some_iff.1 q6).1 (by omega)).trans q6
    have e7 := (f.block (B4 + 1 + 1 + 1) (Array.getElem?_eq_some_iff.1 q7).1 (by omega)).trans q7
    have e8 := (f.block B8 (Array.getElem?_eq_some_iff.1 q8).1 (by omega)).trans q8
    exact ⟨⟨cell_of_row W9 B4 0 _ _ (0, 0) e4, cell_of_row W9 B4 1 _ _ (0, 0) e4, cell_of_row W9 B8 0 _ _ (0, 0) e8, cell_of_row W9 (B4 + 1) 3 _ _ (0, 0) e5⟩, ⟨e6, e7⟩, (HL1.out.rk.ext hE5).fr f (fun a ha => by have := (HH.out.fk a ha).2; omega), fun s hs => ((HL1.out.tx s hs).1.ext hE5).fr f (fun a ha => by have := (HH.out.ft s hs a ha).2; omega), (HL1.out.rv.ext hE5).fr f (fun a ha => by have := (HH.out.fv a ha).2; omega)⟩
  have hpo0 : PO w5 w5 (B8 + 1) 0 := ⟨FrX.refl _ _, by omega, hq27⟩
  have HS5 := Lib.hid hS5
  have hnl := hR5.len
  have hnl2 := HnL.out
  have HE5 := Lib.hid hE5
  clear he5 hq27 hE5
  refine (wpIn_wide (n := 5)).1 ?_
  refine wpIn_rangeFunc_ownG rfl (by decide) (gf := 83) (lb := #[.pointer (some ⟨Bl, 0, none⟩), .pointer (some ⟨Bw, 0, none⟩)]) rfl trivial (enters_of Try.func83 (by kernel_rfl) rfl)
    (seqK_any Bl Bw X base sb (Hm hs (bodies ss).length) ns hs (bodies ss) V hR5 (by omega) Ac kn cc key Uk.out w5 hS5 m1 m2 b1 b2 hrd5) keepY_t (keepY_b (fun q hq => (hYb.out q hq).1)) (Below.refl _ _) (fun _ => rfl)
    (fun pre W => PO w5 W (B8 + 1) pre.length ∧ (pre.length : Int) ≤ max v 0)
    (fun c pre W => (c = .ret ∧ ∃ q x, pre = q ++ [x] ∧ x.p ≠ skN key (bodies ss) + q.length) ∨ (c = .exit 1 ∧ ∃ q x, pre = q ++ [x] ∧ v ≤ (q.length : Int) ∧ (q.length : Int) ≤ max v 0 ∧ PO w5 W (B8 + 1) q.length))
    (fun s A B row hs hg hr => ⟨hs.1.turn hg hr, hs.2⟩)
    (fun c s A B row hs hg hr => by
      rcases hs with h | ⟨h1, q, x, h2, h3, h4, h5⟩
      · exact .inl h
      · exact .inr ⟨h1, q, x, h2, h3, h4, h5.turn hg hr⟩)
    ⟨hpo0, by simp; omega⟩
    (fun x => { tmps := #[.pointer (some ⟨sb, 0, none⟩), .agg #[.slice Ak n ck, .slice Av n cv], .agg #[.int .i64 5, .slice kA kn kc, .slice hA hn2 hc, .int .i64 v], undef, .pointer (some ⟨B4, 0, none⟩), .pointer (some ⟨B4 + 1, 0, none⟩), .pointer (some ⟨B4 + 1 + 1, 0, none⟩), .pointer (some ⟨B4 + 1 + 1 + 1, 0, none⟩), .pointer (some ⟨B8, 0, none⟩), .bool D, undef, undef, undef, undef, undef, undef, undef, undef, undef, undef, undef, undef, undef, undef, undef, undef, undef, .pointer (some ⟨B8 + 1, 0, none⟩), (nat_ ns x.i).key.v, .int .i64 (vl ns x.i), .tuple #[.int .i64 (s : Int), .bool D], .agg #[.slice Ak n ck, .slice Av n cv], .pointer (some ⟨B4 + 1, 1, none⟩), .slice kA kn kc, .tuple #[.int .i64 (s : Int), .bool D], .int .i64 (s : Int), .bool D, .pointer (some ⟨B4 + 1, 0, none⟩), .int .i64 5, .bool false, .bool false, undef, undef, undef, undef, undef, undef, undef, undef, undef, undef, undef, undef, undef, undef, undef, undef, undef, undef, undef, undef, undef, undef, undef, undef, undef, undef, undef, undef, undef, undef, undef, undef, undef, undef, .bool false, .bool false, undef, undef, undef, undef, undef, undef, undef, undef, undef, undef, undef, undef, undef, undef, undef, undef, undef, undef, undef, undef, undef, undef, undef, undef, undef, undef, undef, undef, undef, undef, undef, .bool false, .bool false, undef, undef, undef, undef, undef, undef, undef, undef, undef, undef, undef, undef, undef, undef, undef, undef, undef, undef, undef, undef, undef, undef, undef, undef, undef, undef, undef, undef, undef, undef, undef, undef, undef, undef, undef, undef, undef, undef, undef, undef, undef, undef, undef, undef, undef, undef, undef, undef, undef, undef, undef, undef, undef, undef, .bool false, .bool false, undef, undef, undef, undef, undef, undef, undef, undef, undef, undef, undef, undef, undef, undef, undef, undef, undef, undef, undef, undef, undef, undef, undef, undef, undef, undef, undef, .bool true, .bool true, .pointer (some ⟨sb, 0, none⟩), .pointer (some ⟨B4 + 1, 1, none⟩), .slice kA kn kc, .func (.func 83) #[] #[.pointer (some ⟨Bl, 0, none⟩), .pointer (some ⟨Bw, 0, none⟩)], (nat_ ns x.i).key.v, .int .i64 (vl ns x.i), undef, undef, undef, undef, undef, undef, undef, undef, undef, undef, undef, undef, undef, undef, undef, undef, undef, undef, undef, undef, undef, undef, undef, undef, undef, undef, undef, undef, undef, undef, undef, undef, undef, undef, undef, undef, undef, undef, undef, undef, undef, undef, undef, undef, undef, undef, undef, undef, undef, undef], defers := [] }) ?assign ?body ?done ?stop
  case assign =>
    intro l x W K hK
    gi_wp2_with (rw [Oper.semAt_eq _ _ _ (fun c h => by cases h)]; go_simp; try go_bits)
    exact hK
  case body =>
    rintro l pre x W ⟨hPO, hpl⟩ hpN
    obtain ⟨⟨c40, c41, c80, c53⟩, ⟨k6, k7⟩, rk, rt, rv⟩ := HC.out W hPO.fr
    have c27 := hPO.cn
    have f27 := hPO.fz
    have hSW := HS5.out.kept (fun q hq => by have h1 := hYb.out q (.inl hq); exact hPO.fr.block q h1.1 h1.2) hPO.fr.size
    have hka := hSW.keys x.i (by have := x.i0; omega) x.lt
    have hKeep : Hid (KeepY (fun q => X q ∨ q = Bl) w5 W) := Lib.hid ⟨fun q hq => by have h1 := hYb.out q hq; exact hPO.fr.block q h1.1 h1.2, hPO.fr.size⟩
    have HPO := Lib.hid hPO
    have hxl := (List.getElem?_eq_some_iff.1 x.hL).1
    rw [HnL.out] at hxl
    have hXL := Lib.hid x.hL
    have hXV := Lib.hid x.hV
    have Hpl := Lib.hid hpl
    obtain ⟨pn, hpn⟩ : ∃ pn, pn = pre.length := ⟨_, rfl⟩
    obtain ⟨K, hK⟩ : ∃ K, K = s + pn := ⟨_, rfl⟩
    have hRk := Lib.hid hka.rd
    have hkl := hka.len
    have Hkb : Hid ((nat_ ns x.i).key.body = kb ns x.i) := Lib.hid rfl
    rw [← hpn] at c27
    have hsum : (s : Int) + (pn : Int) = (K : Int) := by omega
    obtain ⟨key2, hkey⟩ : ∃ key2, key2 = (nat_ ns x.i).key.body := ⟨_, rfl⟩
    obtain ⟨xv, hxv⟩ : ∃ xv, xv = vl ns x.i := ⟨_, rfl⟩
    unfold Sl.v
    rw [← hkey] at hRk hkl Hkb ⊢
    rw [← hxv] at ⊢
    obtain ⟨kA2, hkA⟩ : ∃ kA2, kA2 = (nat_ ns x.i).key.A := ⟨_, rfl⟩
    obtain ⟨kn2, hkn⟩ : ∃ kn2, kn2 = key2.length := ⟨_, rfl⟩
    obtain ⟨kc2, hkc⟩ : ∃ kc2, kc2 = (nat_ ns x.i).key.c := ⟨_, rfl⟩
    rw [← hkA, ← hkn, ← hkc]
    rw [← hkA, ← hkn] at hRk
    rw [← hkn] at hkl
    have Hpn := Lib.hid hpn
    have HK := Lib.hid hK
    have Hxv := Lib.hid hxv
    have hpnb : pn ≤ 1048576 := by rw [hpn]; rw [HnL.out] at hpN; omega
    have hKb : K ≤ 2097152 := by omega
    obtain ⟨⟨g60, h60⟩, g61, g7⟩ := two_cells k6 k7 (by omega)
    have g61a := fun v => (g61 v).1
    have g61b := fun v => (g61 v).2
    have g7a := fun v u => (g7 v u).1
    have g7b := fun v u => (g7 v u).2
    clear hSW hka hPO hpl hpn hK hkey hxv hkA hkn hkc hpo0 hS5 hR5 k6 k7 g61 g7 b1 b2 m1 m2 hrd5 l1 l2 hnl hnl2
    dsimp only
    by_cases hpe : v ≤ (pn : Int)
    · gi_wp2_with (rw [Oper.semAt_eq _ _ _ (fun c h => by cases h)]; go_simp; try go_bits)
      exact ⟨(KeepsOthers.refl _).from _, .inr ⟨rfl, pre, x, rfl, (by rw [← Hpn.out]; exact hpe), Hpl.out, HPO.out⟩⟩
    · by_cases hge : n ≤ K
      · have hgI : (n : Int) ≤ (K : Int) := by omega
        gi_wp2_with (first | (rw [Oper.semAt_eq _ _ _ (fun c h => by cases h)]; go_simp; try go_bits) | (refine ⟨trivial, ?_⟩))
        refine ⟨((KeepsOthers.setCell _ _ _).trans ((KeepsOthers.setCell _ _ _).trans (KeepsOthers.setCell _ _ _))).from _, .inl ⟨rfl, pre, x, rfl, fun e => ?_⟩⟩
        have h2 := Hs0.out
        have h3 := HK.out
        have h4 := Hpn.out
        omega
      · have hlt2 : K < n := by omega
        have hgI : ¬ (n : Int) ≤ (K : Int) := by omega
        obtain ⟨b, o, t, rfl, hf, hc⟩ := rk.at_ hlt2
        obtain ⟨b8, o8, rfl, _, hcv⟩ := rv.atZ (j := K) hlt2
        have htm := List.mem_of_getElem? hf
        have CS := Lib.hid (same_any kA2 t.A kn2 kc2 t.body.length t.c key2 t.body W hRk.out (rt t htm) (by omega) (by have := (HH.out.tx t htm).2.2; omega))
        have HLk := Lib.hid (bodies_at hf)
        have HVk : Hid (V[K]? = some (V.getD K 0)) := Lib.hid (by
          have h1 : K < V.length := by rw [(HH.out.ls.vlen).1, HnL.out]; exact hlt2
          rw [List.getD, List.getElem?_eq_getElem h1]; rfl)
        obtain ⟨vv, hvv⟩ : ∃ vv, vv = V.getD K 0 := ⟨_, rfl⟩
        rw [← hvv] at hcv HVk
        have Hvv := Lib.hid hvv
        obtain ⟨sb2, hsb2⟩ : ∃ sb2, sb2 = t.body := ⟨_, rfl⟩
        rw [← hsb2] at hc CS HLk
        obtain ⟨sn2, hsn2⟩ : ∃ sn2, sn2 = sb2.length := ⟨_, rfl⟩
        rw [← hsn2] at hc CS
        clear hvv hsb2 hsn2 hf rk rt rv hge htm
        by_cases hm : key2 = sb2
        · rw [decide_eq_true hm] at CS
          have Hm := Lib.hid hm
          clear hm
          by_cases hv : xv = vv
          · subst hv
            gi_wp2_with (first | (refine ⟨trivial, ?_⟩; gi_at_call 43; refine (CallsIn.inRound l (callsIn_wide.2 CS.out)).mono ?_; rintro e W2 ⟨rfl, q2, hW2⟩; have hE2 : Ext W W2 := (by rw [hW2]; exact (Ext.refl W).drewN q2); clear hW2; have hPO2 := HPO.out.ext hE2; obtain ⟨⟨d40, d41, d80, d53⟩, ⟨k6, k7⟩, _, _, rv2⟩ := HC.out W2 hPO2.fr; obtain ⟨⟨g60, h60⟩, g61, g7⟩ := two_cells k6 k7 (by omega); have g61a := (fun v => (g61 v).1); have g61b := (fun v => (g61 v).2); have g7a := (fun v u => (g7 v u).1); have g7b := (fun v u => (g7 v u).2); have d27 := hPO2.cn; rw [← Hpn.out] at d27; have df27 := hPO2.fz; obtain ⟨b9, o9, eb9, _, dv⟩ := rv2.atZ (j := K) hlt2; injection eb9 with eb9; injection eb9 with eb9 eo9; rw [← eb9, ← eo9, ← Hvv.out] at dv; have HPO2 := Lib.hid hPO2; have HE2 := Lib.hid hE2; clear hPO2 hE2 k6 k7 g61 g7 rv2 eb9 eo9) | (rw [Oper.semAt_eq _ _ _ (fun c h => by cases h)]; go_simp; try go_bits) | (refine ⟨trivial, ?_⟩))
            have hF := HPO2.out.one (pn + 1)
            refine ⟨((keeps_ext HE2.out).trans (KeepsOthers.setCell _ _ _)).from _, ⟨fun q hq => ?_, Nat.le_trans HE2.out.size (KeepsOthers.setCell _ _ _).size⟩, ?_, ?_⟩
            · have h1 := hYb.out q hq
              exact (hF.fr.block q h1.1 h1.2).trans (hKeep.out.1 q hq).symm
            · rw [List.length_append, List.length_singleton, ← Hpn.out]
              exact hF
            · rw [List.length_append, List.length_singleton, ← Hpn.out]
              omega
          · have hvb : (xv != vv) = true := by simp [hv]
            gi_wp2_with (first | (refine ⟨trivial, ?_⟩; gi_at_call 43; refine (CallsIn.inRound l (callsIn_wide.2 CS.out)).mono ?_; rintro e W2 ⟨rfl, q2, hW2⟩; have hE2 : Ext W W2 := (by rw [hW2]; exact (Ext.refl W).drewN q2); clear hW2; have hPO2 := HPO.out.ext hE2; obtain ⟨⟨d40, d41, d80, d53⟩, ⟨k6, k7⟩, _, _, rv2⟩ := HC.out W2 hPO2.fr; obtain ⟨⟨g60, h60⟩, g61, g7⟩ := two_cells k6 k7 (by omega); have g61a := (fun v => (g61 v).1); have g61b := (fun v => (g61 v).2); have g7a := (fun v u => (g7 v u).1); have g7b := (fun v u => (g7 v u).2); have d27 := hPO2.cn; rw [← Hpn.out] at d27; have df27 := hPO2.fz; obtain ⟨b9, o9, eb9, _, dv⟩ := rv2.atZ (j := K) hlt2; injection eb9 with eb9; injection eb9 with eb9 eo9; rw [← eb9, ← eo9, ← Hvv.out] at dv; have HPO2 := Lib.hid hPO2; have HE2 := Lib.hid hE2; clear hPO2 hE2 k6 k7 g61 g7 rv2 eb9 eo9) | (rw [Oper.semAt_eq _ _ _ (fun c h => by cases h)]; go_simp; try go_bits) | (refine ⟨trivial, ?_⟩))
            refine ⟨((keeps_ext HE2.out).trans ((KeepsOthers.setCell _ _ _).trans ((KeepsOthers.setCell _ _ _).trans (KeepsOthers.setCell _ _ _)))).from _, .inl ⟨rfl, pre, x, rfl, fun e => ?_⟩⟩
            have h1 := hXV.out
            rw [e, ← Hs0.out, ← Hpn.out, ← HK.out, HVk.out, ← Hxv.out] at h1
            injection h1 with h1
            exact hv h1.symm
        · rw [decide_eq_false hm] at CS
          have Hm := Lib.hid hm
          clear hm
          gi_wp2_with (first | (refine ⟨trivial, ?_⟩; gi_at_call 43; refine (CallsIn.inRound l (callsIn_wide.2 CS.out)).mono ?_; rintro e W2 ⟨rfl, q2, hW2⟩; have hE2 : Ext W W2 := (by rw [hW2]; exact (Ext.refl W).drewN q2); clear hW2; have hPO2 := HPO.out.ext hE2; obtain ⟨⟨d40, d41, d80, d53⟩, ⟨k6, k7⟩, _, _, rv2⟩ := HC.out W2 hPO2.fr; obtain ⟨⟨g60, h60⟩, g61, g7⟩ := two_cells k6 k7 (by omega); have g61a := (fun v => (g61 v).1); have g61b := (fun v => (g61 v).2); have g7a := (fun v u => (g7 v u).1); have g7b := (fun v u => (g7 v u).2); have d27 := hPO2.cn; rw [← Hpn.out] at d27; have df27 := hPO2.fz; obtain ⟨b9, o9, eb9, _, dv⟩ := rv2.atZ (j := K) hlt2; injection eb9 with eb9; injection eb9 with eb9 eo9; rw [← eb9, ← eo9, ← Hvv.out] at dv; have HPO2 := Lib.hid hPO2; have HE2 := Lib.hid hE2; clear hPO2 hE2 k6 k7 g61 g7 rv2 eb9 eo9) | (rw [Oper.semAt_eq _ _ _ (fun c h => by cases h)]; go_simp; try go_bits) | (refine ⟨trivial, ?_⟩))
          refine ⟨((keeps_ext HE2.out).trans ((KeepsOthers.setCell _ _ _).trans ((KeepsOthers.setCell _ _ _).trans (KeepsOthers.setCell _ _ _)))).from _, .inl ⟨rfl, pre, x, rfl, fun e => ?_⟩⟩
          have h1 := hXL.out
          rw [e, ← Hs0.out, ← Hpn.out, ← HK.out, HLk.out] at h1
          injection h1 with h1
          exact Hm.out (by rw [Hkb.out, h1])
  case done =>
    rintro D ys W hD hsp ⟨hPO, hpl⟩ hKd
    have hsk := hsp.2
    rw [HnL.out, ← Hs0.out] at hsk
    obtain ⟨k, hk0⟩ : ∃ k, k = ys.length := ⟨_, rfl⟩
    rw [← hk0] at hPO hpl hsk
    have hk : (k : Int) = min (max v 0) ((n : Int) - (s : Int)) := by omega
    clear hsk hk0 hsp hpl
    have hEW : Ext W1 W := hPO.fr.toExt HE5.out (fun q hq => by rw [hq, HzW.out]; exact Nat.le_refl _)
    have HPO := Lib.hid hPO
    have HK6 := Lib.hid (HQ.out W hEW).2.2.1
    have HK7 := Lib.hid (HQ.out W hEW).2.2.2.1
    have c7r : ∀ cs, (W.drew.setRow (B4 + 1 + 1) cs).cell? ⟨B4 + 1 + 1 + 1, 0, none⟩ = some (.bool false) := fun cs => (row_far (W := W.drew) (by omega) HK7.out cs).1
    have f7r : ∀ cs, (W.drew.setRow (B4 + 1 + 1) cs).frozen? ⟨B4 + 1 + 1 + 1, 0, none⟩ = false := fun cs => (row_far (W := W.drew) (by omega) HK7.out cs).2
    have HF : Hid (∀ W9, FrX (fun q => q = B4 + 1 + 1 ∨ q = B4 + 1 + 1 + 1) W W9 → W9.cell? ⟨B4, 0, none⟩ = some (.slice Ak n ck) ∧ W9.cell? ⟨B4, 1, none⟩ = some (.slice Av n cv) ∧ W9.cell? ⟨B8, 0, none⟩ = some (.int .i64 (s : Int)) ∧ (W9.cell? ⟨B8 + 1, 0, none⟩ = some (.int .i64 (k : Int)) ∧ W9.cell? ⟨B4 + 1, 3, none⟩ = some (.int .i64 v))) := Lib.hid fun W9 f => by
      obtain ⟨q4, q5, q6, q7, q8⟩ := HQ.out W hEW
      have hb := HB4.out
      have hz := HZ.out
      have h27 := HPO.out.hn
      have e4 := (f.block B4 (Array.getElem?_eq_some_iff.1 q4).1 (by omega)).trans q4
      have e5 := (f.block (B4 + 1) (Array.getElem?_eq_some_iff.1 q5).1 (by omega)).trans q5
      have e8 := (f.block B8 (Array.getElem?_eq_some_iff.1 q8).1 (by omega)).trans q8
      have e27 := (f.block (B8 + 1) (Array.getElem?_eq_some_iff.1 h27).1 (by omega)).trans h27
      exact ⟨cell_of_row W9 B4 0 _ _ (0, 0) e4, cell_of_row W9 B4 1 _ _ (0, 0) e4, cell_of_row W9 B8 0 _ _ (0, 0) e8, cell_of_row W9 (B8 + 1) 0 _ _ (0, 0) e27, cell_of_row W9 (B4 + 1) 3 _ _ (0, 0) e5⟩
    have hmm : ((k : Int) == min (max v 0) ((n : Int) - (s : Int))) = true := by rw [hk]; simp
    have HEW := Lib.hid hEW
    have Hk := Lib.hid hk
    clear hPO hEW hk hS5 hR5 hpo0 b1 b2 m1 m2 hrd5 l1 l2
    go_wp2_with fail
    refine wp_region_noPanic ?_
    refine wp_region_held_drew (S := fun W9 => FrX (fun q => q = B4 + 1 + 1 ∨ q = B4 + 1 + 1 + 1) W W9) (by kernel_rfl) ?_ (fun hHeld => ?_)
    · exact ((Ext.refl W).drew).frX _
    refine wpAnyH_take (i := 0) (v := ?_) rfl (by kernel_rfl) (by kernel_rfl) (by kernel_rfl) (fun _ _ _ h => h) (Or.inl ⟨by rfl, ?_⟩) hHeld ?_
    rotate_left
    · (intro w hSw; (try dsimp only at hSw); obtain ⟨d40, d41, d80, dv⟩ := HF.out w hSw; clear hSw; go_simp; (try with_reducible rfl))
    (try (simp only [Act.put, List.getElem_toArray, List.getElem_cons_zero, List.setIfInBounds_toArray, List.set_cons_zero, List.set_cons_succ]))
    refine wpAnyH_take (i := 1) (v := ?_) rfl (by kernel_rfl) (by kernel_rfl) (by kernel_rfl) (fun _ _ _ h => h) (Or.inl ⟨by rfl, ?_⟩) hHeld ?_
    rotate_left
    · (intro w hSw; (try dsimp only at hSw); obtain ⟨d40, d41, d80, dv⟩ := HF.out w hSw; clear hSw; go_simp; (try with_reducible rfl))
    (try (simp only [Act.put, List.getElem_toArray, List.getElem_cons_zero, List.getElem_cons_succ, List.setIfInBounds_toArray, List.set_cons_zero, List.set_cons_succ]))
    refine wpAnyH_take (i := 2) (v := ?_) rfl (by kernel_rfl) (by kernel_rfl) (by kernel_rfl) (fun _ _ _ h => h) (Or.inl ⟨by rfl, ?_⟩) hHeld ?_
    rotate_left
    · (intro w hSw; (try dsimp only at hSw); obtain ⟨d40, d41, d80, dv⟩ := HF.out w hSw; clear hSw; go_simp; (try with_reducible rfl))
    (try (simp only [Act.put, List.getElem_toArray, List.getElem_cons_zero, List.getElem_cons_succ, List.setIfInBounds_toArray, List.set_cons_zero, List.set_cons_succ]))
    refine wpAnyH_take (i := 3) (v := ?_) rfl (by kernel_rfl) (by kernel_rfl) (by kernel_rfl) (fun _ _ _ h => h) (Or.inl ⟨by rfl, ?_⟩) hHeld ?_
    rotate_left
    · (intro w hSw; (try dsimp only at hSw); obtain ⟨d40, d41, d80, dv⟩ := HF.out w hSw; clear hSw; go_simp; (try with_reducible rfl))
    (try (simp only [Act.put, List.getElem_toArray, List.getElem_cons_zero, List.getElem_cons_succ, List.setIfInBounds_toArray, List.set_cons_zero, List.set_cons_succ]))
    refine wpAnyH_take (i := 4) (v := ?_) rfl (by kernel_rfl) (by kernel_rfl) (by kernel_rfl) (fun _ _ _ h => h) (Or.inl ⟨by rfl, ?_⟩) hHeld ?_
    rotate_left
    · (intro w hSw; (try dsimp only at hSw); obtain ⟨d40, d41, d80, dv⟩ := HF.out w hSw; clear hSw; go_simp; (try with_reducible rfl))
    (try (simp only [Act.put, List.getElem_toArray, List.getElem_cons_zero, List.getElem_cons_succ, List.setIfInBounds_toArray, List.set_cons_zero, List.set_cons_succ]))
    refine wpAnyH_take (i := 5) (v := ?_) rfl (by kernel_rfl) (by kernel_rfl) (by kernel_rfl) (fun _ _ _ h => h) (Or.inl ⟨by rfl, ?_⟩) hHeld ?_
    rotate_left
    · (intro w hSw; (try dsimp only at hSw); obtain ⟨d40, d41, d80, dv⟩ := HF.out w hSw; clear hSw; go_simp; (try with_reducible rfl))
    (try (simp only [Act.put, List.getElem_toArray, List.getElem_cons_zero, List.getElem_cons_succ, List.setIfInBounds_toArray, List.set_cons_zero, List.set_cons_succ]))
    refine wpAnyH_take (i := 6) (v := ?_) rfl (by kernel_rfl) (by kernel_rfl) (by kernel_rfl) (fun _ _ _ h => h) (Or.inl ⟨by rfl, ?_⟩) hHeld ?_
    rotate_left
    · (intro w hSw; (try dsimp only at hSw); obtain ⟨d40, d41, d80, dv⟩ := HF.out w hSw; clear hSw; go_simp; (try with_reducible rfl))
    (try (simp only [Act.put, List.getElem_toArray, List.getElem_cons_zero, List.getElem_cons_succ, List.setIfInBounds_toArray, List.set_cons_zero, List.set_cons_succ]))
    refine wpAnyH_take (i := 7) (v := ?_) rfl (by kernel_rfl) (by kernel_rfl) (by kernel_rfl) (fun _ _ _ h => h) (Or.inl ⟨by rfl, ?_⟩) hHeld ?_
    rotate_left
    · (intro w hSw; (try dsimp only at hSw); obtain ⟨d40, d41, d80, dv⟩ := HF.out w hSw; clear hSw; go_simp; (try with_reducible rfl))
    (try (simp only [Act.put, List.getElem_toArray, List.getElem_cons_zero, List.getElem_cons_succ, List.setIfInBounds_toArray, List.set_cons_zero, List.set_cons_succ]))
    refine wpAnyH_take (i := 8) (v := ?_) rfl (by kernel_rfl) (by kernel_rfl) (by kernel_rfl) (fun _ _ _ h => h) (Or.inl ⟨by rfl, ?_⟩) hHeld ?_
    rotate_left
    · (intro w hSw; (try dsimp only at hSw); obtain ⟨d40, d41, d80, dv⟩ := HF.out w hSw; clear hSw; go_simp; (try with_reducible rfl))
    (try (simp only [Act.put, List.getElem_toArray, List.getElem_cons_zero, List.getElem_cons_succ, List.setIfInBounds_toArray, List.set_cons_zero, List.set_cons_succ]))
    refine wpAnyH_take (i := 9) (v := ?_) rfl (by kernel_rfl) (by kernel_rfl) (by kernel_rfl) (fun _ _ _ h => h) (Or.inl ⟨by rfl, ?_⟩) hHeld ?_
    rotate_left
    · (intro w hSw; (try dsimp only at hSw); obtain ⟨d40, d41, d80, dv⟩ := HF.out w hSw; clear hSw; go_simp; (try with_reducible rfl))
    (try (simp only [Act.put, List.getElem_toArray, List.getElem_cons_zero, List.getElem_cons_succ, List.setIfInBounds_toArray, List.set_cons_zero, List.set_cons_succ]))
    refine wpAnyH_take (i := 10) (v := ?_) rfl (by kernel_rfl) (by kernel_rfl) (by kernel_rfl) (fun _ _ _ h => h) (Or.inl ⟨by rfl, ?_⟩) hHeld ?_
    rotate_left
    · (intro w hSw; (try dsimp only at hSw); obtain ⟨d40, d41, d80, dv⟩ := HF.out w hSw; clear hSw; go_simp; (try with_reducible rfl))
    (try (simp only [Act.put, List.getElem_toArray, List.getElem_cons_zero, List.getElem_cons_succ, List.setIfInBounds_toArray, List.set_cons_zero, List.set_cons_succ]))
    refine wpAnyH_take (i := 11) (v := ?_) rfl (by kernel_rfl) (by kernel_rfl) (by kernel_rfl) (fun _ _ _ h => h) (Or.inl ⟨by rfl, ?_⟩) hHeld ?_
    rotate_left
    · (intro w hSw; (try dsimp only at hSw); obtain ⟨d40, d41, d80, dv⟩ := HF.out w hSw; clear hSw; go_simp; (try with_reducible rfl))
    (try (simp only [Act.put, List.getElem_toArray, List.getElem_cons_zero, List.getElem_cons_succ, List.setIfInBounds_toArray, List.set_cons_zero, List.set_cons_succ]))
    refine wpAnyH_ready (rs := [12]) (by kernel_rfl) (by simp) ?_
    refine AllReadyH.cons rfl (fun K9 hK9 => ?_) AllReadyH.nil
    rw [if_pos (by rfl)]
    refine wp_store_row 51 _ _ rfl (B4 + 1 + 1) #[.slice Ak n ck, .slice Av n cv] rfl rfl 51 #[.slice none 0 0, .slice none 0 0] (HK6.out) (by kernel_rfl) rfl (by simp [Value.oneCell']) ?_
    refine hK9.out _ _ ?_ (fun hHeld => ?_)
    · exact hHeld.trans (grownBy_frX (grown_setRow _ _ _) (.inl (.inl rfl)))
    clear hK9 K9
    (try (simp only [Act.put, List.getElem_toArray, List.getElem_cons_zero, List.getElem_cons_succ]))
    refine wpAnyH_ready (rs := [13]) (by kernel_rfl) (by simp) ?_
    refine AllReadyH.cons rfl (fun K9 hK9 => ?_) AllReadyH.nil
    go_simp
    refine hK9.out _ _ ?_ (fun hHeld => ?_)
    · (try dsimp only); exact hHeld.trans (grownBy_frX (grown_setCellS _ _ _ _) (.inl (.inr rfl)))
    clear hK9 K9
    (try (simp only [Act.put, List.getElem_toArray, List.getElem_cons_zero, List.getElem_cons_succ, List.setIfInBounds_toArray, List.set_cons_zero, List.set_cons_succ]))
    refine wpAnyH_done (by kernel_rfl) ?_ _
    refine NoPanic.normal ?_
    go_wp2_with fail
    rw [show IntKind.i64.wrap ((n : Int) - (s : Int)) = (n : Int) - (s : Int) from IntWalk.i64_in _ (by omega), hmm]
    exact asks_ret1 (w := w) (W := W.drew) rfl rfl HK6.out HK7.out (by omega) (HE1.out.trans HEW.out).drew (by have := HB4.out; omega) (by have := HB4.out; omega) ⟨by have h1 := HE1.out.size; have h2 := HE5.out.size; omega, hKd⟩ (fun W' e2 => ⟨Ak, n, ck, Av, cv, ss, V, X, base, rfl, by omega, HH.out.to e2, e2.size, fun q hq hf => ⟨hf, e2.block q hq⟩⟩)
  case stop =>
    rintro D c pre W hD hsp hx hKd
    rcases hx with ⟨_, q, x, rfl, hne⟩ | ⟨rfl, q, x, rfl, hqv, hpl, hPO⟩
    · exact absurd (fromC_at hsp (k := q.length) (by simp)) hne
    · have hxp := fromC_at hsp (k := q.length) (x := x) (by simp)
      have hxl := (List.getElem?_eq_some_iff.1 x.hL).1
      rw [HnL.out] at hxl
      rw [← Hs0.out] at hxp
      obtain ⟨k, hk0⟩ : ∃ k, k = q.length := ⟨_, rfl⟩
      rw [← hk0] at hPO hpl hqv hxp
      have hk : (k : Int) = min (max v 0) ((n : Int) - (s : Int)) := by omega
      clear hxp hk0 hsp hxl hqv hpl
      refine (wpIn_wide (n := 5)).2 ?_
      have hEW : Ext W1 W := hPO.fr.toExt HE5.out (fun q hq => by rw [hq, HzW.out]; exact Nat.le_refl _)
      have HPO := Lib.hid hPO
      have HK6 := Lib.hid (HQ.out W hEW).2.2.1
      have HK7 := Lib.hid (HQ.out W hEW).2.2.2.1
      have c7r : ∀ cs, (W.drew.setRow (B4 + 1 + 1) cs).cell? ⟨B4 + 1 + 1 + 1, 0, none⟩ = some (.bool false) := fun cs => (row_far (W := W.drew) (by omega) HK7.out cs).1
      have f7r : ∀ cs, (W.drew.setRow (B4 + 1 + 1) cs).frozen? ⟨B4 + 1 + 1 + 1, 0, none⟩ = false := fun cs => (row_far (W := W.drew) (by omega) HK7.out cs).2
      have HF : Hid (∀ W9, FrX (fun q => q = B4 + 1 + 1 ∨ q = B4 + 1 + 1 + 1) W W9 → W9.cell? ⟨B4, 0, none⟩ = some (.slice Ak n ck) ∧ W9.cell? ⟨B4, 1, none⟩ = some (.slice Av n cv) ∧ W9.cell? ⟨B8, 0, none⟩ = some (.int .i64 (s : Int)) ∧ (W9.cell? ⟨B8 + 1, 0, none⟩ = some (.int .i64 (k : Int)) ∧ W9.cell? ⟨B4 + 1, 3, none⟩ = some (.int .i64 v))) := Lib.hid fun W9 f => by
        obtain ⟨q4, q5, q6, q7, q8⟩ := HQ.out W hEW
        have hb := HB4.out
        have hz := HZ.out
        have h27 := HPO.out.hn
        have e4 := (f.block B4 (Array.getElem?_eq_some_iff.1 q4).1 (by omega)).trans q4
        have e5 := (f.block (B4 + 1) (Array.getElem?_eq_some_iff.1 q5).1 (by omega)).trans q5
        have e8 := (f.block B8 (Array.getElem?_eq_some_iff.1 q8).1 (by omega)).trans q8
        have e27 := (f.block (B8 + 1) (Array.getElem?_eq_some_iff.1 h27).1 (by omega)).trans h27
        exact ⟨cell_of_row W9 B4 0 _ _ (0, 0) e4, cell_of_row W9 B4 1 _ _ (0, 0) e4, cell_of_row W9 B8 0 _ _ (0, 0) e8, cell_of_row W9 (B8 + 1) 0 _ _ (0, 0) e27, cell_of_row W9 (B4 + 1) 3 _ _ (0, 0) e5⟩
      have hmm : ((k : Int) == min (max v 0) ((n : Int) - (s : Int))) = true := by rw [hk]; simp
      have HEW := Lib.hid hEW
      have Hk := Lib.hid hk
      clear hPO hEW hk hS5 hR5 hpo0 b1 b2 m1 m2 hrd5 l1 l2
      go_wp2_with fail
      refine wp_region_noPanic ?_
      refine wp_region_held_drew (S := fun W9 => FrX (fun q => q = B4 + 1 + 1 ∨ q = B4 + 1 + 1 + 1) W W9) (by kernel_rfl) ?_ (fun hHeld => ?_)
      · exact ((Ext.refl W).drew).frX _
      refine wpAnyH_take (i := 0) (v := ?_) rfl (by kernel_rfl) (by kernel_rfl) (by kernel_rfl) (fun _ _ _ h => h) (Or.inl ⟨by rfl, ?_⟩) hHeld ?_
      rotate_left
      · (intro w hSw; (try dsimp only at hSw); obtain ⟨d40, d41, d80, dv⟩ := HF.out w hSw; clear hSw; go_simp; (try with_reducible rfl))
      (try (simp only [Act.put, List.getElem_toArray, List.getElem_cons_zero, List.setIfInBounds_toArray, List.set_cons_zero, List.set_cons_succ]))
      refine wpAnyH_take (i := 1) (v := ?_) rfl (by kernel_rfl) (by kernel_rfl) (by kernel_rfl) (fun _ _ _ h => h) (Or.inl ⟨by rfl, ?_⟩) hHeld ?_
      rotate_left
      · (intro w hSw; (try dsimp only at hSw); obtain ⟨d40, d41, d80, dv⟩ := HF.out w hSw; clear hSw; go_simp; (try with_reducible rfl))
      (try (simp only [Act.put, List.getElem_toArray, List.getElem_cons_zero, List.getElem_cons_succ, List.setIfInBounds_toArray, List.set_cons_zero, List.set_cons_succ]))
      refine wpAnyH_take (i := 2) (v := ?_) rfl (by kernel_rfl) (by kernel_rfl) (by kernel_rfl) (fun _ _ _ h => h) (Or.inl ⟨by rfl, ?_⟩) hHeld ?_
      rotate_left
      · (intro w hSw; (try dsimp only at hSw); obtain ⟨d40, d41, d80, dv⟩ := HF.out w hSw; clear hSw; go_simp; (try with_reducible rfl))
      (try (simp only [Act.put, List.getElem_toArray, List.getElem_cons_zero, List.getElem_cons_succ, List.setIfInBounds_toArray, List.set_cons_zero, List.set_cons_succ]))
      refine wpAnyH_take (i := 3) (v := ?_) rfl (by kernel_rfl) (by kernel_rfl) (by kernel_rfl) (fun _ _ _ h => h) (Or.inl ⟨by rfl, ?_⟩) hHeld ?_
      rotate_left
      · (intro w hSw; (try dsimp only at hSw); obtain ⟨d40, d41, d80, dv⟩ := HF.out w hSw; clear hSw; go_simp; (try with_reducible rfl))
      (try (simp only [Act.put, List.getElem_toArray, List.getElem_cons_zero, List.getElem_cons_succ, List.setIfInBounds_toArray, List.set_cons_zero, List.set_cons_succ]))
      refine wpAnyH_take (i := 4) (v := ?_) rfl (by kernel_rfl) (by kernel_rfl) (by kernel_rfl) (fun _ _ _ h => h) (Or.inl ⟨by rfl, ?_⟩) hHeld ?_
      rotate_left
      · (intro w hSw; (try dsimp only at hSw); obtain ⟨d40, d41, d80, dv⟩ := HF.out w hSw; clear hSw; go_simp; (try with_reducible rfl))
      (try (simp only [Act.put, List.getElem_toArray, List.getElem_cons_zero, List.getElem_cons_succ, List.setIfInBounds_toArray, List.set_cons_zero, List.set_cons_succ]))
      refine wpAnyH_take (i := 5) (v := ?_) rfl (by kernel_rfl) (by kernel_rfl) (by kernel_rfl) (fun _ _ _ h => h) (Or.inl ⟨by rfl, ?_⟩) hHeld ?_
      rotate_left
      · (intro w hSw; (try dsimp only at hSw); obtain ⟨d40, d41, d80, dv⟩ := HF.out w hSw; clear hSw; go_simp; (try with_reducible rfl))
      (try (simp only [Act.put, List.getElem_toArray, List.getElem_cons_zero, List.getElem_cons_succ, List.setIfInBounds_toArray, List.set_cons_zero, List.set_cons_succ]))
      refine wpAnyH_take (i := 6) (v := ?_) rfl (by kernel_rfl) (by kernel_rfl) (by kernel_rfl) (fun _ _ _ h => h) (Or.inl ⟨by rfl, ?_⟩) hHeld ?_
      rotate_left
      · (intro w hSw; (try dsimp only at hSw); obtain ⟨d40, d41, d80, dv⟩ := HF.out w hSw; clear hSw; go_simp; (try with_reducible rfl))
      (try (simp only [Act.put, List.getElem_toArray, List.getElem_cons_zero, List.getElem_cons_succ, List.setIfInBounds_toArray, List.set_cons_zero, List.set_cons_succ]))
      refine wpAnyH_take (i := 7) (v := ?_) rfl (by kernel_rfl) (by kernel_rfl) (by kernel_rfl) (fun _ _ _ h => h) (Or.inl ⟨by rfl, ?_⟩) hHeld ?_
      rotate_left
      · (intro w hSw; (try dsimp only at hSw); obtain ⟨d40, d41, d80, dv⟩ := HF.out w hSw; clear hSw; go_simp; (try with_reducible rfl))
      (try (simp only [Act.put, List.getElem_toArray, List.getElem_cons_zero, List.getElem_cons_succ, List.setIfInBounds_toArray, List.set_cons_zero, List.set_cons_succ]))
      refine wpAnyH_take (i := 8) (v := ?_) rfl (by kernel_rfl) (by kernel_rfl) (by kernel_rfl) (fun _ _ _ h => h) (Or.inl ⟨by rfl, ?_⟩) hHeld ?_
      rotate_left
      · (intro w hSw; (try dsimp only at hSw); obtain ⟨d40, d41, d80, dv⟩ := HF.out w hSw; clear hSw; go_simp; (try with_reducible rfl))
      (try (simp only [Act.put, List.getElem_toArray, List.getElem_cons_zero, List.getElem_cons_succ, List.setIfInBounds_toArray, List.set_cons_zero, List.set_cons_succ]))
      refine wpAnyH_take (i := 9) (v := ?_) rfl (by kernel_rfl) (by kernel_rfl) (by kernel_rfl) (fun _ _ _ h => h) (Or.inl ⟨by rfl, ?_⟩) hHeld ?_
      rotate_left
      · (intro w hSw; (try dsimp only at hSw); obtain ⟨d40, d41, d80, dv⟩ := HF.out w hSw; clear hSw; go_simp; (try with_reducible rfl))
      (try (simp only [Act.put, List.getElem_toArray, List.getElem_cons_zero, List.getElem_cons_succ, List.setIfInBounds_toArray, List.set_cons_zero, List.set_cons_succ]))
      refine wpAnyH_take (i := 10) (v := ?_) rfl (by kernel_rfl) (by kernel_rfl) (by kernel_rfl) (fun _ _ _ h => h) (Or.inl ⟨by rfl, ?_⟩) hHeld ?_
      rotate_left
      · (intro w hSw; (try dsimp only at hSw); obtain ⟨d40, d41, d80, dv⟩ := HF.out w hSw; clear hSw; go_simp; (try with_reducible rfl))
      (try (simp only [Act.put, List.getElem_toArray, List.getElem_cons_zero, List.getElem_cons_succ, List.setIfInBounds_toArray, List.set_cons_zero, List.set_cons_succ]))
      refine wpAnyH_take (i := 11) (v := ?_) rfl (by kernel_rfl) (by kernel_rfl) (by kernel_rfl) (fun _ _ _ h => h) (Or.inl ⟨by rfl, ?_⟩) hHeld ?_
      rotate_left
      · (intro w hSw; (try dsimp only at hSw); obtain ⟨d40, d41, d80, dv⟩ := HF.out w hSw; clear hSw; go_simp; (try with_reducible rfl))
      (try (simp only [Act.put, List.getElem_toArray, List.getElem_cons_zero, List.getElem_cons_succ, List.setIfInBounds_toArray, List.set_cons_zero, List.set_cons_succ]))
      refine wpAnyH_ready (rs := [12]) (by kernel_rfl) (by simp) ?_
      refine AllReadyH.cons rfl (fun K9 hK9 => ?_) AllReadyH.nil
      rw [if_pos (by rfl)]
      refine wp_store_row 51 _ _ rfl (B4 + 1 + 1) #[.slice Ak n ck, .slice Av n cv] rfl rfl 51 #[.slice none 0 0, .slice none 0 0] (HK6.out) (by kernel_rfl) rfl (by simp [Value.oneCell']) ?_
      refine hK9.out _ _ ?_ (fun hHeld => ?_)
      · exact hHeld.trans (grownBy_frX (grown_setRow _ _ _) (.inl (.inl rfl)))
      clear hK9 K9
      (try (simp only [Act.put, List.getElem_toArray, List.getElem_cons_zero, List.getElem_cons_succ]))
      refine wpAnyH_ready (rs := [13]) (by kernel_rfl) (by simp) ?_
      refine AllReadyH.cons rfl (fun K9 hK9 => ?_) AllReadyH.nil
      go_simp
      refine hK9.out _ _ ?_ (fun hHeld => ?_)
      · (try dsimp only); exact hHeld.trans (grownBy_frX (grown_setCellS _ _ _ _) (.inl (.inr rfl)))
      clear hK9 K9
      (try (simp only [Act.put, List.getElem_toArray, List.getElem_cons_zero, List.getElem_cons_succ, List.setIfInBounds_toArray, List.set_cons_zero, List.set_cons_succ]))
      refine wpAnyH_done (by kernel_rfl) ?_ _
      refine NoPanic.normal ?_
      go_wp2_with fail
      rw [show IntKind.i64.wrap ((n : Int) - (s : Int)) = (n : Int) - (s : Int) from IntWalk.i64_in _ (by omega), hmm]
      exact asks_ret1 (w := w) (W := W.drew) rfl rfl HK6.out HK7.out (by omega) (HE1.out.trans HEW.out).drew (by have := HB4.out; omega) (by have := HB4.out; omega) ⟨by have h1 := HE1.out.size; have h2 := HE5.out.size; omega, hKd⟩ (fun W' e2 => ⟨Ak, n, ck, Av, cv, ss, V, X, base, rfl, by omega, HH.out.to e2, e2.size, fun q hq hf => ⟨hf, e2.block q hq⟩⟩)

end Go.Proofs.Ytkmnhapeohlooaa

/-
  Layer 18: any call of the script.
-/
namespace Go.Proofs.Ytkmnhapeohlooaa
open Go.RowKit
set_option maxRecDepth 100000

theorem asks_any {w0 w : World} {sb : Nat} {hs : List Int} {Ak : Option Addr} {n : Nat} {Av : Option Addr} {ss : List Sl} {V : List Int} {X : Nat → Prop} {base : Nat} (h : AS w0 w sb hs Ak n Av ss V X base) (hn : n ≤ 1048576) (ck cv : Nat) (k v : Int) (kA : Option Addr) (kn kc : Nat) (key : List Nat) (tk : Rd .u8 w kA kn key) (uk : U8 key) (lk : kn ≤ 1048576)
    (hA : Option Addr) (hn2 hc : Nat) (hi : List Nat) (th : Rd .u8 w hA hn2 hi) (uh : U8 hi) (lh : hn2 ≤ 1048576) (nk : 0 < kn → ∀ a, kA = some a → ¬ X a.block) :
    Calls Try.prog 33 #[.pointer (some ⟨sb, 0, none⟩), .agg #[.slice Ak n ck, .slice Av n cv], .agg #[.int .i64 k, .slice kA kn kc, .slice hA hn2 hc, .int .i64 v]] w (AskPost w0 w sb hs n X Ak Av ss) := by
  by_cases k1 : k = 1
  · subst k1
    exact asks_put h hn ck cv kA kn kc key tk nk uk lk hA hn2 hc hi th uh lh v
  by_cases k2 : k = 2
  · subst k2
    exact asks_get h hn ck cv kA kn kc key tk uk lk hA hn2 hc hi th uh lh v
  by_cases k3 : k = 3
  · subst k3
    exact asks_seek h hn ck cv kA kn kc key tk uk lk hA hn2 hc hi th uh lh v
  by_cases k4 : k = 4
  · subst k4
    exact asks_range h hn ck cv kA kn kc key tk uk lk hA hn2 hc hi th uh lh v
  by_cases k5 : k = 5
  · subst k5
    exact asks_each h hn ck cv kA kn kc key tk uk lk hA hn2 hc hi th uh lh v
  exact asks_none h hn ck cv kA kn kc key tk k uk lk hA hn2 hc hi th uh lh v ⟨k1, k2, k3, k4, k5⟩

theorem AS.fr {w0 W W' : World} {sb : Nat} {hs : List Int} {Ak : Option Addr} {n : Nat} {Av : Option Addr} {ss : List Sl} {V : List Int} {X : Nat → Prop} {base B : Nat} (h : AS w0 W sb hs Ak n Av ss V X base) (f : FrX (fun q => q = B) W W') (hf : Fre X Ak Av ss B) (hB : w0.heap.size ≤ B) : AS w0 W' sb hs Ak n Av ss V X base :=
  ⟨h.ls.kept (fun q hq => f.block q (h.ls.bd' q hq).2 (fun e => hf.1 (e ▸ hq))) f.size, h.low, f.toExt h.ext (fun q hq => by rw [hq]; exact hB), h.rk.fr f (fun a ha e => hf.2.1 a ha e), h.rv.fr f (fun a ha e => hf.2.2.1 a ha e), fun s hs => ⟨(h.tx s hs).1.fr f (fun a ha e => hf.2.2.2 s hs a ha e), (h.tx s hs).2⟩,
    fun a ha => ⟨(h.fk a ha).1, Nat.lt_of_lt_of_le (h.fk a ha).2 f.size⟩, fun a ha => ⟨(h.fv a ha).1, Nat.lt_of_lt_of_le (h.fv a ha).2 f.size⟩, fun s hs a ha => ⟨(h.ft s hs a ha).1, Nat.lt_of_lt_of_le (h.ft s hs a ha).2 f.size⟩⟩

end Go.Proofs.Ytkmnhapeohlooaa
