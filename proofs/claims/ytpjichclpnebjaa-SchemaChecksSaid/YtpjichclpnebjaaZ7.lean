import Derived.Test.YtpjichclpnebjaaZ5
import Derived.Test.YtpjichclpnebjaaZ6

-- part H21
/-
  Layer 6: a cell by its column put, got and cloned.
-/
namespace Go.Proofs.Ytpjichclpnebjaa
open Go.RowKit

set_option maxHeartbeats 1600000 in
theorem putCell_any (nm : ByteArray) (kd : Int) (nl : Bool) (xn : Bool) (xi : Int) (xA : Option Addr) (n c : Nat) (xt : List Nat) (w : World) (hx : Rd .u8 w xA n xt) (hu : U8 xt) (hn : n ≤ 140737488355328) (h0 : -9223372036854775808 ≤ xi) (h1 : xi ≤ 9223372036854775807) :
    Calls Try.prog 66 #[.agg #[.string nm, .int .i64 kd, .bool nl], .agg #[.bool xn, .int .i64 xi, .slice xA n c]] w fun e w' => ∃ A' c', e = .returned (.slice A' (cputL kd xn xi xt).length c') ∧ Own .u8 5 w' w.heap.size A' c' (cputL kd xn xi xt) ∧ Ext w w' := by
  have hE : Ext w ((w.alloc (.cells #[.string nm, .int .i64 kd, .bool nl] 89)).alloc (.cells #[.bool xn, .int .i64 xi, .slice xA n c] 82)) := ((Ext.refl w).alloc _).alloc _
  obtain ⟨L, hL⟩ : ∃ L, L = cputL kd xn xi xt := ⟨_, rfl⟩
  rw [← hL]
  have HL := Lib.hid hL
  clear hL
  go_enter Try.func66, Try.ntmps66
  go_wp2_with fail
  refine (cput_any kd xn xi xA n c xt _ (hx.ext hE) hu hn h0 h1).mono ?_
  rintro e w1 ⟨A1, c1, rfl, hown1, he1⟩
  rw [← HL.out] at hown1 ⊢
  have ho := hown1.mono (base' := w.heap.size) (by simp; omega)
  go_wp2
  go_ret
  exact ⟨_, _, rfl, ho, hE.trans he1⟩

set_option maxHeartbeats 3200000 in
set_option maxRecDepth 100000 in
theorem getCell_any (nm : ByteArray) (kd : Int) (nl : Bool) (A : Option Addr) (n c : Nat) (at_ : Int) (bs : List Nat) (w : World) (hx : Rd .u8 w A n bs) (hu : U8 bs) (hn : n ≤ 140737488355328) (hcap : n ≤ c) (hcm : c ≤ 9223372036854775807) :
    Calls Try.prog 69 #[.agg #[.string nm, .int .i64 kd, .bool nl], .slice A n c, .int .i64 at_] w (CGetPost (gcell ⟨nm, kd, nl⟩ bs at_) w) := by
  have hE : Ext w ((w.alloc (.cells #[.string nm, .int .i64 kd, .bool nl] 89)).alloc (.cells #[.bool false, .int .i64 0, .slice none 0 0] 82)) := ((Ext.refl w).alloc _).alloc _
  obtain ⟨G, hG⟩ : ∃ G, G = gcell ⟨nm, kd, nl⟩ bs at_ := ⟨_, rfl⟩
  rw [← hG]
  unfold gcell at hG
  simp only at hG
  obtain ⟨r, hr⟩ : ∃ r, r = cget kd bs at_ := ⟨_, rfl⟩
  rw [← hr] at hG
  have HP : Hid (∀ W, Ext w W → Calls Try.prog 83 #[.int .i64 kd, .slice A n c, .int .i64 at_] W (CGetPost r W)) := Lib.hid (fun W hW => by
    rw [hr]; exact cget_any A n c at_ kd bs W (hx.ext hW) hu hn hcap hcm)
  clear hr
  obtain ⟨nul, num, txt, next, err⟩ := r
  simp only at hG
  have HK1 : Hid (∀ W, Ext ((w.alloc (.cells #[.string nm, .int .i64 kd, .bool nl] 89)).alloc (.cells #[.bool false, .int .i64 0, .slice none 0 0] 82)) W → W.heap[w.heap.size + 1]? = some (.cells #[.bool false, .int .i64 0, .slice none 0 0] 82) ∧ W.cell? ⟨w.heap.size, 2, none⟩ = some (.bool nl)) := Lib.hid (fun W hW => by
    have h := Ext.kept hW
    have h2 := Ext.kept (((Ext.refl (w.alloc (.cells #[.string nm, .int .i64 kd, .bool nl] 89))).alloc (.cells #[.bool false, .int .i64 0, .slice none 0 0] 82)).trans hW)
    exact ⟨by simpa using h, cell_of_row W w.heap.size 2 _ _ (0, 0) h2⟩)
  by_cases e0 : err = 0
  · subst e0
    rw [if_neg (fun q => q rfl)] at hG
    by_cases hbad : nul = true ∧ nl = false
    · rw [if_pos hbad] at hG
      obtain ⟨rfl, rfl⟩ := hbad
      subst hG
      go_enter Try.func69, Try.ntmps69
      go_wp2_with fail
      refine (HP.out _ hE).mono ?_
      rintro e w1 ⟨A1, c1, rfl, hown1, he1⟩
      simp only at hown1 ⊢
      obtain ⟨h51, h52⟩ := HK1.out _ (he1.trans ((Ext.refl w1).alloc (.cells #[.bool true, .int .i64 num, .slice A1 txt.length c1] 82)))
      have HK := Lib.hid h51
      clear h51
      go_wp2_with (refine wpList_store_cell rfl (.tmp 6) (.tmp 32) rfl (w.heap.size + 1) (.bool false) (.int .i64 0) (.slice none 0 0) rfl rfl HK.out rfl rfl rfl ?_)
      apply bodyPost_ret
      · exact results_cell3 rfl _ _ (w.heap.size + 1) 82 #[.bool false, .int .i64 0, .slice none 0 0] (0, 0) _ rfl (setRow_heap _ (w.heap.size + 1) _ _ 82 (0, 0) HK.out) Try.underlying82 rfl (by kernel_rfl)
      · rfl
      exact ⟨none, 0, rfl, Own.nil .., ((hE.trans he1).alloc _).setRow (Nat.le_succ _) _⟩
    · rw [if_neg hbad] at hG
      subst hG
      have key : (nul = true ∧ nl = true) ∨ nul = false := by cases nul <;> cases nl <;> simp_all
      rcases key with ⟨rfl, rfl⟩ | rfl
      all_goals
        go_enter Try.func69, Try.ntmps69
        go_wp2_with fail
        refine (HP.out _ hE).mono ?_
        rintro e w1 ⟨A1, c1, rfl, hown1, he1⟩
        simp only at hown1 ⊢
        have hX : ∀ b, Ext w1 (w1.alloc (.cells #[.bool b, .int .i64 num, .slice A1 txt.length c1] 82)) := fun b => (Ext.refl w1).alloc _
        have h51 := fun b => (HK1.out _ (he1.trans (hX b))).1
        have h52 := fun b => (HK1.out _ (he1.trans (hX b))).2
        have ho := fun b => ((hown1.ext (hX b)).far (grown_setRow _ (w.heap.size + 1) #[.bool b, .int .i64 num, .slice A1 txt.length c1]) (by simp)).mono (base' := w.heap.size) (by simp; omega)
        have HX := Lib.hid hX
        have HO := Lib.hid ho
        have HK := Lib.hid h51
        clear h51 hX ho hbad
        have h52t := h52 true
        have h52f := h52 false
        clear h52
        go_wp2_with (first
          | (refine wpList_store_cell rfl (.tmp 6) (.tmp 33) rfl (w.heap.size + 1) (.bool true) (.int .i64 num) (.slice A1 txt.length c1) rfl rfl (HK.out true) rfl rfl rfl ?_)
          | (refine wpList_store_cell rfl (.tmp 6) (.tmp 33) rfl (w.heap.size + 1) (.bool false) (.int .i64 num) (.slice A1 txt.length c1) rfl rfl (HK.out false) rfl rfl rfl ?_)
          | fail)
        apply bodyPost_ret
        · first
            | exact results_cell3 rfl _ _ (w.heap.size + 1) 82 #[.bool true, .int .i64 num, .slice A1 txt.length c1] (0, 0) _ rfl (setRow_heap _ (w.heap.size + 1) _ _ 82 (0, 0) (HK.out true)) Try.underlying82 rfl (by kernel_rfl)
            | exact results_cell3 rfl _ _ (w.heap.size + 1) 82 #[.bool false, .int .i64 num, .slice A1 txt.length c1] (0, 0) _ rfl (setRow_heap _ (w.heap.size + 1) _ _ 82 (0, 0) (HK.out false)) Try.underlying82 rfl (by kernel_rfl)
        · rfl
        first
          | exact ⟨A1, c1, rfl, HO.out true, ((hE.trans he1).trans (HX.out true)).setRow (Nat.le_succ _) _⟩
          | exact ⟨A1, c1, rfl, HO.out false, ((hE.trans he1).trans (HX.out false)).setRow (Nat.le_succ _) _⟩
  · rw [if_pos e0] at hG
    subst hG
    have b1 : (err != 0) = true := by simp [e0]
    clear e0
    go_enter Try.func69, Try.ntmps69
    go_wp2_with fail
    refine (HP.out _ hE).mono ?_
    rintro e w1 ⟨A1, c1, rfl, hown1, he1⟩
    simp only at hown1 ⊢
    obtain ⟨h51, h52⟩ := HK1.out _ (he1.trans ((Ext.refl w1).alloc (.cells #[.bool nul, .int .i64 num, .slice A1 txt.length c1] 82)))
    have HK := Lib.hid h51
    clear h51
    go_wp2_with (refine wpList_store_cell rfl (.tmp 6) (.tmp 23) rfl (w.heap.size + 1) (.bool false) (.int .i64 0) (.slice none 0 0) rfl rfl HK.out rfl rfl rfl ?_)
    apply bodyPost_ret
    · exact results_cell3 rfl _ _ (w.heap.size + 1) 82 #[.bool false, .int .i64 0, .slice none 0 0] (0, 0) _ rfl (setRow_heap _ (w.heap.size + 1) _ _ 82 (0, 0) HK.out) Try.underlying82 rfl (by kernel_rfl)
    · rfl
    exact ⟨none, 0, rfl, Own.nil .., ((hE.trans he1).alloc _).setRow (Nat.le_succ _) _⟩

set_option maxHeartbeats 3200000 in
set_option maxRecDepth 100000 in
theorem cloneCell_any (nul : Bool) (num : Int) (A : Option Addr) (n c : Nat) (txt : List Nat) (w : World) (hx : Rd .u8 w A n txt) (hn : n ≤ 140737488355328) :
    Calls Try.prog 61 #[.agg #[.bool nul, .int .i64 num, .slice A n c]] w fun e w' => ∃ A' c', e = .returned (.agg #[.bool nul, .int .i64 num, .slice A' n c']) ∧ Own .u8 5 w' w.heap.size A' c' txt ∧ Ext w w' := by
  have hE : Ext w ((w.alloc (.cells #[.bool nul, .int .i64 num, .slice A n c] 82)).alloc (.cells #[.bool false, .int .i64 0, .slice none 0 0] 82)) := ((Ext.refl w).alloc _).alloc _
  go_enter Try.func61, Try.ntmps61
  go_wp2_with fail
  refine (clone_any A n c txt _ (hx.ext hE) (by omega)).mono ?_
  rintro e w1 ⟨A1, c1, rfl, hown1, he1⟩
  have hK2 : w1.heap[w.heap.size + 1]? = some (.cells #[.bool false, .int .i64 0, .slice none 0 0] 82) := by
    have h := Ext.kept he1
    simpa using h
  have hK1 := Ext.kept (((Ext.refl _).alloc _).trans he1)
  have hz : w.heap.size < w1.heap.size := (Array.getElem?_eq_some_iff.1 hK1).1
  have kc0 := cell_of_row w1 w.heap.size 0 _ _ (0, 0) hK1
  have kc1 := cell_of_row w1 w.heap.size 1 _ _ (0, 0) hK1
  have kc2 := cell_of_row w1 w.heap.size 2 _ _ (0, 0) hK1
  have kf2 := frozen_of_row w1 w.heap.size 2 _ _ hK1
  simp only [List.getElem?_toArray, List.getElem?_cons_zero, List.getElem?_cons_succ] at kc0 kc1 kc2
  have hEs : Ext w (w1.setCell ⟨w.heap.size, 2, none⟩ (.slice A1 n c1)) := (hE.trans he1).setCell (p := ⟨w.heap.size, 2, none⟩) (Nat.le_refl _) _
  have hos := hown1.far (grown_setCell w1 w.heap.size 2 (.slice A1 n c1)) (by simp; omega)
  have HKs := Lib.hid ((heap_setCell_other w1 ⟨w.heap.size, 2, none⟩ (w.heap.size + 1) (.slice A1 n c1) (by simp)).trans hK2)
  have HE := Lib.hid hEs
  have HO := Lib.hid hos
  clear hK1 hK2 hEs hos hown1
  go_wp2_with (refine wpList_store_cell rfl (.tmp 2) (.tmp 7) rfl (w.heap.size + 1) (.bool nul) (.int .i64 num) (.slice A1 n c1) rfl rfl HKs.out rfl rfl rfl ?_)
  apply bodyPost_ret
  · exact results_cell1 rfl _ _ (w.heap.size + 1) 82 #[.bool nul, .int .i64 num, .slice A1 n c1] (0, 0) _ rfl (setRow_heap _ (w.heap.size + 1) _ _ 82 (0, 0) HKs.out) Try.underlying82 rfl (by kernel_rfl)
  · rfl
  have hof := (HO.out.far (grown_setRow _ (w.heap.size + 1) #[.bool nul, .int .i64 num, .slice A1 n c1]) (by simp)).mono (base' := w.heap.size) (by simp; omega)
  exact ⟨A1, c1, rfl, hof, HE.out.setRow (Nat.le_succ _) _⟩

end Go.Proofs.Ytpjichclpnebjaa

-- part H22
/-
  Layer 6: a cell stored into a row of the call's own; a row cloned.
-/
namespace Go.Proofs.Ytpjichclpnebjaa
open Go.RowKit

theorem wp_storeX {w : World} {o : Oper} {a : Act} {K : Act → World → Prop} {Q : Exit → Act → World → Prop} (f : Ci) (x y : Operand) (ho : o.op = .store 82 x y)
    {base c : Nat} {A : Option Addr} {fs : List Ci} (hown : OwnX w base A c fs) {j : Nat} (hj : j < fs.length) {g o' : Nat} (hA : A = some ⟨g, 0, none⟩) (ho' : o' = j * 3)
    (hx : a.eval x = .pointer (some ⟨g, o', none⟩)) (hy : a.eval y = .agg #[.bool f.nul, .int .i64 f.num, .slice f.A f.txt.length f.c])
    (h : ∀ w', OwnX w' base A c (fs.set j f) → w.grownBy w' (some g) → K (a.put o.dst undef) w') : Oper.wp Try.prog o a w K Q := by
  obtain ⟨g', hA', _, _, _, _, ht, hs⟩ := hown.store hj
  rw [hA] at hA'
  injection hA' with hA'
  injection hA' with e1
  subst e1 ho'
  obtain ⟨h1, h2⟩ := hs f
  exact wp_store_mid 82 x y ho g (j * 3) #[.bool f.nul, .int .i64 f.num, .slice f.A f.txt.length f.c] hx hy ht (by kernel_rfl) (by simp [Value.oneCell']) (h _ h1 h2)

theorem wpList_storeX {w : World} {ops : Array Oper} {rest : List Oper} {o : Oper} {a : Act} {Q : Exit → Act → World → Prop} (f : Ci) (hgd : o.guard = none) (x y : Operand) (ho : o.op = .store 82 x y)
    {base c : Nat} {A : Option Addr} {fs : List Ci} (hown : OwnX w base A c fs) {j : Nat} (hj : j < fs.length) {g o' : Nat} (hA : A = some ⟨g, 0, none⟩) (ho' : o' = j * 3)
    (hx : a.eval x = .pointer (some ⟨g, o', none⟩)) (hy : a.eval y = .agg #[.bool f.nul, .int .i64 f.num, .slice f.A f.txt.length f.c])
    (h : ∀ w', OwnX w' base A c (fs.set j f) → w.grownBy w' (some g) → wpList Try.prog ops Q rest (a.put o.dst undef) w') : wpList Try.prog ops Q (o :: rest) a w :=
  wpList_plain hgd fun _ hK => wp_storeX f x y ho hown hj hA ho' hx hy fun w' h1 h2 => hK _ _ (h w' h1 h2)

theorem step_storeX {w : World} {ops : Array Oper} {o : Oper} {a : Act} {K : Act → World → Prop} {Q : Exit → Act → World → Prop} {E : Prop} (f : Ci) (hgd : o.guard = none) (x y : Operand) (ho : o.op = .store 82 x y)
    {base c : Nat} {A : Option Addr} {fs : List Ci} (hown : OwnX w base A c fs) {j : Nat} (hj : j < fs.length) {g o' : Nat} (hA : A = some ⟨g, 0, none⟩) (ho' : o' = j * 3)
    (hx : a.eval x = .pointer (some ⟨g, o', none⟩)) (hy : a.eval y = .agg #[.bool f.nul, .int .i64 f.num, .slice f.A f.txt.length f.c])
    (h : ∀ w', OwnX w' base A c (fs.set j f) → w.grownBy w' (some g) → K (a.put o.dst undef) w') :
    if Region.wanted o (yielded ops a.tmps) = true then Oper.wp Try.prog o a w K Q else E := by
  have hw : Region.wanted o (yielded ops a.tmps) = true := by simp [Region.wanted, hgd]
  rw [if_pos hw]
  exact wp_storeX f x y ho hown hj hA ho' hx hy h

theorem OwnX.cells3 {w : World} {base c g : Nat} {fs : List Ci} (h : OwnX w base (some ⟨g, 0, none⟩) c fs) {q : Nat} (hq : q < fs.length) :
    w.cell? ⟨g, q * 3, none⟩ = some (.bool fs[q].nul) ∧ w.cell? ⟨g, q * 3 + 1, none⟩ = some (.int .i64 fs[q].num) ∧ w.cell? ⟨g, q * 3 + 2, none⟩ = some (.slice fs[q].A fs[q].txt.length fs[q].c) ∧ w.frozen? ⟨g, q * 3, none⟩ = false ∧ w.frozen? ⟨g, q * 3 + 1, none⟩ = false ∧ w.frozen? ⟨g, q * 3 + 2, none⟩ = false := by
  have h0 := h
  unfold OwnX at h0
  have hx : fs[q]? = some fs[q] := List.getElem?_eq_getElem hq
  refine ⟨?_, ?_, ?_, World.ownsRow.frozenAt h0 _, World.ownsRow.frozenAt h0 _, World.ownsRow.frozenAt h0 _⟩
  · rw [World.ownsRow.cellAt h0 _ (by omega)]; exact xcells_at hx 0 (by omega)
  · rw [World.ownsRow.cellAt h0 _ (by omega)]; exact xcells_at hx 1 (by omega)
  · rw [World.ownsRow.cellAt h0 _ (by omega)]; exact xcells_at hx 2 (by omega)
theorem OwnX.stored {w : World} {base c g : Nat} {fs : List Ci} (h : OwnX w base (some ⟨g, 0, none⟩) c fs) {q : Nat} (hq : q < fs.length) (x : Ci) (v : Value) (hv : v = .slice x.A x.txt.length x.c) :
    OwnX (((w.setCell ⟨g, q * 3, none⟩ (.bool x.nul)).setCell ⟨g, q * 3 + 1, none⟩ (.int .i64 x.num)).setCell ⟨g, q * 3 + 2, none⟩ v) base (some ⟨g, 0, none⟩) c (fs.set q x) ∧ w.grownBy (((w.setCell ⟨g, q * 3, none⟩ (.bool x.nul)).setCell ⟨g, q * 3 + 1, none⟩ (.int .i64 x.num)).setCell ⟨g, q * 3 + 2, none⟩ v) (some g) := by
  subst hv
  obtain ⟨g', hA, _, _, _, _, _, hs⟩ := h.store hq
  injection hA with hA
  injection hA with e1
  subst e1
  exact hs x

theorem AtS.far {w w' : World} {g b : Nat} {A : Option Addr} {n c : Nat} {keys : Int} (h : AtS w g A n c keys) (hg : w.grownBy w' (some b)) (hne : g ≠ b) : AtS w' g A n c keys :=
  ⟨(World.cell?_of_block (a := ⟨g, 0, none⟩) (hg.block g h.lt (by simpa using hne))).trans h.c0, (World.cell?_of_block (a := ⟨g, 1, none⟩) (hg.block g h.lt (by simpa using hne))).trans h.c1, Nat.lt_of_lt_of_le h.lt hg.size⟩

theorem set_take_next {xs : List Ci} {j : Nat} (x : Ci) (hj : j < xs.length) : (xs.set j x).take (j + 1) = xs.take j ++ [x] := by
  rw [List.take_add_one, List.getElem?_set_self hj, List.take_set_of_le (Nat.le_refl _)]
  rfl

/-- A row whose first cells are there, as values; its block. -/
structure Half (w0 wr : World) (g base n j : Nat) (fs : List Ci) (vs : List CV) : Prop where
  len : fs.length = n
  val : (fs.take j).map Ci.val = vs
  own : OwnX wr base (some ⟨g, 0, none⟩) n fs
  txt : TxtU wr base fs
  ext : Ext w0 wr
  lo : w0.heap.size ≤ base
  size : base ≤ wr.heap.size

theorem Half.put {w0 wr w1 w2 : World} {g base base' n j : Nat} {fs : List Ci} {vs : List CV} (h : Half w0 wr g base n j fs vs) (hj : j < n) (he : Ext wr w1) {f : Ci} (hf : Own .u8 5 w1 base' f.A f.c f.txt) (hb : wr.heap.size ≤ base')
    (ho : OwnX w2 base (some ⟨g, 0, none⟩) n (fs.set j f)) (hg : w1.grownBy w2 (some g)) : Half w0 w2 g base n (j + 1) (fs.set j f) (vs ++ [f.val]) := by
  have hlen := h.len
  have hsz := h.size
  refine ⟨by rw [List.length_set, h.len], ?_, ho, ?_, grownBy_ext (h.ext.trans he) hg ?_, h.lo, ?_⟩
  · rw [set_take_next f (by omega), List.map_append, h.val]; rfl
  · have h1 : TxtU w1 base (fs.set j f) := TxtU.put (h.txt.ext he) hf (Nat.le_trans hsz hb) (fun x hx p hp => Nat.lt_of_lt_of_le ((h.txt.1 x hx).block p hp).2 hb) j
    exact TxtU.grown h1 (h.own.ext he) (by simpa [Value.ownBlock] using hg)
  · intro g' hg'
    injection hg' with hg'
    subst hg'
    exact Nat.le_trans h.lo (h.own.block _ rfl).1
  · exact Nat.le_trans (Nat.le_trans hsz he.size) hg.size

set_option maxHeartbeats 3200000 in
set_option maxRecDepth 100000 in
theorem cloneRow_any (A : Option Addr) (n c : Nat) (xs : List Ci) (w : World) (hx : RdX w A n xs) (hn : n ≤ 4398046511104) :
    Calls Try.prog 60 #[.slice A n c] w fun e w' => ∃ fs g, e = .returned (.slice (some ⟨g, 0, none⟩) n n) ∧ Half w w' g w.heap.size n n fs (xs.map Ci.val) := by
  have Hl := Lib.hid hx.1
  go_enter Try.func60, Try.ntmps60
  go_wp2_with (refine wpList_mkX rfl (.tmp 7) (.tmp 7) rfl .i64 .i64 n rfl rfl rfl rfl hn ?_; intro w1 hown1 he1)
  go_loopw [11] (fun i wr => ∃ (j : Nat) (fs : List Ci), j ≤ n ∧ i = .int .i64 j ∧ Half w wr w.heap.size w.heap.size n j fs ((xs.take j).map Ci.val)) (fun i _ => n - (intOf i).toNat)
  case atStart => exact ⟨0, List.replicate n Ci.none, Nat.zero_le _, rfl, ⟨by simp, rfl, hown1, TxtU.nones _ _ _, he1, Nat.le_refl _, he1.size⟩⟩
  case round =>
    clear hown1 he1
    obtain ⟨j, fs, hj, rfl, hH⟩ := hrel
    have HH := Lib.hid hH
    by_cases hlt : j < n
    · obtain ⟨b, o, f, rfl, hbl, hf, h1, h2, h3, hin⟩ := (hx.ext hH.ext).at_ hlt
      have hnx : (xs.take (j + 1)).map Ci.val = (xs.take j).map Ci.val ++ [f.val] := by
        rw [List.take_add_one, hf, List.map_append]
        rfl
      have Hnx := Lib.hid hnx
      obtain ⟨xn, xi, xA, xc, xt⟩ := f
      simp only at h1 h2 h3
      obtain ⟨xr, xu, x0, x1, xl⟩ := hin
      simp only at xr xu x0 x1 xl
      obtain ⟨n3, hn3⟩ : ∃ n3, n3 = xt.length := ⟨_, rfl⟩
      rw [← hn3] at h3 xr xl
      have Hn3 := Lib.hid hn3
      have i0 : (0 : Int) ≤ (j : Int) := by omega
      have i1 : (j : Int) < (n : Int) := by omega
      have hX : Ext wr (wr.alloc (.cells #[.bool xn, .int .i64 xi, .slice xA n3 xc] 82)) := (Ext.refl wr).alloc _
      have hbg := (hH.own.block _ rfl).2
      simp only at hbg
      clear hnx hf hn3 hH
      go_wp2_with fail
      refine (cloneCell_any xn xi xA n3 xc xt _ (xr.ext hX) (by omega)).mono ?_
      rintro e w2 ⟨A2, c2, rfl, hown2, he2⟩
      have hE2 := hX.trans he2
      have ho2 := HH.out.own.ext hE2
      have hjl : j < fs.length := by rw [HH.out.len]; exact hlt
      go_wp2_with (refine wpList_storeX ⟨xn, xi, A2, c2, xt⟩ rfl (.tmp 20) (.tmp 19) rfl ho2 hjl rfl (by omega) rfl (by show _ = Value.agg #[.bool xn, .int .i64 xi, .slice A2 xt.length c2]; rw [← Hn3.out]; rfl) ?_; intro w3 ho3 hg3)
      have hN := HH.out.put (f := ⟨xn, xi, A2, c2, xt⟩) hlt hE2 (hown2.mono (base' := wr.heap.size) (by simp)) (Nat.le_refl _) ho3 hg3
      go_roundw
      case rel => exact ⟨j + 1, _, by omega, by go_num, by rw [Hnx.out]; exact hN⟩
      case measure => simp [intOf]; omega
    · obtain rfl : j = n := by omega
      rw [List.take_of_length_le (Nat.le_of_eq Hl.out)] at HH
      go_wp2
      go_ret
      exact ⟨fs, _, rfl, HH.out⟩

end Go.Proofs.Ytpjichclpnebjaa
