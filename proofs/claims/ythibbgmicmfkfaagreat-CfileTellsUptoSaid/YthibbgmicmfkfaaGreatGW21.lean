import Derived.Test.YthibbgmicmfkfaaGreatGW20
namespace Go.Proofs.YthibbgmicmfkfaaGreat
open Go.RowKit
set_option maxRecDepth 100000
theorem fin_range {α : Type} (f : Nat → α) (m : Nat) : (List.finRange m).map (fun i => f i.1) = (List.range m).map f := by
 apply List.ext_getElem
 · simp
 · intro i h1 h2
   simp
theorem fin_pre {m : Nat} {q : List (Fin m)} {i : Fin m} (h : q ++ [i] <+: List.finRange m) : ∀ j (hj : j < i.1), (⟨j, Nat.lt_trans hj i.2⟩ : Fin m) ∈ q := by
 obtain ⟨t, ht⟩ := h
 have h0 : (List.finRange m)[q.length]? = some i := by rw [← ht, List.append_assoc, List.getElem?_append_right (Nat.le_refl _), Nat.sub_self]; rfl
 have hi : i.1 = q.length := by
   obtain ⟨h1, h2⟩ := List.getElem?_eq_some_iff.1 h0
   rw [← h2]
   simp
 intro j hj
 have h1 : (List.finRange m)[j]? = some ⟨j, Nat.lt_trans hj i.2⟩ := by
   rw [List.getElem?_eq_getElem (by rw [List.length_finRange]; exact Nat.lt_trans hj i.2)]
   simp
 rw [← ht, List.append_assoc, List.getElem?_append_left (by omega)] at h1
 exact List.mem_of_getElem? h1
theorem OwnU.own {W W' : World} {row : Option Nat} {base c : Nat} {A : Option Addr} {xs : List Nat} (h : Own .u8 5 W base A c xs) (hg : W.grownBy W' row) (hr : ∀ r, row = some r → ∃ o : Obj, W.heap[r]? = some o ∧ o.isCells = false) : Own .u8 5 W' base A c xs := by
 refine World.ownsRow.kept h hg ?_
 rcases h.2 with ⟨e, _⟩ | ⟨g, cap, cur, e, _, hc, _⟩
 · left
   injection e with e1 _ _
   subst e1
   rfl
 · right
   injection e with e1 _ _
   subst e1
   intro q
   obtain ⟨o, ho, hco⟩ := hr g q.symm
   rw [hc] at ho
   injection ho with ho
   subst ho
   simp [Obj.isCells] at hco
theorem OwnU.grownR {w w' : World} {base c : Nat} {A : Option Addr} {xs : List Nat} {r : Option Nat} (h : Own .u8 5 w base A c xs) (hg : w.grownBy w' r) (hA : ∀ p, A = some p → r ≠ some p.block) : Own .u8 5 w' base A c xs := by
 refine World.ownsRow.kept h hg ?_
 cases A with
 | none => exact Or.inl rfl
 | some a => exact Or.inr (fun e => hA a rfl e.symm)
def BI (w0 Wl : World) (g k : Nat) (ks : Bool) (n p : Nat) (xs : List Ci) {m : Nat} (pre : List (Fin m)) (W : World) : Prop :=
 (∀ i ∈ pre, (bstC k p xs i.1).2 = 0) ∧ ∃ Ab cb bs Af cf fs, BL w0 Wl W g (k : Int) ks (n : Int) (p : Int) Ab cb bs Af cf fs ∧ bs.map Sl.body = pre.map (fun i => (bstC k p xs i.1).1.2) ∧ fs.map Sl.body = (if ks then pre.map (fun i => frsC p xs i.1) else [])
def BX (w0 : World) (X k p : Nat) (xs : List Ci) {m : Nat} (c : Code) (pre : List (Fin m)) (W : World) : Prop :=
 c = .ret ∧ (∃ q i, pre = q ++ [i] ∧ (∀ j ∈ q, (bstC k p xs j.1).2 = 0) ∧ (bstC k p xs i.1).2 ≠ 0 ∧ W.cell? ⟨X + 1 + 1, 0, none⟩ = some (.int .i64 (bstC k p xs i.1).2)) ∧ W.cell? ⟨X + 1, 0, none⟩ = some (.slice none 0 0) ∧ Ext w0 W
set_option maxHeartbeats 6400000 in
theorem build_in (g k : Nat) (ks : Bool) (p : Nat) (A : Option Addr) (n c : Nat) (xs : List Ci) (w0 w : World) (hf : FilC w g (k : Int) ks 0 (p : Int) (.slice none 0 0) (.slice none 0 0)) (hg : w0.heap.size ≤ g) (hE : Ext w0 w) (hx : RdX w0 A n xs) (hcx : CapX xs) (hn : n ≤ 281474976710656) (hc : n ≤ c) (hp : 1 ≤ p ∧ p ≤ 4096) (hk : k < 256) :
   CallsIn Fence.wide 5 Tryz.prog 56 #[.pointer (some ⟨g, 0, none⟩), .slice A n c] w (PEncPost (bldR k ks p xs) w0) := by
 have hl := hx.1
 obtain ⟨R, hR⟩ : ∃ R, R = bldR k ks p xs := ⟨_, rfl⟩
 rw [← hR]
 unfold bldR at hR
 rw [hl] at hR
 have hgw := hf.lt
 obtain ⟨Wa, hWa⟩ : ∃ W, W = (((w.alloc (.cells #[.pointer (some ⟨g, 0, none⟩)] 47)).alloc (.cells #[.slice none 0 0] 22)).alloc (.cells #[.int .i64 0] 26)) := ⟨_, rfl⟩
 have hEa : Ext w Wa := by rw [hWa]; exact (((Ext.refl _).alloc _).alloc _).alloc _
 have hza : Wa.heap.size = w.heap.size + 3 := by rw [hWa]; simp
 have hbx : Wa.heap[w.heap.size]? = some (.cells #[.pointer (some ⟨g, 0, none⟩)] 47) := by
   rw [hWa]
   exact (Below.heap_alloc _ _ _ (by simp <;> omega)).trans ((Below.heap_alloc _ _ _ (by simp)).trans (heap_alloc_new w _))
 have hb4 : Wa.heap[w.heap.size + 1]? = some (.cells #[.slice none 0 0] 22) := by
   rw [hWa]
   have := heap_alloc_new (w.alloc (.cells #[.pointer (some ⟨g, 0, none⟩)] 47)) (.cells #[.slice none 0 0] 22)
   rw [World.size_alloc] at this
   exact (Below.heap_alloc _ _ _ (by simp)).trans this
 have hb5 : Wa.heap[w.heap.size + 2]? = some (.cells #[.int .i64 0] 26) := by
   rw [hWa]
   have := heap_alloc_new ((w.alloc (.cells #[.pointer (some ⟨g, 0, none⟩)] 47)).alloc (.cells #[.slice none 0 0] 22)) (.cells #[.int .i64 0] 26)
   rw [World.size_alloc, World.size_alloc] at this
   exact this
 have hfa : FilC Wa g (k : Int) ks 0 (p : Int) (.slice none 0 0) (.slice none 0 0) := hf.grownR (Ext.toGrown hEa none) (by simp)
 have hcx' := cell_of_row _ w.heap.size 0 _ _ (0, 0) hbx
 have hc4 := cell_of_row _ (w.heap.size + 1) 0 _ _ (0, 0) hb4
 have hc5 := cell_of_row _ (w.heap.size + 2) 0 _ _ (0, 0) hb5
 have hz4 : Wa.frozen? ⟨w.heap.size + 1, 0, none⟩ = false := froz_row hb4
 have hz5 : Wa.frozen? ⟨w.heap.size + 2, 0, none⟩ = false := froz_row hb5
 have HBx := Lib.hid hbx
 have HB4 := Lib.hid hb4
 have HB5 := Lib.hid hb5
 have HFa := Lib.hid hfa
 have HEa := Lib.hid hEa
 have HR := Lib.hid hR
 clear hbx hb4 hb5 hR hf
 by_cases hbig : 4096 < n
 · have HRn := Lib.hid (HR.out.trans (if_pos hbig))
   have hbI : (4096 : Int) < (n : Int) := by omega
   have HWa := Lib.hid hWa
   rw [hWa] at hcx' hc4 hc5 hz4 hz5
   clear hx hfa hEa hWa
   refine callsIn_of_wp_marks Tryz.func56 rfl trivial ?_ rfl
   simp only [Tryz.ntmps56, List.size_toArray, List.length_cons, List.length_nil, Nat.reduceAdd, Nat.reduceSub, Array.replicate_succ, Array.replicate_zero, List.push_toArray, List.append_toArray, List.nil_append, List.cons_append]
   gi_wp2
   have hb4' := heap_alloc_new (w.alloc (.cells #[.pointer (some ⟨g, 0, none⟩)] 47)) (.cells #[.slice none 0 0] 22)
   have hb5' := heap_alloc_new ((w.alloc (.cells #[.pointer (some ⟨g, 0, none⟩)] 47)).alloc (.cells #[.slice none 0 0] 22)) (.cells #[.int .i64 4] 26)
   rw [World.size_alloc] at hb4'
   rw [World.size_alloc, World.size_alloc] at hb5'
   have hb4'' := (Below.heap_alloc _ (.cells #[.int .i64 4] 26) (w.heap.size + 1) (by simp)).trans hb4'
   have r4 := cell_of_row _ (w.heap.size + 1) 0 _ _ (0, 0) hb4''
   have r5 := cell_of_row _ (w.heap.size + 1 + 1) 0 _ _ (0, 0) hb5'
   refine ⟨.tuple #[.slice none 0 0, .int .i64 4], ?_, PEncPost.bad _ HRn.out (hE.trans ((((Ext.refl _).alloc _).alloc _).alloc _))⟩
   simp [results, Tryz.results56, go_sem, r4, r5]
 · have hbI : ¬ (4096 : Int) < (n : Int) := by omega
   have HRs := Lib.hid (HR.out.trans (if_neg hbig))
   have hdr := Lib.hid hx
   refine callsIn_of_wp_marks Tryz.func56 rfl trivial ?_ rfl
   simp only [Tryz.ntmps56, List.size_toArray, List.length_cons, List.length_nil, Nat.reduceAdd, Nat.reduceSub, Array.replicate_succ, Array.replicate_zero, List.push_toArray, List.append_toArray, List.nil_append, List.cons_append]
   obtain ⟨hlt, f0, f1, f2, f3, f4, f5, hfr⟩ := hfa
   have hf2 := hfr 2
   have HWa := Lib.hid hWa
   rw [hWa] at hcx' hc4 hc5 hz4 hz5 f0 f1 f2 f3 f4 f5 hf2
   clear hx hEa hWa hfr
   gi_wp2_with (refine ⟨trivial, ?_⟩; gi_at_call 91; refine (callsIn_wide.2 (chunk_any A n c p _ hp.1 hp.2)).mono ?_; rintro e w1 ⟨B1, B2, rfl, he1, l1, l2, m1, m2, c1, c2⟩)
   have hn4 : n ≤ 4096 := by omega
   obtain ⟨Wb, hWb⟩ : ∃ W, W = Wa.setCell ⟨g, 2, none⟩ (.int .i64 (n : Int)) := ⟨_, rfl⟩
   have hFb : FilC Wb g (k : Int) ks (n : Int) (p : Int) (.slice none 0 0) (.slice none 0 0) := by rw [hWb]; exact HFa.out.set2 _
   have hgb := grown_setCell Wa g 2 (.int .i64 (n : Int))
   rw [← hWb] at hgb
   have he1' : Ext Wb w1 := by rw [hWb, HWa.out]; exact he1
   have hzb : Wa.heap.size ≤ Wb.heap.size := hgb.size
   have hE1 : Ext w0 w1 := ((hE.trans HEa.out).grownB hgb (fun b e => by injection e with e; omega)).trans he1'
   have hz1 : Wb.heap.size ≤ w1.heap.size := he1'.size
   have hbB1 : w.heap.size + 3 ≤ B1 := by have := l1; rw [← HWa.out, ← hWb] at this; omega
   have hbB2 : w.heap.size + 3 ≤ B2 := by have := l2; rw [← HWa.out, ← hWb] at this; omega
   have hX0 : w1.heap[w.heap.size]? = some (.cells #[.pointer (some ⟨g, 0, none⟩)] 47) := (he1'.block _ (by omega)).trans ((hgb.block _ (by omega) (fun e => by injection e with e; omega)).trans HBx.out)
   have hX4 : w1.heap[w.heap.size + 1]? = some (.cells #[.slice none 0 0] 22) := (he1'.block _ (by omega)).trans ((hgb.block _ (by omega) (fun e => by injection e with e; omega)).trans HB4.out)
   have hX5 : w1.heap[w.heap.size + 2]? = some (.cells #[.int .i64 0] 26) := (he1'.block _ (by omega)).trans ((hgb.block _ (by omega) (fun e => by injection e with e; omega)).trans HB5.out)
   have hF1 := hFb.grownR (Ext.toGrown he1' none) (by simp)
   obtain ⟨m, hm⟩ : ∃ m, m = (n + p - 1) / p := ⟨_, rfl⟩
   have hBL0 : BL w0 w1 w1 g (k : Int) ks (n : Int) (p : Int) none 0 [] none 0 [] :=
     ⟨hE1, Nat.le_refl _, hg, by omega, by have := hE1.size; omega, fun _ _ _ => rfl, hF1, OwnS.nil _ _, OwnS.nil _ _, fun p q hp => (by cases hp), fun x hx => (by cases hx), fun x hx => (by cases hx)⟩
   have hXb : ∀ (W : World) (b : Nat) (o : Obj), (∀ b, b < w1.heap.size → b ≠ g → W.heap[b]? = w1.heap[b]?) → w.heap.size ≤ b → b < w1.heap.size → w1.heap[b]? = some o → W.heap[b]? = some o := fun W b o h1 h2 h3 h4 => (h1 b h3 (by omega)).trans h4
   clear f0 f1 f2 f3 f4 f5 hf2 hlt hcx' hc4 hc5 hz4 hz5
   refine wpIn_rangeFunc_ownG rfl (by decide) (gf := 132) (lb := #[.pointer (some ⟨B1, 0, none⟩), .pointer (some ⟨B2, 0, none⟩)]) rfl trivial (enters_of Tryz.func132 (by kernel_rfl) rfl)
     (seqC_any B1 B2 A n c p m hp.1 hp.2 hn4 hc hm w1 m1 m2 c1 c2) keep2_t (keep2_b m1 m2) (Below.refl _ _) (fun _ => rfl)
     (BI w0 w1 g k ks n p xs) (BX w0 w.heap.size k p xs)
     (fun s A B row hs hg hr => by
       obtain ⟨h1, Ab, cb, bs, Af, cf, fs, h2, h3⟩ := hs
       exact ⟨h1, Ab, cb, bs, Af, cf, fs, h2.step hg hr, h3⟩)
     (fun c s A B row hs hg hr => by
       obtain ⟨h1, ⟨q, i, h2, h3, h4, h5⟩, h6, h7⟩ := hs
       exact ⟨h1, ⟨q, i, h2, h3, h4, cell_kept h5 hg (fun r e => (hr r e).2)⟩, cell_kept h6 hg (fun r e => (hr r e).2), h7.grownB hg (fun b e => by have := (hr b e).1; have := hE1.size; omega)⟩)
     ⟨fun i hi => (by cases hi), none, 0, [], none, 0, [], hBL0, rfl, by cases ks <;> rfl⟩
     (fun x => { tmps := #[.pointer (some ⟨g, 0, none⟩), .slice A n c, .pointer (some ⟨w.heap.size, 0, none⟩), undef, .pointer (some ⟨w.heap.size + 1, 0, none⟩), .pointer (some ⟨w.heap.size + 1 + 1, 0, none⟩), chV A n p x.1, undef, undef, undef, .slice A n c, .int .i64 (n : Int), .bool false, .pointer (some ⟨g, 0, none⟩), .slice A n c, .int .i64 (n : Int), .pointer (some ⟨g, 0, none⟩), .pointer (some ⟨g, 2, none⟩), .slice A n c, .pointer (some ⟨g, 0, none⟩), .pointer (some ⟨g, 0, none⟩), .pointer (some ⟨g, 3, none⟩), .int .i64 (p : Int), .func (.func 132) #[] #[.pointer (some ⟨B1, 0, none⟩), .pointer (some ⟨B2, 0, none⟩)], chV A n p x.1, undef, undef, undef, undef, undef, undef, undef, undef, undef, undef, undef, undef, undef, undef, undef, undef, undef, undef, undef, undef, undef, undef, undef, undef, undef, undef, undef, undef, undef, undef, undef, undef, undef, undef, undef, undef, undef, undef, undef, undef, undef, undef, undef, undef], defers := [] }) ?assign ?body ?done ?stop
   case assign =>
     intro l x W K hK
     gi_wp2_with (rw [Oper.semAt_eq _ _ _ (fun c h => by cases h)]; go_simp; try go_bits)
     exact hK
   case body =>
     rintro l pre x W ⟨hpre, Ab, cb, bs, Af, cf, fs, hB, hmb, hmf⟩ hpm
     have hxm := x.2
     have hxn := chunk_lt hp.1 hm hxm
     have hch := RdX.chunk hdr.out hp.1 hxn
     have HBest := Lib.hid (fun W' (hW : Ext w0 W') => bbest_any (k : Int) (chA A n p x.1) (min p (n - x.1 * p)) (min p (n - x.1 * p)) (pcX xs p x.1) W' (hch.ext hW) (pcX_cap hcx p x.1) (by omega))
     have hbg := Lib.hid (bbest_good (k := (k : Int)) (fun v hv => by
       obtain ⟨y, hy1, rfl⟩ := List.mem_map.1 hv
       exact hdr.out.nums _ (List.mem_map_of_mem (pcX_mem hy1))) (fun y hy => (hdr.out.all y (pcX_mem hy)).u8) : (bstC k p xs x.1).2 = 0 → _)
     have hcv : chV A n p x.1 = .slice (chA A n p x.1) (min p (n - x.1 * p) : Nat) (min p (n - x.1 * p) : Nat) := rfl
     rw [hcv]
     have hpl := Lib.hid (show bs.length = pre.length from by have := congrArg List.length hmb; simpa using this)
     unfold BestPost at HBest
     obtain ⟨RR, hRR⟩ : ∃ RR, RR = bstC k p xs x.1 := ⟨_, rfl⟩
     rw [show bbestR (k : Int) (pcX xs p x.1) = RR from hRR.symm] at HBest hbg
     obtain ⟨⟨cd, bl⟩, er⟩ := RR
     simp only at HBest hbg
     have HRR := Lib.hid hRR
     have Hhx := Lib.hid hch
     have Hcx := Lib.hid hcx
     obtain ⟨z, hz⟩ : ∃ z, z = min p (n - x.1 * p) := ⟨_, rfl⟩
     have hzp : 0 < z := by omega
     obtain ⟨Ac, hAc⟩ : ∃ a, a = chA A n p x.1 := ⟨_, rfl⟩
     rw [← hz, ← hAc] at HBest ⊢
     have Hz := Lib.hid hz
     have HAc := Lib.hid hAc
     have kx := cell_of_row _ w.heap.size 0 _ _ (0, 0) (hXb W _ _ hB.kb (Nat.le_refl _) (by omega) hX0)
     have k0 := hB.fil.c0
     have hEW := hB.ext
     have HB := Lib.hid hB
     have Hmb := Lib.hid hmb
     have Hmf := Lib.hid hmf
     have Hpre := Lib.hid hpre
     clear hch hcv hRR hz hAc hB hmb hmf hpre he1 l1 l2 c1 c2 hFb hgb he1' hzb hF1 hBL0 hxn hWb
     by_cases her0 : er = 0
     rotate_left
     · have hb : (er != 0) = true := by simp [her0]
       gi_wp2_with (first
         | (refine ⟨trivial, ?_⟩; gi_at_call 36; refine (CallsIn.inRound l (callsIn_wide.2 (HBest.out _ hEW))).mono ?_; rintro e W1 ⟨Ar, cr, rfl, hor, her⟩; have hB0 := HB.out.ext' her; have kx0 := cell_of_row _ w.heap.size 0 _ _ (0, 0) (hXb W1 _ _ hB0.kb (Nat.le_refl _) (by omega) hX0); have k1 := hB0.fil.c1; have q4 := cell_of_row _ (w.heap.size + 1) 0 _ _ (0, 0) (hXb W1 _ _ hB0.kb (by omega) (by omega) hX4); have z4 : W1.frozen? ⟨w.heap.size + 1, 0, none⟩ = false := froz_row (hXb W1 _ _ hB0.kb (by omega) (by omega) hX4); have q5 := cell_of_row _ (w.heap.size + 1 + 1) 0 _ _ (0, 0) (hXb W1 _ _ hB0.kb (by omega) (by omega) hX5); have z5 : W1.frozen? ⟨w.heap.size + 1 + 1, 0, none⟩ = false := froz_row (hXb W1 _ _ hB0.kb (by omega) (by omega) hX5))
         | (rw [Oper.semAt_eq _ _ _ (fun c h => by cases h)]; go_simp; try go_bits))
       have s1 : ∀ v, (W1.setCell ⟨w.heap.size + 1, 0, none⟩ v).cell? ⟨w.heap.size + 1, 0, none⟩ = some v := fun v => World.cell?_setCell_same' _ _ _ (by rw [q4]; rfl)
       have s2 : ∀ v u, ((W1.setCell ⟨w.heap.size + 1, 0, none⟩ v).setCell ⟨w.heap.size + 1 + 1, 0, none⟩ u).cell? ⟨w.heap.size + 1, 0, none⟩ = some v := fun v u => (World.cell?_setCell_far _ _ _ _ (by simp)).trans (s1 v)
       have s3 : ∀ v u, ((W1.setCell ⟨w.heap.size + 1, 0, none⟩ v).setCell ⟨w.heap.size + 1 + 1, 0, none⟩ u).cell? ⟨w.heap.size + 1 + 1, 0, none⟩ = some u := fun v u => World.cell?_setCell_same' _ _ _ (by rw [World.cell?_setCell_far _ _ _ _ (by simp), q5]; rfl)
       have hEf : ∀ v u, Ext w0 ((W1.setCell ⟨w.heap.size + 1, 0, none⟩ v).setCell ⟨w.heap.size + 1 + 1, 0, none⟩ u) := fun v u => (hB0.ext.grownB (grown_setCell _ _ _ _) (fun b e => by injection e with e; omega)).grownB (grown_setCell _ _ _ _) (fun b e => by injection e with e; omega)
       refine ⟨((KeepsOthers.ext her).trans ((KeepsOthers.setCell _ _ _).trans (KeepsOthers.setCell _ _ _))).from _, rfl, ⟨pre, x, rfl, Hpre.out, ?_, ?_⟩, s2 _ _, hEf _ _⟩
       · rw [← HRR.out]; exact her0
       · rw [← HRR.out]; exact s3 _ _
     subst her0
     have hee : ((0 : Int) != 0) = false := by decide
     gi_wp2_with (first
       | (refine ⟨trivial, ?_⟩; gi_at_call 36; refine (CallsIn.inRound l (callsIn_wide.2 (HBest.out _ hEW))).mono ?_; rintro e W1 ⟨Ar, cr, rfl, hor, her⟩; have hB0 := HB.out.ext' her; have kx0 := cell_of_row _ w.heap.size 0 _ _ (0, 0) (hXb W1 _ _ hB0.kb (Nat.le_refl _) (by omega) hX0); have k1 := hB0.fil.c1; have q4 := cell_of_row _ (w.heap.size + 1) 0 _ _ (0, 0) (hXb W1 _ _ hB0.kb (by omega) (by omega) hX4); have z4 : W1.frozen? ⟨w.heap.size + 1, 0, none⟩ = false := froz_row (hXb W1 _ _ hB0.kb (by omega) (by omega) hX4); have q5 := cell_of_row _ (w.heap.size + 1 + 1) 0 _ _ (0, 0) (hXb W1 _ _ hB0.kb (by omega) (by omega) hX5); have z5 : W1.frozen? ⟨w.heap.size + 1 + 1, 0, none⟩ = false := froz_row (hXb W1 _ _ hB0.kb (by omega) (by omega) hX5))
       | (rw [Oper.semAt_eq _ _ _ (fun c h => by cases h)]; go_simp; try go_bits))
     have hB1 := hB0.ext' (Ext.refl W1).drew
     have kx1 : W1.drew.cell? ⟨w.heap.size, 0, none⟩ = some (.pointer (some ⟨g, 0, none⟩)) := kx0
     obtain ⟨W2, hW2⟩ : ∃ W, W = W1.drew.alloc (.cells #[.slice Ar bl.length cr] 22) := ⟨_, rfl⟩
     have hE2 : Ext W1 W2 := by rw [hW2]; exact (Ext.refl W1).drew.alloc _
     have hB2 := hB0.ext' hE2
     have kx2 : W2.cell? ⟨w.heap.size, 0, none⟩ = some (.pointer (some ⟨g, 0, none⟩)) := (hE2.cells _ _ (by have := hB0.bas; omega)).trans kx0
     have hxW2 : w.heap.size < W2.heap.size := by have := hB2.bas; omega
     obtain ⟨x1, hx1⟩ : ∃ x : Sl, x = ⟨Ar, cr, bl⟩ := ⟨_, rfl⟩
     have hgx : x1.A = Ar ∧ x1.c = cr ∧ x1.body = bl := by rw [hx1]; exact ⟨rfl, rfl, rfl⟩
     have hrx : Rd .u8 W2 x1.A x1.body.length x1.body ∧ x1.body.length ≤ x1.c ∧ x1.c ≤ 9223372036854775807 ∧ (∀ p, x1.A = some p → w1.heap.size ≤ p.block ∧ p.block < W2.heap.size ∧ (∀ q, Ab = some q → q.block ≠ p.block) ∧ (∀ q, Af = some q → q.block ≠ p.block)) := by
       rw [hgx.1, hgx.2.1, hgx.2.2]
       refine ⟨hor.rd.ext hE2, hor.cap.1, hor.cap.2, fun q hq => ?_⟩
       obtain ⟨a1, a2⟩ := hor.block q hq
       exact ⟨Nat.le_trans HB.out.bas a1, Nat.lt_of_lt_of_le a2 hE2.size, fun r hr => by have := (HB.out.own.block r hr).2; omega, fun r hr => by have := (HB.out.owf.block r hr).2; omega⟩
     rw [← hgx.1, ← hgx.2.1, ← hgx.2.2] at hW2 ⊢
     have Hgx := Lib.hid hgx
     have Hrx := Lib.hid hrx
     have hlen1 : bs.length ≤ 1048576 := by
       have h1 := hpm
       have h3 := hpl.out
       have h2 : m ≤ 4096 := by rw [hm, ← hl]; exact cnt_le hp.1 (by omega)
       omega
     have HE2 := Lib.hid hE2
     clear hgx hrx hx1 hE2
     rw [hW2] at hB2 kx2 hxW2
     refine wpIn_region_round (by kernel_rfl) (by kernel_rfl) (wpAny_of_T (S := (fun W => W.cell? ⟨w.heap.size, 0, none⟩ = some (.pointer (some ⟨g, 0, none⟩)) ∧ W.cell? ⟨g, 4, none⟩ = some (.slice Ab bs.length cb))) (late := fun j => j == 10) _ _ _ _ ?_)
     refine wpAnyT_take (i := 0) (v := ?_) rfl (by kernel_rfl) (by kernel_rfl) (by kernel_rfl) (by kernel_rfl) (fun _ _ _ h => h) (Or.inl ⟨by rfl, ?_⟩) (by exact ⟨kx1, hB1.fil.c4⟩) ?_
     rotate_left
     · (intro w hSw; (try dsimp only at hSw); (try (obtain ⟨hS1, hS2⟩ := hSw)); go_simp; (try with_reducible rfl))
     (try (simp only [Act.put, List.getElem_toArray, List.getElem_cons_zero, List.setIfInBounds_toArray, List.set_cons_zero, List.set_cons_succ]))
     refine wpAnyT_take (i := 1) (v := ?_) rfl (by kernel_rfl) (by kernel_rfl) (by kernel_rfl) (by kernel_rfl) (fun _ _ _ h => h) (Or.inl ⟨by rfl, ?_⟩) (by exact ⟨kx1, hB1.fil.c4⟩) ?_
     rotate_left
     · (intro w hSw; (try dsimp only at hSw); (try (obtain ⟨hS1, hS2⟩ := hSw)); go_simp; (try with_reducible rfl))
     (try (simp only [Act.put, List.getElem_toArray, List.getElem_cons_zero, List.getElem_cons_succ, List.setIfInBounds_toArray, List.set_cons_zero, List.set_cons_succ]))
     refine wpAnyT_take (i := 2) (v := ?_) rfl (by kernel_rfl) (by kernel_rfl) (by kernel_rfl) (by kernel_rfl) (fun _ _ _ h => h) (Or.inl ⟨by rfl, ?_⟩) (by exact ⟨kx1, hB1.fil.c4⟩) ?_
     rotate_left
     · (intro w hSw; (try dsimp only at hSw); (try (obtain ⟨hS1, hS2⟩ := hSw)); go_simp; (try with_reducible rfl))
     (try (simp only [Act.put, List.getElem_toArray, List.getElem_cons_zero, List.getElem_cons_succ, List.setIfInBounds_toArray, List.set_cons_zero, List.set_cons_succ]))
     refine wpAnyT_take (i := 3) (v := ?_) rfl (by kernel_rfl) (by kernel_rfl) (by kernel_rfl) (by kernel_rfl) (fun _ _ _ h => h) (Or.inl ⟨by rfl, ?_⟩) (by exact ⟨kx1, hB1.fil.c4⟩) ?_
     rotate_left
     · (intro w hSw; (try dsimp only at hSw); (try (obtain ⟨hS1, hS2⟩ := hSw)); go_simp; (try with_reducible rfl))
     (try (simp only [Act.put, List.getElem_toArray, List.getElem_cons_zero, List.getElem_cons_succ, List.setIfInBounds_toArray, List.set_cons_zero, List.set_cons_succ]))
     refine wpAnyT_take (i := 4) (v := ?_) rfl (by kernel_rfl) (by kernel_rfl) (by kernel_rfl) (by kernel_rfl) (fun _ _ _ h => h) (Or.inl ⟨by rfl, ?_⟩) (by exact ⟨kx1, hB1.fil.c4⟩) ?_
     rotate_left
     · (intro w hSw; (try dsimp only at hSw); (try (obtain ⟨hS1, hS2⟩ := hSw)); go_simp; (try with_reducible rfl))
     (try (simp only [Act.put, List.getElem_toArray, List.getElem_cons_zero, List.getElem_cons_succ, List.setIfInBounds_toArray, List.set_cons_zero, List.set_cons_succ]))
     refine wpAnyT_take (i := 5) (v := ?_) rfl (by kernel_rfl) (by kernel_rfl) (by kernel_rfl) (by kernel_rfl) (fun _ _ _ h => h) (Or.inl ⟨by rfl, ?_⟩) (by exact ⟨kx1, hB1.fil.c4⟩) ?_
     rotate_left
     · (intro w hSw; (try dsimp only at hSw); (try (obtain ⟨hS1, hS2⟩ := hSw)); go_simp; (try with_reducible rfl))
     (try (simp only [Act.put, List.getElem_toArray, List.getElem_cons_zero, List.getElem_cons_succ, List.setIfInBounds_toArray, List.set_cons_zero, List.set_cons_succ]))
     refine wpAnyT_step (i := 6) (by kernel_rfl) rfl rfl ?_
     go_simp
     refine ⟨by first | exact fun _ => ⟨kx2, hB2.fil.c4⟩ | exact ⟨kx2, hB2.fil.c4⟩, ?_⟩
     (try (simp only [Act.put, List.getElem_toArray, List.getElem_cons_zero, List.getElem_cons_succ, List.setIfInBounds_toArray, List.set_cons_zero, List.set_cons_succ]))
     refine wpAnyT_step (i := 7) (by kernel_rfl) rfl rfl ?_
     refine wp_pushS (base := w1.heap.size) x1 _ _ (by rfl) hB2.own _ rfl (by rfl) (by rfl) (heap_alloc_new _ _) hlen1 hB2.bas ?_
     intro A5 c5 W5 ho5 hg5 hq5 hb5
     have hF5 := hB2.fil.grownR hg5 (fun e => by obtain ⟨q9, q8, q7⟩ := Option.map_eq_some_iff.1 e; have := (hB2.own.block _ q8).1; have := hB2.hi; omega)
     have kx5 : W5.cell? ⟨w.heap.size, 0, none⟩ = some (.pointer (some ⟨g, 0, none⟩)) := (cell_blk (hg5.block _ hxW2 (fun e => by obtain ⟨q9, q8, q7⟩ := Option.map_eq_some_iff.1 e.symm; have := (hB2.own.block _ q8).1; omega))).trans kx2
     have d45 := hF5.c4
     have e45 := hF5.fr 4
     refine ⟨by first | exact fun _ => ⟨kx5, d45⟩ | exact ⟨kx5, d45⟩, ?_⟩
     (try (simp only [Act.put, List.getElem_toArray, List.getElem_cons_zero, List.getElem_cons_succ, List.setIfInBounds_toArray, List.set_cons_zero, List.set_cons_succ]))
     refine wpAnyT_step (i := 8) (by kernel_rfl) rfl rfl ?_
     go_simp
     (try (simp only [Act.put, List.getElem_toArray, List.getElem_cons_zero, List.getElem_cons_succ, List.setIfInBounds_toArray, List.set_cons_zero, List.set_cons_succ]))
     refine wpAnyT_step (i := 9) (by kernel_rfl) rfl rfl ?_
     go_simp
     (try (simp only [Act.put, List.getElem_toArray, List.getElem_cons_zero, List.getElem_cons_succ, List.setIfInBounds_toArray, List.set_cons_zero, List.set_cons_succ]))
     refine wpAnyT_step (i := 10) (by kernel_rfl) rfl rfl ?_
     go_simp
     refine wpAnyT_done (by kernel_rfl) ?_ _
     simp only [tight]
     (try (simp only [Act.put, List.getElem_toArray, List.getElem_cons_zero, List.getElem_cons_succ, List.setIfInBounds_toArray, List.set_cons_zero, List.set_cons_succ]))
     rw [← hW2] at hB2
     have HBs := Lib.hid (hB2.pushB x1 (by have := Hrx.out.1; rwa [hW2] at this ⊢) Hrx.out.2.1 Hrx.out.2.2.1 (by have := Hrx.out.2.2.2; rwa [hW2] at this ⊢) ho5 (by rw [hW2]; exact hg5) (by rw [hW2]; exact hq5))
     have hKp := Lib.hid ((KeepsOthers.ext her).trans ((KeepsOthers.ext HE2.out).trans (((hB2.own.keeps (by rw [hW2]; exact hg5)).trans (KeepsOthers.setCell W5 ⟨g, 4, none⟩ (.slice A5 (bs.length + 1) c5))))))
     obtain ⟨W6, hW6⟩ : ∃ W, W = W5.setCell ⟨g, 4, none⟩ (.slice A5 (bs.length + 1) c5) := ⟨_, rfl⟩
     rw [← hW6] at HBs hKp ⊢
     have hpb : ∀ i ∈ pre ++ [x], (bstC k p xs i.1).2 = 0 := fun i hi => by
       rcases List.mem_append.1 hi with q | q
       · exact Hpre.out i q
       · rw [List.mem_singleton.1 q, ← HRR.out]
     have Hpb := Lib.hid hpb
     have hmb2 := Lib.hid (show (bs ++ [x1]).map Sl.body = (pre ++ [x]).map (fun i => (bstC k p xs i.1).1.2) from by
       rw [List.map_append, List.map_append, Hmb.out, List.map_singleton, List.map_singleton, Hgx.out.2.2, ← HRR.out])
     have k61 := HBs.out.fil.c1
     have kx6 := cell_of_row _ w.heap.size 0 _ _ (0, 0) (hXb W6 _ _ HBs.out.kb (Nat.le_refl _) (by omega) hX0)
     clear hB2 kx2 hxW2 hF5 kx5 d45 e45 ho5 hg5 hq5 hb5 hW6 hW2 hpb hB1 kx1 hB0 kx0 k1 q4 z4 q5 z5 hor her HE2 Hrx HBest hbg k0 kx
     cases ks with
     | false =>
       have hmf2 := Lib.hid (show fs.map Sl.body = (if false = true then (pre ++ [x]).map (fun i => frsC p xs i.1) else []) from by rw [Hmf.out]; rfl)
       gi_wp2_with (rw [Oper.semAt_eq _ _ _ (fun c h => by cases h)]; go_simp; try go_bits)
       exact ⟨hKp.out.from _, ⟨(HBs.out.kb B1 m1 (by omega)).trans (HB.out.kb B1 m1 (by omega)).symm, (HBs.out.kb B2 m2 (by omega)).trans (HB.out.kb B2 m2 (by omega)).symm⟩, Hpb.out, A5, c5, bs ++ [x1], Af, cf, fs, HBs.out, hmb2.out, hmf2.out⟩
     | true =>
       have hch2 := Hhx.out
       rw [← Hz.out, ← HAc.out] at hch2
       obtain ⟨yb, yo, y, hAy, hyb, hyj, yc0, yc1, yc2, hyin⟩ := hch2.at_ hzp
       have hyx := pcX_zero hp.1 hyj
       obtain ⟨hym, hyf⟩ := pcX_first hp.1 hyx
       have hyc := Hcx.out y (List.mem_of_getElem? hyx)
       have hyr := hyin.rd
       have hyl : 0 < y.txt.length → ∀ q, y.A = some q → q.block < w0.heap.size := fun h0 q hq => hyr.lt h0 q hq
       obtain ⟨ynul, ynum, yA, yk, yt⟩ := y
       simp only [Nat.zero_mul, Nat.add_zero] at yc2 hyf hyc hyr hyl
       have hmf2 := Lib.hid (show (fs ++ [(⟨yA, yk, yt⟩ : Sl)]).map Sl.body = (if true = true then (pre ++ [x]).map (fun i => frsC p xs i.1) else []) from by
         rw [if_pos rfl, List.map_append, List.map_append, Hmf.out, if_pos rfl, List.map_singleton, List.map_singleton, hyf])
       have KY := Lib.hid (fun W (hW : Ext w0 W) => (hW.cells _ _ hyb).trans yc2)
       have Hyr := Lib.hid hyr
       have Hyl := Lib.hid hyl
       have hfl : fs.length = pre.length := by have := congrArg List.length Hmf.out; rw [if_pos rfl] at this; simpa using this
       have hlen7 : fs.length ≤ 1048576 := by have := hpl.out; omega
       have hzI : (0 : Int) < (z : Int) := by omega
       have ky6 := KY.out W6 HBs.out.ext
       clear hch2 yc0 yc1 yc2 hyin hyj hyx hym hyf hyr hyl hfl
       subst hAy
       gi_wp2_with (rw [Oper.semAt_eq _ _ _ (fun c h => by cases h)]; go_simp; try go_bits)
       have hB7 := HBs.out.ext' (Ext.refl W6).drew
       have kx7 : W6.drew.cell? ⟨w.heap.size, 0, none⟩ = some (.pointer (some ⟨g, 0, none⟩)) := kx6
       have ky7 : W6.drew.cell? ⟨yb, yo + 2, none⟩ = some (.slice yA yt.length yk) := ky6
       obtain ⟨W8, hW8⟩ : ∃ W, W = W6.drew.alloc (.cells #[.slice yA yt.length yk] 22) := ⟨_, rfl⟩
       have hE8 : Ext W6 W8 := by rw [hW8]; exact (Ext.refl W6).drew.alloc _
       have hB8 := HBs.out.ext' hE8
       have kx8 : W8.cell? ⟨w.heap.size, 0, none⟩ = some (.pointer (some ⟨g, 0, none⟩)) := (hE8.cells _ _ (by have := HBs.out.bas; omega)).trans kx6
       have ky8 := KY.out W8 hB8.ext
       have hxW8 : w.heap.size < W8.heap.size := by have := hB8.bas; omega
       have hyW2 : yb < W8.heap.size := by have := hB8.ext.size; omega
       have hr8 := Lib.hid (Hyr.out.ext hB8.ext)
       have HE8 := Lib.hid hE8
       clear hE8
       rw [hW8] at hB8 kx8 ky8 hxW8 hyW2
       refine wpIn_region_round (by kernel_rfl) (by kernel_rfl) (wpAny_of_T (S := (fun W => W.cell? ⟨w.heap.size, 0, none⟩ = some (.pointer (some ⟨g, 0, none⟩)) ∧ W.cell? ⟨g, 5, none⟩ = some (.slice Af fs.length cf) ∧ W.cell? ⟨yb, yo + 2, none⟩ = some (.slice yA yt.length yk))) (late := fun j => j == 13) _ _ _ _ ?_)
       refine wpAnyT_take (i := 0) (v := ?_) rfl (by kernel_rfl) (by kernel_rfl) (by kernel_rfl) (by kernel_rfl) (fun _ _ _ h => h) (Or.inl ⟨by rfl, ?_⟩) (by exact ⟨kx7, hB7.fil.c5, ky7⟩) ?_
       rotate_left
       · (intro w hSw; (try dsimp only at hSw); (try (obtain ⟨hS1, hS2, hS3⟩ := hSw)); go_simp; (try with_reducible rfl))
       (try (simp only [Act.put, List.getElem_toArray, List.getElem_cons_zero, List.setIfInBounds_toArray, List.set_cons_zero, List.set_cons_succ]))
       refine wpAnyT_take (i := 1) (v := ?_) rfl (by kernel_rfl) (by kernel_rfl) (by kernel_rfl) (by kernel_rfl) (fun _ _ _ h => h) (Or.inl ⟨by rfl, ?_⟩) (by exact ⟨kx7, hB7.fil.c5, ky7⟩) ?_
       rotate_left
       · (intro w hSw; (try dsimp only at hSw); (try (obtain ⟨hS1, hS2, hS3⟩ := hSw)); go_simp; (try with_reducible rfl))
       (try (simp only [Act.put, List.getElem_toArray, List.getElem_cons_zero, List.getElem_cons_succ, List.setIfInBounds_toArray, List.set_cons_zero, List.set_cons_succ]))
       refine wpAnyT_take (i := 2) (v := ?_) rfl (by kernel_rfl) (by kernel_rfl) (by kernel_rfl) (by kernel_rfl) (fun _ _ _ h => h) (Or.inl ⟨by rfl, ?_⟩) (by exact ⟨kx7, hB7.fil.c5, ky7⟩) ?_
       rotate_left
       · (intro w hSw; (try dsimp only at hSw); (try (obtain ⟨hS1, hS2, hS3⟩ := hSw)); go_simp; (try with_reducible rfl))
       (try (simp only [Act.put, List.getElem_toArray, List.getElem_cons_zero, List.getElem_cons_succ, List.setIfInBounds_toArray, List.set_cons_zero, List.set_cons_succ]))
       refine wpAnyT_take (i := 3) (v := ?_) rfl (by kernel_rfl) (by kernel_rfl) (by kernel_rfl) (by kernel_rfl) (fun _ _ _ h => h) (Or.inl ⟨by rfl, ?_⟩) (by exact ⟨kx7, hB7.fil.c5, ky7⟩) ?_
       rotate_left
       · (intro w hSw; (try dsimp only at hSw); (try (obtain ⟨hS1, hS2, hS3⟩ := hSw)); go_simp; (try with_reducible rfl))
       (try (simp only [Act.put, List.getElem_toArray, List.getElem_cons_zero, List.getElem_cons_succ, List.setIfInBounds_toArray, List.set_cons_zero, List.set_cons_succ]))
       refine wpAnyT_take (i := 4) (v := ?_) rfl (by kernel_rfl) (by kernel_rfl) (by kernel_rfl) (by kernel_rfl) (fun _ _ _ h => h) (Or.inl ⟨by rfl, ?_⟩) (by exact ⟨kx7, hB7.fil.c5, ky7⟩) ?_
       rotate_left
       · (intro w hSw; (try dsimp only at hSw); (try (obtain ⟨hS1, hS2, hS3⟩ := hSw)); go_simp; (try with_reducible rfl))
       (try (simp only [Act.put, List.getElem_toArray, List.getElem_cons_zero, List.getElem_cons_succ, List.setIfInBounds_toArray, List.set_cons_zero, List.set_cons_succ]))
       refine wpAnyT_take (i := 5) (v := ?_) rfl (by kernel_rfl) (by kernel_rfl) (by kernel_rfl) (by kernel_rfl) (fun _ _ _ h => h) (Or.inl ⟨by rfl, ?_⟩) (by exact ⟨kx7, hB7.fil.c5, ky7⟩) ?_
       rotate_left
       · (intro w hSw; (try dsimp only at hSw); (try (obtain ⟨hS1, hS2, hS3⟩ := hSw)); go_simp; (try with_reducible rfl))
       (try (simp only [Act.put, List.getElem_toArray, List.getElem_cons_zero, List.getElem_cons_succ, List.setIfInBounds_toArray, List.set_cons_zero, List.set_cons_succ]))
       refine wpAnyT_take (i := 6) (v := ?_) rfl (by kernel_rfl) (by kernel_rfl) (by kernel_rfl) (by kernel_rfl) (fun _ _ _ h => h) (Or.inl ⟨by rfl, ?_⟩) (by exact ⟨kx7, hB7.fil.c5, ky7⟩) ?_
       rotate_left
       · (intro w hSw; (try dsimp only at hSw); (try (obtain ⟨hS1, hS2, hS3⟩ := hSw)); go_simp; (try with_reducible rfl))
       (try (simp only [Act.put, List.getElem_toArray, List.getElem_cons_zero, List.getElem_cons_succ, List.setIfInBounds_toArray, List.set_cons_zero, List.set_cons_succ]))
       refine wpAnyT_take (i := 7) (v := ?_) rfl (by kernel_rfl) (by kernel_rfl) (by kernel_rfl) (by kernel_rfl) (fun _ _ _ h => h) (Or.inl ⟨by rfl, ?_⟩) (by exact ⟨kx7, hB7.fil.c5, ky7⟩) ?_
       rotate_left
       · (intro w hSw; (try dsimp only at hSw); (try (obtain ⟨hS1, hS2, hS3⟩ := hSw)); go_simp; (try with_reducible rfl))
       (try (simp only [Act.put, List.getElem_toArray, List.getElem_cons_zero, List.getElem_cons_succ, List.setIfInBounds_toArray, List.set_cons_zero, List.set_cons_succ]))
       refine wpAnyT_take (i := 8) (v := ?_) rfl (by kernel_rfl) (by kernel_rfl) (by kernel_rfl) (by kernel_rfl) (fun _ _ _ h => h) (Or.inl ⟨by rfl, ?_⟩) (by exact ⟨kx7, hB7.fil.c5, ky7⟩) ?_
       rotate_left
       · (intro w hSw; (try dsimp only at hSw); (try (obtain ⟨hS1, hS2, hS3⟩ := hSw)); go_simp; (try with_reducible rfl))
       (try (simp only [Act.put, List.getElem_toArray, List.getElem_cons_zero, List.getElem_cons_succ, List.setIfInBounds_toArray, List.set_cons_zero, List.set_cons_succ]))
       refine wpAnyT_step (i := 9) (by kernel_rfl) rfl rfl ?_
       go_simp
       refine ⟨by first | exact fun _ => ⟨kx8, hB8.fil.c5, ky8⟩ | exact ⟨kx8, hB8.fil.c5, ky8⟩, ?_⟩
       (try (simp only [Act.put, List.getElem_toArray, List.getElem_cons_zero, List.getElem_cons_succ, List.setIfInBounds_toArray, List.set_cons_zero, List.set_cons_succ]))
       refine wpAnyT_step (i := 10) (by kernel_rfl) rfl rfl ?_
       refine wp_pushS (base := w1.heap.size) (⟨yA, yk, yt⟩ : Sl) _ _ (by rfl) hB8.owf _ rfl (by rfl) (by rfl) (heap_alloc_new _ _) hlen7 hB8.bas ?_
       intro A9 c9 W9 ho9 hg9 hq9 hb9
       have hF5 := hB8.fil.grownR hg9 (fun e => by obtain ⟨q9, q8, q7⟩ := Option.map_eq_some_iff.1 e; have := (hB8.owf.block _ q8).1; have := hB8.hi; omega)
       have kx5 : W9.cell? ⟨w.heap.size, 0, none⟩ = some (.pointer (some ⟨g, 0, none⟩)) := (cell_blk (hg9.block _ hxW8 (fun e => by obtain ⟨q9, q8, q7⟩ := Option.map_eq_some_iff.1 e.symm; have := (hB8.owf.block _ q8).1; omega))).trans kx8
       have ky5 : W9.cell? ⟨yb, yo + 2, none⟩ = some (.slice yA yt.length yk) := (cell_blk (hg9.block _ hyW2 (fun e => by obtain ⟨q9, q8, q7⟩ := Option.map_eq_some_iff.1 e.symm; have := (hB8.owf.block _ q8).1; omega))).trans ky8
       have d45 := hF5.c5
       have e45 := hF5.fr 5
       refine ⟨by first | exact fun _ => ⟨kx5, d45, ky5⟩ | exact ⟨kx5, d45, ky5⟩, ?_⟩
       (try (simp only [Act.put, List.getElem_toArray, List.getElem_cons_zero, List.getElem_cons_succ, List.setIfInBounds_toArray, List.set_cons_zero, List.set_cons_succ]))
       refine wpAnyT_step (i := 11) (by kernel_rfl) rfl rfl ?_
       go_simp
       (try (simp only [Act.put, List.getElem_toArray, List.getElem_cons_zero, List.getElem_cons_succ, List.setIfInBounds_toArray, List.set_cons_zero, List.set_cons_succ]))
       refine wpAnyT_step (i := 12) (by kernel_rfl) rfl rfl ?_
       go_simp
       (try (simp only [Act.put, List.getElem_toArray, List.getElem_cons_zero, List.getElem_cons_succ, List.setIfInBounds_toArray, List.set_cons_zero, List.set_cons_succ]))
       refine wpAnyT_step (i := 13) (by kernel_rfl) rfl rfl ?_
       go_simp
       refine wpAnyT_done (by kernel_rfl) ?_ _
       simp only [tight]
       (try (simp only [Act.put, List.getElem_toArray, List.getElem_cons_zero, List.getElem_cons_succ, List.setIfInBounds_toArray, List.set_cons_zero, List.set_cons_succ]))
       rw [← hW8] at hB8
       have HBt := Lib.hid (hB8.pushF (⟨yA, yk, yt⟩ : Sl) hr8.out hyc.1 hyc.2 Hyl.out ho9 (by rw [hW8]; exact hg9) (by rw [hW8]; exact hq9))
       have hKq := Lib.hid (hKp.out.trans ((KeepsOthers.ext HE8.out).trans (((hB8.owf.keeps (by rw [hW8]; exact hg9)).trans (KeepsOthers.setCell W9 ⟨g, 5, none⟩ (.slice A9 (fs.length + 1) c9))))))
       obtain ⟨W10, hW10⟩ : ∃ W, W = W9.setCell ⟨g, 5, none⟩ (.slice A9 (fs.length + 1) c9) := ⟨_, rfl⟩
       rw [← hW10] at HBt hKq ⊢
       clear hB8 kx8 ky8 hxW8 hyW2 hF5 kx5 ky5 d45 e45 ho9 hg9 hq9 hb9 hW10 hW8 hB7 kx7 ky7 kx6 ky6 k61
       gi_wp2_with (rw [Oper.semAt_eq _ _ _ (fun c h => by cases h)]; go_simp; try go_bits)
       exact ⟨hKq.out.from _, ⟨(HBt.out.kb B1 m1 (by omega)).trans (HB.out.kb B1 m1 (by omega)).symm, (HBt.out.kb B2 m2 (by omega)).trans (HB.out.kb B2 m2 (by omega)).symm⟩, Hpb.out, A5, c5, bs ++ [x1], A9, c9, fs ++ [(⟨yA, yk, yt⟩ : Sl)], HBt.out, hmb2.out, hmf2.out⟩
   case done =>
     rintro D ys W hD rfl ⟨hall, Ab, cb, bs, Af, cf, fs, hB, hmb, hmf⟩ hKd
     have hm' : cntC p xs = m := by unfold cntC; rw [hl, hm]
     have herr : ∀ i, i < cntC p xs → (bstC k p xs i).2 = 0 := fun i hi => hall ⟨i, by omega⟩ (List.mem_finRange _)
     have hfz : fstE (fun i => (bstC k p xs i).2) (cntC p xs) = 0 := fstE_zero.2 herr
     have hRw := Lib.hid (HRs.out.trans (if_neg (fun q => q hfz)))
     have hfm : FilR W g (fileC k ks p xs) := hB.rd _ rfl rfl (by show (n : Int) = ((xs.length : Nat) : Int); rw [hl]) rfl
       (by rw [hmb, fin_range (fun i => (bstC k p xs i).1.2), ← hm']; rfl) (by rw [hmf, fin_range (fun i => frsC p xs i), ← hm']; rfl)
     have hok : FlB (fileC k ks p xs) := fileC_ok hk hp (by omega) hdr.out.nums (fun x hx => (hdr.out.all x hx).u8) herr
     have HWr := Lib.hid (writeC_any g (fileC k ks p xs) W hfm hok)
     rw [← hRw.out] at HWr
     unfold PEncPost at HWr
     have kx := cell_of_row _ w.heap.size 0 _ _ (0, 0) (hXb W _ _ hB.kb (Nat.le_refl _) (by omega) hX0)
     have hDl := (Array.getElem?_eq_some_iff.1 hKd).1
     have HB := Lib.hid hB
     have HKd := Lib.hid hKd
     have hbas := hB.bas
     have hw0l := hB.w0l
     clear hall hmb hmf herr hfz hfm hok hKd hB
     gi_wp2_with (first
       | (refine ⟨trivial, ?_⟩; gi_at_call 92; refine (callsIn_wide.2 HWr.out).mono ?_; rintro e W1 ⟨A1, c1', rfl, ho1, he1⟩; have hB0 := HB.out.ext' he1; have q4 := cell_of_row _ (w.heap.size + 1) 0 _ _ (0, 0) (hXb W1 _ _ hB0.kb (by omega) (by omega) hX4); have z4 : W1.frozen? ⟨w.heap.size + 1, 0, none⟩ = false := froz_row (hXb W1 _ _ hB0.kb (by omega) (by omega) hX4); have q5 := cell_of_row _ (w.heap.size + 1 + 1) 0 _ _ (0, 0) (hXb W1 _ _ hB0.kb (by omega) (by omega) hX5); have z5 : W1.frozen? ⟨w.heap.size + 1 + 1, 0, none⟩ = false := froz_row (hXb W1 _ _ hB0.kb (by omega) (by omega) hX5))
       | fail)
     have hz1' := he1.size
     obtain ⟨W2, hW2⟩ : ∃ W, W = (W1.setCell ⟨w.heap.size + 1, 0, none⟩ (.slice A1 R.1.length c1')).setCell ⟨w.heap.size + 1 + 1, 0, none⟩ (.int .i64 R.2) := ⟨_, rfl⟩
     have ga := grown_setCell W1 (w.heap.size + 1) 0 (.slice A1 R.1.length c1')
     have gb := grown_setCell (W1.setCell ⟨w.heap.size + 1, 0, none⟩ (.slice A1 R.1.length c1')) (w.heap.size + 1 + 1) 0 (.int .i64 R.2)
     have hD2 : W2.heap[D]? = some (.deferred (some [])) := by
       rw [hW2]
       exact (gb.block D (by have := ga.size; omega) (fun e => by injection e with e; omega)).trans ((ga.block D (by omega) (fun e => by injection e with e; omega)).trans ((he1.block D hDl).trans HKd.out))
     have s4 : W2.cell? ⟨w.heap.size + 1, 0, none⟩ = some (.slice A1 R.1.length c1') := by
       rw [hW2]
       exact (World.cell?_setCell_far _ _ _ _ (by simp)).trans (World.cell?_setCell_same' _ _ _ (by rw [q4]; rfl))
     have s5 : W2.cell? ⟨w.heap.size + 1 + 1, 0, none⟩ = some (.int .i64 R.2) := by
       rw [hW2]
       exact World.cell?_setCell_same' _ _ _ (by rw [World.cell?_setCell_far _ _ _ _ (by simp), q5]; rfl)
     have hE2 : Ext w0 W2 := by
       rw [hW2]
       exact ((hB0.ext.grownB ga (fun b e => by injection e with e; omega)).grownB gb (fun b e => by injection e with e; omega))
     have ho2 : Own .u8 5 W2 w0.heap.size A1 c1' R.1 := by
       rw [hW2]
       exact OwnU.grownR (OwnU.grownR (ho1.mono (base' := w0.heap.size) (by omega)) ga (fun q hq e => by injection e with e; have := (ho1.block q hq).1; omega)) gb (fun q hq e => by injection e with e; have := (ho1.block q hq).1; omega)
     rw [← hW2]
     have gd := grownBy_putObj' W2 D (.deferred none)
     have f4 := cell_kept s4 gd (fun r e => by cases e; exact ⟨_, hD2, rfl⟩)
     have f5 := cell_kept s5 gd (fun r e => by cases e; exact ⟨_, hD2, rfl⟩)
     refine ⟨by simp, .inl ⟨_, _, rfl, run_takeDeferred hD2, ?_⟩⟩
     refine ⟨.tuple #[.slice A1 R.1.length c1', .int .i64 R.2], ?_, A1, c1', rfl, OwnU.own ho2 gd (fun r e => by cases e; exact ⟨_, hD2, rfl⟩), hE2.grownB gd (fun b e => by injection e with e; omega)⟩
     simp [results, Tryz.results56, go_sem, f4, f5]
   case stop =>
     rintro D c' pre W hD hpre ⟨rfl, ⟨q, i, rfl, hq, hne, h5⟩, h4, hE'⟩ hKd
     have hm' : cntC p xs = m := by unfold cntC; rw [hl, hm]
     have hfst : fstE (fun i => (bstC k p xs i).2) (cntC p xs) = (bstC k p xs i.1).2 := fstE_first (j := i.1) (fun j hj => hq ⟨j, by omega⟩ (fin_pre hpre j hj)) (by omega) hne
     have hRn := Lib.hid (HRs.out.trans (if_pos (by rw [hfst]; exact hne)))
     rw [hfst] at hRn
     obtain ⟨er, her⟩ : ∃ er, er = (bstC k p xs i.1).2 := ⟨_, rfl⟩
     rw [← her] at h5 hRn
     have hw0l := hE'.size
     have hw01 := hE1.size
     clear hfst her hne hq hpre
     gi_wp2
     have gd := grownBy_putObj' W D (.deferred none)
     have f4 := cell_kept h4 gd (fun r e => by cases e; exact ⟨_, hKd, rfl⟩)
     have f5 := cell_kept h5 gd (fun r e => by cases e; exact ⟨_, hKd, rfl⟩)
     refine ⟨by simp, .inl ⟨_, _, rfl, run_takeDeferred hKd, ?_⟩⟩
     refine ⟨.tuple #[.slice none 0 0, .int .i64 er], ?_, PEncPost.bad _ hRn.out (hE'.grownB gd (fun b e => by injection e with e; omega))⟩
     simp [results, Tryz.results56, go_sem, f4, f5]
theorem buildC_any (g k : Nat) (ks : Bool) (p : Nat) (A : Option Addr) (n c : Nat) (xs : List Ci) (w0 w : World) (hf : FilC w g (k : Int) ks 0 (p : Int) (.slice none 0 0) (.slice none 0 0)) (hg : w0.heap.size ≤ g) (hE : Ext w0 w) (hx : RdX w0 A n xs) (hcx : CapX xs) (hn : n ≤ 281474976710656) (hc : n ≤ c) (hp : 1 ≤ p ∧ p ≤ 4096) (hk : k < 256) :
   Calls Tryz.prog 56 #[.pointer (some ⟨g, 0, none⟩), .slice A n c] w (PEncPost (bldR k ks p xs) w0) :=
 callsIn_wide.1 (build_in g k ks p A n c xs w0 w hf hg hE hx hcx hn hc hp hk)
def buildR (kind per : Int) (xs : List Ci) : List Nat × Int := if kindK kind = false ∨ perK per = false then ([], 1) else bldR kind.toNat false per.toNat xs
set_option maxHeartbeats 1600000 in
theorem pbuild_any (kind per : Int) (A : Option Addr) (n c : Nat) (xs : List Ci) (w : World) (hx : RdX w A n xs) (hcx : CapX xs) (hn : n ≤ 281474976710656) (hc : n ≤ c) :
   Calls Tryz.prog 19 #[.int .i64 kind, .int .i64 per, .slice A n c] w (PEncPost (buildR kind per xs) w) := by
 obtain ⟨R, hR⟩ : ∃ R, R = buildR kind per xs := ⟨_, rfl⟩
 rw [← hR]
 unfold buildR at hR
 have HK := Lib.hid (fun W => isKindC_any kind W)
 have HP := Lib.hid (fun W => isPerC_any per W)
 cases hk : kindK kind with
 | false =>
   rw [hk, if_pos (.inl rfl)] at hR
   rw [hk] at HK
   have HR := Lib.hid hR
   clear hR hx hcx
   go_enter Tryz.func19, Tryz.ntmps19
   go_wp2_with fail
   refine (HK.out _).mono ?_
   rintro e w1 ⟨rfl, he1⟩
   go_wp2_with fail
   go_ret2
   exact PEncPost.bad _ HR.out he1
 | true =>
   cases hp : perK per with
   | false =>
     rw [hk, hp, if_pos (.inr rfl)] at hR
     rw [hk] at HK
     rw [hp] at HP
     have HR := Lib.hid hR
     clear hR hx hcx
     go_enter Tryz.func19, Tryz.ntmps19
     go_wp2_with fail
     refine (HK.out _).mono ?_
     rintro e w1 ⟨rfl, he1⟩
     go_wp2_with fail
     refine (HP.out _).mono ?_
     rintro e w2 ⟨rfl, rfl⟩
     go_wp2_with fail
     go_ret2
     exact PEncPost.bad _ HR.out he1
   | true =>
     rw [hk, hp, if_neg (by simp)] at hR
     have hk2 : 1 ≤ kind ∧ kind ≤ 8 := of_decide_eq_true hk
     have hp2 : 1 ≤ per ∧ per ≤ 4096 := of_decide_eq_true hp
     rw [hk] at HK
     rw [hp] at HP
     obtain ⟨k, rfl⟩ := Int.eq_ofNat_of_zero_le (show 0 ≤ kind by omega)
     obtain ⟨p, rfl⟩ := Int.eq_ofNat_of_zero_le (show 0 ≤ per by omega)
     rw [Int.toNat_natCast, Int.toNat_natCast] at hR
     have HB := Lib.hid (fun W (hW : Ext w W) => buildC_any W.heap.size k false p A n c xs w (W.alloc (.cells #[.int .i64 (k : Int), .bool false, .int .i64 0, .int .i64 (p : Int), .slice none 0 0, .slice none 0 0] 82))
       (FilC.made W (k : Int) false 0 (p : Int) (.slice none 0 0) (.slice none 0 0) _) hW.size (hW.alloc _) hx hcx hn hc (by omega) (by omega))
     rw [← hR] at HB
     unfold PEncPost at HB
     clear hR hx hcx
     go_enter Tryz.func19, Tryz.ntmps19
     go_wp2_with fail
     refine (HK.out _).mono ?_
     rintro e w1 ⟨rfl, he1⟩
     go_wp2_with fail
     refine (HP.out _).mono ?_
     rintro e w2 ⟨rfl, rfl⟩
     go_wp2_with fail
     refine (HB.out _ he1).mono ?_
     rintro e w3 ⟨A3, c3, rfl, ho3, he3⟩
     go_wp2_with fail
     go_ret2
     exact ⟨A3, c3, rfl, ho3, he3⟩
def keyCi (s : Sl) : Ci := ⟨false, 0, s.A, s.c, s.body⟩
def keysR (per : Int) (ss : List Sl) : List Nat × Int := if perK per = false ∨ ¬ riseP (bodies ss) ss.length then ([], 1) else bldR 8 true per.toNat (ss.map keyCi)
theorem xcells_set2 : ∀ (xs : List Ci) (j : Nat) (x : Ci) (A : Option Addr) (c : Nat) (t : List Nat), xs[j]? = some x → (xcells xs).set (j * 3 + 2) (.slice A t.length c) = xcells (xs.set j ⟨x.nul, x.num, A, c, t⟩)
 | [], j, x, _, _, _, h => by simp at h
 | y :: r, 0, x, _, _, _, h => by
   simp at h
   subst h
   rfl
 | y :: r, j + 1, x, A, c, t, h => by
   have ih := xcells_set2 r j x A c t (by simpa using h)
   have hc : ∀ (z : Ci) (zs : List Ci), xcells (z :: zs) = z.cells ++ xcells zs := fun z zs => by simp [xcells]
   rw [List.set_cons_succ, hc, hc, ← ih, List.set_append_right _ _ (by show 3 ≤ _; omega)]
   congr 2
   show (j + 1) * 3 + 2 - 3 = j * 3 + 2
   omega
theorem OwnX.setTxt {w : World} {base c : Nat} {xs : List Ci} {g : Nat} (h : OwnX w base (some ⟨g, 0, none⟩) c xs) {j : Nat} {x : Ci} (hj : xs[j]? = some x) (A : Option Addr) (ct : Nat) (t : List Nat) :
   w.cell? ⟨g, j * 3 + 2, none⟩ = some (.slice x.A x.txt.length x.c) ∧ w.frozen? ⟨g, j * 3 + 2, none⟩ = false ∧ OwnX (w.setCell ⟨g, j * 3 + 2, none⟩ (.slice A t.length ct)) base (some ⟨g, 0, none⟩) c (xs.set j ⟨x.nul, x.num, A, ct, t⟩) ∧ w.grownBy (w.setCell ⟨g, j * 3 + 2, none⟩ (.slice A t.length ct)) (some g) := by
 have h0 := h
 unfold OwnX at h0
 have hjl : j < xs.length := (List.getElem?_eq_some_iff.1 hj).1
 obtain ⟨a1, b1⟩ := World.ownsRow.stored h0 (j * 3 + 2) (.slice A t.length ct)
 refine ⟨?_, World.ownsRow.frozenAt h0 _, ?_, b1⟩
 · rw [World.ownsRow.cellAt h0 _ (by omega)]
   exact (xcells_at hj 2 (by omega)).trans rfl
 · unfold OwnX
   rw [List.length_set, ← xcells_set2 xs j x A ct t hj]
   exact a1
set_option maxHeartbeats 3200000 in
theorem pkeys_any (per : Int) (A : Option Addr) (n c : Nat) (ss : List Sl) (w : World) (hx : TxL w A n ss) (hn : n ≤ 4398046511104) (hlen : ∀ s ∈ ss, s.body.length ≤ 140737488351232) :
   Calls Tryz.prog 21 #[.int .i64 per, .slice A n c] w (PEncPost (keysR per ss) w) := by
 obtain ⟨R, hR⟩ : ∃ R, R = keysR per ss := ⟨_, rfl⟩
 rw [← hR]
 unfold keysR at hR
 have hl := hx.len
 have Hlen := Lib.hid hlen
 clear hlen
 have HP := Lib.hid (fun W => isPerC_any per W)
 have hss : RdSS w A n (bodies ss) := rdL_ss hx.1 (fun x h => (hx.2 x h).rd)
 have hu8 : U8s (bodies ss) := fun t ht => by
   obtain ⟨s, hs, rfl⟩ := List.mem_map.1 ht
   exact (hx.2 s hs).u8
 have HRi := Lib.hid (riseC_any A n c (bodies ss) w hss hu8 (by omega))
 rw [hl] at hR
 obtain ⟨B, hB⟩ : ∃ B, B = decide (riseP (bodies ss) n) := ⟨_, rfl⟩
 rw [← hB] at HRi
 have HB := Lib.hid hB
 clear hB hss hu8
 cases hp : perK per with
 | false =>
   rw [hp, if_pos (.inl rfl)] at hR
   rw [hp] at HP
   have HR := Lib.hid hR
   clear hR hx HRi HB
   go_enter Tryz.func21, Tryz.ntmps21
   go_wp2_with fail
   refine (HP.out _).mono ?_
   rintro e w1 ⟨rfl, rfl⟩
   go_wp2_with fail
   go_ret2
   exact PEncPost.bad _ HR.out (Ext.refl _)
 | true =>
   rw [hp] at HP
   cases B with
   | false =>
     rw [if_pos (.inr (of_decide_eq_false HB.out.symm))] at hR
     have HR := Lib.hid hR
     clear hR hx HB
     go_enter Tryz.func21, Tryz.ntmps21
     go_wp2_with fail
     refine (HP.out _).mono ?_
     rintro e w1 ⟨rfl, rfl⟩
     go_wp2_with fail
     refine HRi.out.mono ?_
     rintro e w1 ⟨rfl, he1⟩
     go_wp2_with fail
     go_ret2
     exact PEncPost.bad _ HR.out he1
   | true =>
     rw [hp, if_neg (by rintro (q | q); exact absurd q (by decide); exact q (of_decide_eq_true HB.out.symm))] at hR
     have hp2 : 1 ≤ per ∧ per ≤ 4096 := of_decide_eq_true hp
     obtain ⟨p, rfl⟩ := Int.eq_ofNat_of_zero_le (show 0 ≤ per by omega)
     rw [Int.toNat_natCast] at hR
     have HR := Lib.hid hR
     have Hx := Lib.hid hx
     have Hl := Lib.hid hl
     clear hR hx HB hp
     go_enter Tryz.func21, Tryz.ntmps21
     go_wp2_with fail
     refine (HP.out _).mono ?_
     rintro e w1 ⟨rfl, rfl⟩
     go_wp2_with fail
     refine HRi.out.mono ?_
     rintro e w1 ⟨rfl, he1⟩
     go_wp2_with (refine wpList_mkX rfl (.tmp 18) (.tmp 18) rfl .i64 .i64 n rfl rfl rfl rfl (by omega) ?_; intro w2 hown2 he2)
     obtain ⟨g, hg⟩ : ∃ g, g = w1.heap.size := ⟨_, rfl⟩
     rw [← hg] at hown2 ⊢
     have hgw : w.heap.size ≤ g := by rw [hg]; exact he1.size
     have H2 := Lib.hid (show OwnX w2 g (some ⟨g, 0, none⟩) n ((ss.take 0).map keyCi ++ List.replicate (n - 0) Ci.none) from hown2)
     have HE2 := Lib.hid (he1.trans he2)
     clear hg hown2 he2 he1 HRi HP
     go_loopw [7, 8, 22] (fun _ _ i wr => ∃ (j : Nat), j ≤ n ∧ i = .int .i64 j ∧ Hid (OwnX wr g (some ⟨g, 0, none⟩) n ((ss.take j).map keyCi ++ List.replicate (n - j) Ci.none)) ∧ Hid (Ext w wr)) (fun _ _ i _ => n - (intOf i).toNat)
     case atStart => exact ⟨0, Nat.zero_le _, rfl, H2.out, HE2.out⟩
     case round =>
       clear H2 HE2
       obtain ⟨j, hj, rfl, HO, HE⟩ := hrel
       by_cases hlt : j < n
       · obtain ⟨b, o, s, rfl, hf, hcc⟩ := (Hx.out.1.ext HE.out).at_ hlt
         have hrep : n - j = (n - (j + 1)) + 1 := by omega
         have hown := HO.out
         rw [hrep] at hown
         have hlj : ((ss.take j).map keyCi).length = j := by rw [List.length_map, List.length_take, Hl.out]; omega
         have hnone : ((ss.take j).map keyCi ++ List.replicate (n - (j + 1) + 1) Ci.none)[j]? = some Ci.none := by
           rw [List.getElem?_append_right (by rw [hlj]; exact Nat.le_refl _), hlj, Nat.sub_self]; rfl
         obtain ⟨q1, q2, q3, q4⟩ := hown.setTxt hnone s.A s.c s.body
         have q5 := set_mid (m := n - (j + 1)) (z := Ci.none) (y := (⟨Ci.none.nul, Ci.none.num, s.A, s.c, s.body⟩ : Ci)) hlj
         have q6 : (ss.take (j + 1)).map keyCi = (ss.take j).map keyCi ++ [⟨Ci.none.nul, Ci.none.num, s.A, s.c, s.body⟩] := by
           rw [List.take_add_one, hf, List.map_append]
           rfl
         have HO2 := Lib.hid (show OwnX (wr.setCell ⟨g, j * 3 + 2, none⟩ (.slice s.A s.body.length s.c)) g (some ⟨g, 0, none⟩) n ((ss.take (j + 1)).map keyCi ++ List.replicate (n - (j + 1)) Ci.none) from by rw [q6, ← q5]; exact q3)
         have HE3 := Lib.hid (show Ext w (wr.setCell ⟨g, j * 3 + 2, none⟩ (.slice s.A s.body.length s.c)) from Below.grown HE.out q4 HE.out.size (fun g' hg' => by injection hg' with hg'; omega))
         have q1' : wr.cell? ⟨g, j * 3 + 2, none⟩ = some (.slice none 0 0) := q1
         have hsv : s.v = .slice s.A s.body.length s.c := rfl
         try rw [hsv] at hcc
         clear hown hnone q1 q3 q4 q5 q6 HO HE hlj hsv
         obtain ⟨sA, sc, body⟩ := s
         simp only at hcc HO2 HE3
         go_wp2_with fail
         go_roundw
         case rel => exact ⟨j + 1, by omega, by go_num, HO2.out, HE3.out⟩
         case measure => simp [intOf]; omega
       · obtain rfl : j = n := by omega
         have ho := HO.out
         rw [List.take_of_length_le (Nat.le_of_eq Hl.out), Nat.sub_self, List.replicate_zero, List.append_nil] at ho
         have hin : ∀ x ∈ ss.map keyCi, x.In wr := fun x hx => by
           obtain ⟨s, hs, rfl⟩ := List.mem_map.1 hx
           have ht := (Hx.out.2 s hs).ext HE.out
           exact ⟨ht.rd, ht.u8, by show (-9223372036854775808 : Int) ≤ 0; decide, by show (0 : Int) ≤ 9223372036854775807; decide, by show s.body.length * 1 ≤ 140737488351232; have := Hlen.out s hs; omega⟩
         have hrx := ho.rdX hin
         rw [List.length_map, Hl.out] at hrx
         have hcap : CapX (ss.map keyCi) := fun x hx => by
           obtain ⟨s, hs, rfl⟩ := List.mem_map.1 hx
           exact ⟨(Hx.out.2 s hs).cap, (Hx.out.2 s hs).top⟩
         have HBd := Lib.hid (buildC_any wr.heap.size 8 true p (some ⟨g, 0, none⟩) j j (ss.map keyCi) wr (wr.alloc (.cells #[.int .i64 8, .bool true, .int .i64 0, .int .i64 (p : Int), .slice none 0 0, .slice none 0 0] 82))
           (FilC.made wr 8 true 0 (p : Int) (.slice none 0 0) (.slice none 0 0) _) (Nat.le_refl _) ((Ext.refl _).alloc _) hrx hcap (by omega) (Nat.le_refl _) (by omega) (by decide))
         rw [← HR.out] at HBd
         unfold PEncPost at HBd
         clear hrx hcap hin ho
         go_wp2_with fail
         refine HBd.out.mono ?_
         rintro e w3 ⟨A3, c3, rfl, ho3, he3⟩
         go_wp2_with fail
         go_ret2
         exact ⟨A3, c3, rfl, ho3.mono HE.out.size, HE.out.trans he3⟩
end Go.Proofs.YthibbgmicmfkfaaGreat
