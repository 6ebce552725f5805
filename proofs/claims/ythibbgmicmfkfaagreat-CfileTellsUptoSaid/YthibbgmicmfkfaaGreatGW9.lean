import Derived.Test.YthibbgmicmfkfaaGreatGW8
import Derived.OneCell
namespace Go.Proofs.YthibbgmicmfkfaaGreat
open Go.RowKit
set_option maxRecDepth 100000
theorem uindex_any (A : Option Addr) (n c : Nat) (xs : List Nat) (v : Nat) (w : World) (hx : Rd .u64 w A n xs) (hn : n ≤ 281474976710656) :
   Calls Tryz.prog 167 #[.slice A n c, .int .u64 (v : Int)] w fun e w' => (∃ i : Int, e = .returned (.int .i64 i) ∧ (0 ≤ i ↔ v ∈ xs)) ∧ w = w' := by
 have hl := hx.len
 have Hl := Lib.hid hl
 have Hx := Lib.hid hx
 clear hl hx
 go_enter Tryz.func167, Tryz.ntmps167
 go_wp2_with fail
 go_loop [8] (fun i => ∃ j : Nat, j ≤ n ∧ i = .int .i64 (j : Int) ∧ Hid (∀ q, q < j → xs.getD q 0 ≠ v)) (fun i => n - (intOf i).toNat)
 case atStart => exact ⟨0, Nat.zero_le _, rfl, Lib.hid (fun q hq => absurd hq (by omega))⟩
 case round =>
   obtain ⟨j, hj, rfl, HJ⟩ := hrel
   by_cases hlt : j < n
   · obtain ⟨b, o, rfl, hb, hcell⟩ := Hx.out.at_ hlt
     have hmem : xs.getD j 0 ∈ xs := by
       have h2 : j < xs.length := by rw [Hl.out]; exact hlt
       simp only [List.getD, List.getElem?_eq_getElem h2, Option.getD_some]
       exact List.getElem_mem _
     have Hmem := Lib.hid hmem
     obtain ⟨x, hx⟩ : ∃ x, x = xs.getD j 0 := ⟨_, rfl⟩
     rw [← hx] at hcell Hmem
     have HX := Lib.hid hx
     clear hx hmem
     by_cases hv : v = x
     · subst hv
       go_wp2_with fail
       go_ret
       exact ⟨⟨(j : Int), rfl, fun _ => Hmem.out, fun _ => by omega⟩, rfl⟩
     · have hvb : ((v : Int) == (x : Int)) = false := beq_eq_false_iff_ne.2 (by omega)
       go_wp2_with fail
       go_round
       case rel =>
         refine ⟨j + 1, hlt, by go_num, Lib.hid (fun q hq => ?_)⟩
         by_cases h : q < j
         · exact HJ.out q h
         · obtain rfl : q = j := by omega
           rw [← HX.out]; exact fun e => hv e.symm
       case measure => simp [intOf]; omega
   · obtain rfl : j = n := by omega
     go_wp2
     go_ret
     refine ⟨⟨-1, rfl, ?_⟩, rfl⟩
     have hno : ¬ v ∈ xs := fun h => by
       obtain ⟨q, hq, e⟩ := List.getElem_of_mem h
       refine HJ.out q (by rw [← Hl.out]; exact hq) ?_
       simp [List.getD, hq, e]
     exact ⟨fun h => absurd h (by decide), fun h => absurd h hno⟩
theorem ucontains_any (A : Option Addr) (n c : Nat) (xs : List Nat) (v : Nat) (w : World) (hx : Rd .u64 w A n xs) (hn : n ≤ 281474976710656) :
   Calls Tryz.prog 140 #[.slice A n c, .int .u64 (v : Int)] w fun e w' => e = .returned (.bool (decide (v ∈ xs))) ∧ w = w' := by
 have HI := Lib.hid (uindex_any A n c xs v w hx hn)
 clear hx
 go_enter Tryz.func140, Tryz.ntmps140
 go_wp2_with fail
 refine HI.out.mono ?_
 rintro e w1 ⟨⟨i, rfl, hi⟩, rfl⟩
 have Hi := Lib.hid hi
 clear hi
 go_wp2_with fail
 go_ret
 exact ⟨by rw [← decide_eq_decide.2 Hi.out]; rfl, rfl⟩
def nb (xs : List Ci) : List Nat := xs.map fun x => if x.nul then 1 else 0
theorem nb_len (xs : List Ci) : (nb xs).length = xs.length := List.length_map ..
theorem nb_wd (xs : List Ci) : Wd 1 (nb xs) := by
 intro v hv
 obtain ⟨x, _, rfl⟩ := List.mem_map.1 hv
 split <;> decide
theorem nb_u64 (xs : List Ci) : U64 (nb xs) := by
 intro v hv
 have := nb_wd xs v hv
 omega
theorem nb_at {xs : List Ci} {j : Nat} {x : Ci} (h : xs[j]? = some x) : (nb xs)[j]? = some (if x.nul then 1 else 0) := by unfold nb; rw [List.getElem?_map, h]; rfl
def nullsL (xs : List Ci) : List Nat := if 1 ∈ nb xs then 1 :: packB 1 (nb xs) else [0]
theorem nb_pack {xs : List Ci} (h : xs.length ≤ 4096) : packE 1 (nb xs) = 0 := packE_ok (by decide) (by rw [nb_len]; omega) (by have := wdt_le.2 (nb_wd xs); omega)
set_option maxHeartbeats 4000000 in
theorem putNulls_any (A : Option Addr) (n c : Nat) (xs : List Ci) (w : World) (hx : RdX w A n xs) (hn : n ≤ 4096) :
   Calls Tryz.prog 106 #[.slice A n c] w (PEncPost (nullsL xs, 0) w) := by
 have Hx := Lib.hid hx
 have Hl := Lib.hid hx.1
 have Hml := Lib.hid (show (nb xs).length = n by rw [nb_len]; exact hx.1)
 have hpk := nb_pack (xs := xs) (by rw [hx.1]; exact hn)
 have hu := nb_u64 xs
 have hpb : packL 1 (nb xs) = packB 1 (nb xs) := by unfold packL; rw [hpk, if_pos rfl]; rfl
 have Hpk := Lib.hid hpk
 have Hpb := Lib.hid hpb
 clear hx hpk hpb
 go_enter Tryz.func106, Tryz.ntmps106
 go_wp2_with (first | (at_make; refine wpList_mk .u64 69 rfl _ _ 72 rfl 8 Tryz.underlying72 Tryz.infoU64 _ _ n rfl rfl rfl rfl (by omega) (by omega) ?_; intro w7 hown7 he7) | fail)
 have hz7 := he7.size
 have hb7 := (hown7.block _ rfl).2
 go_loopw [14] (fun i wr => ∃ j : Nat, j ≤ n ∧ i = .int .i64 (j : Int) ∧ Own .u64 69 wr w.heap.size (some ⟨w.heap.size, 0, none⟩) n ((nb xs).take j ++ List.replicate (n - j) 0) ∧ Ext w wr ∧ w.heap.size < wr.heap.size) (fun i _ => n - (intOf i).toNat)
 case atStart => exact ⟨0, Nat.zero_le _, rfl, by simpa using hown7, he7, hb7⟩
 case round =>
   clear hown7 he7
   obtain ⟨j, hj, rfl, hO, hE, hsz⟩ := hrel
   by_cases hlt : j < n
   · obtain ⟨b, o, x, rfl, hb, hxj, hc0, hc1, hc2, hin⟩ := (Hx.out.ext hE).at_ hlt
     have hnb := nb_at hxj
     have Hn := Lib.hid (set_nextS (z := (0 : Nat)) Hml.out hlt hnb)
     have hg := heap_cell (w := wr) x rfl
     have hlO : j < ((nb xs).take j ++ List.replicate (n - j) 0).length := by rw [List.length_append, List.length_take, List.length_replicate, Hml.out]; omega
     have hcur : ((nb xs).take j ++ List.replicate (n - j) 0).getD j 0 = 0 := by
       rw [List.getD, List.getElem?_append_right (by rw [List.length_take, Hml.out]; omega), List.length_take, Hml.out, show j - min j n = 0 by omega, List.getElem?_replicate, if_pos (by omega)]; rfl
     have hset0 : ((nb xs).take j ++ List.replicate (n - j) 0).set j 0 = (nb xs).take j ++ List.replicate (n - j) 0 := by
       apply List.ext_getElem?
       intro q
       rw [List.getElem?_set]
       split
       · rename_i e; subst e
         rw [List.getD, List.getElem?_eq_getElem hlO] at hcur
         rw [List.getElem?_eq_getElem hlO]
         exact congrArg some (Eq.symm hcur)
       · rfl
     obtain ⟨b', e', hb1, hb2, hcell, hfr, hset⟩ := (hO.ext ((Ext.refl wr).alloc (.cells #[.bool x.nul, .int .i64 x.num, .slice x.A x.txt.length x.c] 61))).at_ hlO
     injection e' with e'
     injection e' with e1
     subst e1
     obtain ⟨b4, e4, _, _, _, _, hset4⟩ := hO.at_ hlO
     injection e4 with e4
     injection e4 with e4
     subst e4
     rw [hcur] at hcell
     obtain ⟨nu, num, xA, xc, xt⟩ := x
     simp only at hc0 hc1 hc2 hg hcell hfr Hn ⊢
     obtain ⟨hg0, hg1, hg2⟩ := hg
     cases nu with
     | true =>
       obtain ⟨hO5, hg5⟩ := hset4 1
       rw [if_pos rfl] at Hn
       rw [Hn.out] at hO5
       have HO3 := Lib.hid hO5
       have HE3 := Lib.hid (grownBy_ext hE hg5 (fun x e => by have e2 : w.heap.size = x := Option.some.inj e; omega))
       have hs3 := hg5.size
       clear hO hO5 hg5 hset hset4 hin hxj hnb hset0 hcur hlO
       go_wp2_with fail
       go_roundw
       case rel => exact ⟨j + 1, hlt, by go_num, HO3.out.ext ((Ext.refl _).alloc _), HE3.out.alloc _, by simp; omega⟩
       case measure => simp [intOf]; omega
     | false =>
       rw [if_neg (by decide), hset0] at Hn
       have HO3 := Lib.hid hO
       rw [Hn.out] at HO3
       have HE3 := Lib.hid hE
       clear hO hset hset4 hin hxj hnb hset0 hcur hlO hE
       go_wp2_with fail
       go_roundw
       case rel => exact ⟨j + 1, hlt, by go_num, HO3.out.ext ((Ext.refl _).alloc _), HE3.out.alloc _, by simp; omega⟩
       case measure => simp [intOf]; omega
   · obtain rfl : j = n := by omega
     rw [List.take_of_length_le (Nat.le_of_eq Hml.out), Nat.sub_self, List.replicate_zero, List.append_nil] at hO
     have HC := Lib.hid (ucontains_any (some ⟨w.heap.size, 0, none⟩) j j (nb xs) 1 wr (hO.rd' Hml.out) (by omega))
     have HP := Lib.hid (pack_any (some ⟨w.heap.size, 0, none⟩) j j 1 (nb xs) wr (hO.rd' Hml.out) hu (by omega))
     clear hO hu
     by_cases h1 : 1 ∈ nb xs
     · have hN : nullsL xs = 1 :: packB 1 (nb xs) := if_pos h1
       rw [decide_eq_true h1] at HC
       have hP2 := HP.out
       unfold PackPost at hP2
       rw [Hpk.out, Hpb.out] at hP2
       obtain ⟨R, hR⟩ : ∃ R, R = packB 1 (nb xs) := ⟨_, rfl⟩
       rw [← hR] at hP2 hN
       have hRl : R.length ≤ 512 := by rw [hR]; unfold packB; rw [upk_len, Hml.out]; omega
       obtain ⟨L, hL⟩ : ∃ L, L = R.length := ⟨_, rfl⟩
       rw [← hL] at hP2 hRl
       have HN := Lib.hid hN
       have HP2 := Lib.hid hP2
       have HL := Lib.hid hL
       clear hN h1 hP2 hR hL HP
       go_wp2_with fail
       refine HC.out.mono ?_
       rintro e w1 ⟨rfl, rfl⟩
       go_wp2_with fail
       refine HP2.out.mono ?_
       rintro e w2 ⟨A2, c2, rfl, ho2, he2⟩
       go_wp2_with fail
       have hfl : ([[1], R] : List (List Nat)).flatten = 1 :: R := by simp
       have HCc := Lib.hid (concat_any (some ⟨w2.heap.size + 1, 0, none⟩) 2 2 [[1], R] ((w2.alloc (.cells #[.int .u8 1] 5)).alloc (.cells #[.slice (some ⟨w2.heap.size, 0, none⟩) 1 1, .slice A2 L c2] 22)) (RdSS.two 22 _ (by simp) (Rd.lit .u8 5 w2 [1]) ((ho2.rd' HL.out.symm).ext ((Ext.refl _).alloc _))) (by rw [hfl, List.length_cons, ← HL.out]; omega) (by decide))
       rw [hfl, List.length_cons, ← HL.out] at HCc
       refine HCc.out.mono ?_
       rintro e w3 ⟨A3, c3, rfl, ho3, he3⟩
       go_wp2_with fail
       go_ret2
       have hE3 := (hE.trans he2).trans ((((Ext.refl w2).alloc _).alloc _).trans he3)
       have hb3 := ho3.mono ((hE.trans he2).trans (((Ext.refl w2).alloc (.cells #[.int .u8 1] 5)).alloc (.cells #[.slice (some ⟨w2.heap.size, 0, none⟩) 1 1, .slice A2 L c2] 22))).size
       exact ⟨A3, c3, by rw [HN.out, List.length_cons, ← HL.out]; rfl, by rw [HN.out]; exact hb3, hE3⟩
     · have hN : nullsL xs = [0] := if_neg h1
       have HN := Lib.hid hN
       rw [decide_eq_false h1] at HC
       clear hN h1
       go_wp2_with fail
       refine HC.out.mono ?_
       rintro e w1 ⟨rfl, rfl⟩
       go_wp2_with fail
       go_ret2
       exact ⟨_, 1, by rw [HN.out]; rfl, by rw [HN.out]; exact (ownLit wr [0] (by decide)).mono (by omega), hE.alloc _⟩
set_option maxRecDepth 100000 in
theorem step_pushes {w0 w : World} {ops : Array Oper} {o : Oper} {a : Act} {K : Act → World → Prop} {Q : Exit → Act → World → Prop} {E : Prop} (hgd : o.guard = none) (s y : Operand)
   (ho : o.op = .call { callee := .builtin .append, args := #[s, y], argTypes := #[22, 22] })
   {base : Nat} {A A2 : Option Addr} {c m c2 : Nat} {xs ys : List Nat} (hown : Own .u8 5 w base A c xs) (n : Nat) (hn : xs.length = n) (hs : a.eval s = .slice A n c)
   (hy : a.eval y = .slice A2 m c2) (hrd : Rd .u8 w A2 m ys) (hlen : n + m ≤ 180000000000000) (hb : Below base w0 w) (hbase : base ≤ w.heap.size)
   (h : ∀ A' c' w', Own .u8 5 w' base A' c' (xs ++ ys) → w.grownBy w' (Value.slice A n c).ownBlock → Below base w0 w' → base ≤ w'.heap.size → K (a.put o.dst (.slice A' (n + m : Nat) c')) w') :
   if Region.wanted o (yielded ops a.tmps) = true then Oper.wp Tryz.prog o a w K Q else E := by
 have hw : Region.wanted o (yielded ops a.tmps) = true := by simp [Region.wanted, hgd]
 rw [if_pos hw]
 subst hn
 obtain ⟨i, hi0, hz, hsz, hbs⟩ := info_parts Tryz.infoU8
 have hyl := hrd.len
 cases A2 with
 | none =>
   have hm : m = 0 := by
     rcases Nat.eq_zero_or_pos m with h0 | h0
     · exact h0
     · obtain ⟨b, o, he, _⟩ := hrd.2 h0
       cases he
   subst hm
   obtain rfl : ys = [] := List.eq_nil_of_length_eq_zero hyl
   have hrun := run_append_none (P := Tryz.prog) (w := w) 22 o.type i 1 c2 Tryz.underlying22 hi0 _ _ _ hown
   unfold Oper.wp
   simp [execOp, ho, resolve, invoke, builtin, hs, hy, hrun, Result.andThen]
   exact h A c w (by simpa using hown) (World.grownBy.refl _ _) hb hbase
 | some ad =>
   refine wp_append_own_wide w s y 22 ho base 5 i _ 1 1 Tryz.underlying22 hi0 hz hsz hbs rfl (by decide) _ xs.length (xs.map fun x : Nat => Value.int .u8 (x : Int)) hs hown
     ad m c2 (ys.map fun x : Nat => Value.int .u8 (x : Int)) hy (by simp [hyl]) ?_ ?_ (by unfold maxLen; omega) (by omega) hbase ?_
   · intro j u hj
     have hjl : j < ys.length := by
       have := (List.getElem?_eq_some_iff.1 hj).1
       simpa using this
     obtain ⟨b, o', he, hbl, hc⟩ := hrd.at_ (j := j) (by omega)
     injection he with he
     subst he
     have hadd : (⟨b, o', none⟩ : Addr).add j = ⟨b, o' + j, none⟩ := by simp [Addr.add]
     rw [hadd, hc]
     rw [List.getElem?_map, List.getElem?_eq_getElem hjl] at hj
     simp at hj
     simp [← hj, hjl]
   · intro u hu
     obtain ⟨x, _, rfl⟩ := List.mem_map.1 hu
     rfl
   · intro v' w' hown' hg _
     have hform : ∃ A' c', v' = .slice A' (xs.length + m) c' := by
       rcases hown'.2 with ⟨hv, h0⟩ | ⟨g, cap, cur, hv, _⟩
       · exact ⟨none, 0, by rw [hv, h0]⟩
       · exact ⟨_, _, hv⟩
     obtain ⟨A', c', rfl⟩ := hform
     have hb' : Below base w0 w' := Below.grown hb hg hbase (fun g hg' => (hown.lt g hg').1)
     refine h A' c' w' ?_ hg hb' ?_
     · unfold Own
       rw [List.length_append, hyl, List.map_append]
       exact hown'
     · have := hg.size
       omega
theorem wpList_pushes2 {w0 w : World} {ops : Array Oper} {rest : List Oper} {o : Oper} {a : Act} {Q : Exit → Act → World → Prop} (hgd : o.guard = none) (s y : Operand)
   (ho : o.op = .call { callee := .builtin .append, args := #[s, y], argTypes := #[22, 22] })
   {base : Nat} {A A2 : Option Addr} {c m c2 : Nat} {xs ys : List Nat} (hown : Own .u8 5 w base A c xs) (n : Nat) (hn : xs.length = n) (hs : a.eval s = .slice A n c)
   (hy : a.eval y = .slice A2 m c2) (hrd : Rd .u8 w A2 m ys) (hlen : n + m ≤ 180000000000000) (hb : Below base w0 w) (hbase : base ≤ w.heap.size)
   (h : ∀ A' c' w', Own .u8 5 w' base A' c' (xs ++ ys) → w.grownBy w' (Value.slice A n c).ownBlock → Below base w0 w' → base ≤ w'.heap.size → wpList Tryz.prog ops Q rest (a.put o.dst (.slice A' (n + m : Nat) c')) w') :
   wpList Tryz.prog ops Q (o :: rest) a w :=
 wpList_plain hgd fun K hK => by
   have hw : Region.wanted o (yielded ops a.tmps) = true := by simp [Region.wanted, hgd]
   have h0 := step_pushes (K := K) (Q := Q) (ops := ops) (E := True) hgd s y ho hown n hn hs hy hrd hlen hb hbase (fun A' c' w' h1 h2 h3 h4 => hK _ _ (h A' c' w' h1 h2 h3 h4))
   rw [if_pos hw] at h0
   exact h0
def plain1 (k : Int) (x : Ci) : List Nat := if numK k then vput (foldS x.num).toNat else vput x.txt.length ++ x.txt
def plainL (k : Int) (xs : List Ci) : List Nat := (xs.map (plain1 k)).flatten
theorem plainL_take {k : Int} {xs : List Ci} {j : Nat} {x : Ci} (h : xs[j]? = some x) : plainL k (xs.take (j + 1)) = plainL k (xs.take j) ++ plain1 k x := by
 unfold plainL
 rw [List.take_add_one, h, List.map_append, List.flatten_append]; simp
theorem plain1_le {k : Int} {x : Ci} (h0 : -9223372036854775808 ≤ x.num) (h1 : x.num ≤ 9223372036854775807) (h2 : x.txt.length ≤ 200) : (plain1 k x).length ≤ 210 := by
 unfold plain1
 split
 · have hr := fold_range (v := x.num) ⟨h0, h1⟩
   have := vsize_le (u := (foldS x.num).toNat) (by omega)
   rw [vput_len]; omega
 · have := vsize_le (u := x.txt.length) (by omega)
   rw [List.length_append, vput_len]; omega
theorem plain1_u8 {k : Int} {x : Ci} (h : U8 x.txt) : U8 (plain1 k x) := by
 unfold plain1
 split
 · exact vput_u8 _
 · exact u8_append (vput_u8 _) h
set_option maxHeartbeats 4000000 in
theorem putPlain_any (k : Int) (A : Option Addr) (n c : Nat) (xs : List Ci) (w : World) (hx : RdX w A n xs) (hn : n ≤ 4096) (h200 : ∀ x ∈ xs, x.txt.length ≤ 200) :
   Calls Tryz.prog 148 #[.int .i64 k, .slice A n c] w fun e w' => ∃ A' c', e = .returned (.slice A' (plainL k xs).length c') ∧ Own .u8 5 w' w.heap.size A' c' (plainL k xs) ∧ Ext w w' := by
 have Hx := Lib.hid hx
 have Hl := Lib.hid hx.1
 have H2 := Lib.hid h200
 have hnum := fun W => number_any k W
 have hpl : ∀ x, plain1 k x = if numK k then vput (foldS x.num).toNat else vput x.txt.length ++ x.txt := fun x => rfl
 obtain ⟨B, hB⟩ : ∃ B, B = numK k := ⟨_, rfl⟩
 rw [← hB] at hnum hpl
 have HN := Lib.hid hnum
 have Hpl := Lib.hid hpl
 clear hx h200 hnum hB hpl
 go_enter Tryz.func148, Tryz.ntmps148
 go_wp2_with fail
 go_loopw [5, 10] (fun y i wr => ∃ (j m : Nat) (A' : Option Addr) (c' : Nat), j ≤ n ∧ m ≤ 210 * j ∧ i = .int .i64 (j : Int) ∧ y = .slice A' m c' ∧ Hid ((plainL k (xs.take j)).length = m) ∧ Own .u8 5 wr w.heap.size A' c' (plainL k (xs.take j)) ∧ Ext w wr ∧ w.heap.size ≤ wr.heap.size) (fun _ i _ => n - (intOf i).toNat)
 case atStart => exact ⟨0, 0, none, 0, Nat.zero_le _, by omega, rfl, rfl, Lib.hid rfl, Own.nil .., Ext.refl _, Nat.le_refl _⟩
 case round =>
   obtain ⟨j, m, A', c', hj, hm, rfl, rfl, HK, hO, hE, hz⟩ := hrel
   by_cases hlt : j < n
   · have hall : ∀ x, xs[j]? = some x → x.In w := fun x hx => by
       obtain ⟨_, _, y, _, _, hy, _, _, _, h⟩ := Hx.out.at_ hlt
       have e := Option.some.inj (hy.symm.trans hx)
       rw [← e]; exact h
     obtain ⟨b, o, x0, rfl, hb, hxj, hc0, hc1, hc2, hin⟩ := (Hx.out.ext hE).at_ hlt
     have hin0 := hall x0 hxj
     clear hall
     have Ht := Lib.hid (plainL_take (k := k) hxj)
     have h2 := H2.out _ (List.mem_of_getElem? hxj)
     have hp1 := plain1_le (k := k) hin.lo hin.hi h2
     have hg := heap_cell (w := wr) x0 rfl
     have HO := Lib.hid hO
     have hlo := hin.lo
     have hhi := hin.hi
     have hrd := hin.rd
     have hrd0 := hin0.rd
     obtain ⟨nu, num, xA, xc, xt⟩ := x0
     simp only at hc0 hc1 hc2 hg Ht h2 hp1 hlo hhi hrd hrd0 ⊢
     obtain ⟨hg0, hg1, hg2⟩ := hg
     obtain ⟨P, hP⟩ : ∃ P, P = plain1 k ⟨nu, num, xA, xc, xt⟩ := ⟨_, rfl⟩
     have hP2 := Hpl.out ⟨nu, num, xA, xc, xt⟩
     rw [← hP] at Ht hp1 hP2
     obtain ⟨p, hp⟩ : ∃ p, p = P.length := ⟨_, rfl⟩
     rw [← hp] at hp1
     have HP := Lib.hid hp
     have Hrd := Lib.hid hrd
     have Hrd0 := Lib.hid hrd0
     clear hO hin hin0 hxj hrd hrd0 hP hp
     cases B with
     | true =>
       rw [if_pos rfl] at hP2
       have hr := fold_range (v := num) ⟨hlo, hhi⟩
       obtain ⟨u, hu⟩ : ∃ u : Nat, (u : Int) = foldS num := ⟨(foldS num).toNat, by omega⟩
       have hu2 : (foldS num).toNat = u := by omega
       rw [hu2] at hP2
       have hFo : Hid (∀ W, Calls Tryz.prog 174 #[.int .i64 num] W fun e w' => e = .returned (.int .u64 (u : Int)) ∧ W = w') := Lib.hid (fun W => by rw [hu]; exact fold_any num W hlo hhi)
       have hPu : Hid (∀ W, Calls Tryz.prog 110 #[.int .u64 (u : Int)] W fun e w' => ∃ A' c', e = .returned (.slice A' p c') ∧ Own .u8 5 w' W.heap.size A' c' P ∧ Ext W w') := Lib.hid (fun W => by
         have := put_any u W (by omega)
         rw [← hP2, ← HP.out] at this
         exact this)
       clear hP2 hu hu2 hr
       go_wp2_with fail
       refine (HN.out _).mono ?_
       rintro e w1 ⟨rfl, rfl⟩
       go_wp2_with fail
       refine (hFo.out _).mono ?_
       rintro e w1 ⟨rfl, rfl⟩
       go_wp2_with fail
       refine (hPu.out _).mono ?_
       rintro e w3 ⟨A3, c3, rfl, ho3, he3⟩
       have hE3 : Ext w w3 := (hE.alloc _).trans he3
       have hz3 := hE3.size
       go_wp2_with (at_builtin; refine wpList_pushes (w0 := w) (base := w.heap.size) .u8 5 rfl _ _ 22 rfl _ 1 Tryz.underlying22 Tryz.infoU8 rfl ((HO.out.ext ((Ext.refl _).alloc _)).ext he3) m HK.out rfl rfl (ho3.rd' HP.out.symm) (by omega) (by omega) hE3 hz3 ?_; intro A4 c4 w4 hO4 hE4 hz4)
       go_roundw
       case rel => exact ⟨j + 1, m + p, A4, c4, hlt, by omega, by go_num, rfl, Lib.hid (by rw [Ht.out, List.length_append, HK.out, ← HP.out]), by rw [Ht.out]; exact hO4, hE4, hz4⟩
       case measure => simp [intOf]; omega
     | false =>
       rw [if_neg (by decide)] at hP2
       obtain ⟨q, hq⟩ : ∃ q, q = xt.length := ⟨_, rfl⟩
       obtain ⟨V, hV⟩ : ∃ V, V = vput q := ⟨_, rfl⟩
       obtain ⟨v, hv⟩ : ∃ v, v = V.length := ⟨_, rfl⟩
       rw [← hq] at h2 hc2 hg0 hg1 hg2
       rw [← hq, ← hV] at hP2
       have hpv : p = v + q := by rw [HP.out, hP2, List.length_append, ← hv, ← hq]
       have hPu : Hid (∀ W, Calls Tryz.prog 110 #[.int .u64 (q : Int)] W fun e w' => ∃ A' c', e = .returned (.slice A' v c') ∧ Own .u8 5 w' W.heap.size A' c' V ∧ Ext W w') := Lib.hid (fun W => by
         have := put_any q W (by omega)
         rw [← hV, ← hv] at this
         exact this)
       have Hrq : Hid (Rd .u8 wr xA q xt) := Lib.hid (by rw [hq]; exact Hrd.out)
       have HP2 := Lib.hid hP2
       have Hv := Lib.hid hv
       have Hq := Lib.hid hq
       have hw64 : IntKind.u64.wrap (q : Int) = (q : Int) := IntWalk.u64_in _ (by omega)
       clear hP2 hV hv hq
       go_wp2_with fail
       refine (HN.out _).mono ?_
       rintro e w1 ⟨rfl, rfl⟩
       go_wp2_with fail
       refine (hPu.out _).mono ?_
       rintro e w3 ⟨A3, c3, rfl, ho3, he3⟩
       have hE3 : Ext w w3 := (hE.alloc _).trans he3
       have hz3 := hE3.size
       have hr3 : Hid (Rd .u8 w3 xA q xt) := Lib.hid (Hrq.out.ext (((Ext.refl _).alloc _).trans he3))
       have hs3 := he3.size
       rw [World.size_alloc] at hs3
       have hc23 : w3.cell? ⟨wr.heap.size, 2, none⟩ = some (.slice xA q xc) := (Below.cell he3 (p := ⟨wr.heap.size, 2, none⟩) (by simp)).trans hg2
       have hnb : ∀ a, A' = some a → a.block < wr.heap.size := fun a ha => (HO.out.block a ha).2
       have hownb : (Value.slice A' m c').ownBlock ≠ some wr.heap.size := by
         cases hA : A' with
         | none => simp [Value.ownBlock]
         | some a => have := hnb a hA; simp [Value.ownBlock]; intro h; omega
       have Hq0 : Hid (Rd .u8 w xA q xt) := Lib.hid (by rw [Hq.out]; exact Hrd0.out)
       go_wp2_with (first
         | (at_builtin; refine wpList_pushes2 (w0 := w) (base := w.heap.size) rfl _ _ rfl ((HO.out.ext ((Ext.refl _).alloc _)).ext he3) m HK.out rfl rfl (ho3.rd' Hv.out.symm) (by omega) hE3 hz3 ?_; intro A4 c4 w4 hO4 hg4 hE4 hz4; have hc24 : w4.cell? ⟨wr.heap.size, 2, none⟩ = some (.slice xA q xc) := (World.cell?_of_block (a := ⟨wr.heap.size, 2, none⟩) (hg4.block wr.heap.size (by omega) (fun e => hownb e.symm))).trans hc23)
         | (at_builtin; refine wpList_pushes2 (w0 := w) (base := w.heap.size) rfl _ _ rfl hO4 (m + v) (by rw [List.length_append, HK.out, ← Hv.out]) rfl rfl (Hq0.out.ext hE4) (by omega) hE4 hz4 ?_; intro A5 c5 w5 hO5 _ hE5 hz5)
         | fail)
       go_roundw
       case rel => exact ⟨j + 1, m + v + q, A5, c5, hlt, by omega, by go_num, rfl, Lib.hid (by rw [Ht.out, List.length_append, HK.out, ← HP.out]; omega), by rw [Ht.out, HP2.out, ← List.append_assoc]; exact hO5, hE5, hz5⟩
       case measure => simp [intOf]; omega
   · obtain rfl : j = n := by omega
     rw [List.take_of_length_le (Nat.le_of_eq Hl.out)] at hO
     have Hk2 : Hid ((plainL k xs).length = m) := Lib.hid (by have := HK.out; rwa [List.take_of_length_le (Nat.le_of_eq Hl.out)] at this)
     go_wp2
     go_ret
     exact ⟨A', c', by rw [Hk2.out]; rfl, hO, hE⟩
theorem Tryz.infoRun : (Tryz.prog.info? 196).map (fun i => (i.zero, i.size, i.bytes)) = some (some (.agg #[.int .i64 0, .int .i64 0]), 2, 16) := by kernel_rfl
theorem OwnG.ne_block {T : Type} {s : Shape T} {e t : TypeId} {w : World} {base c g : Nat} {A : Option Addr} {xs : List T} {cs : Array Value} {fr : Nat × Nat} (h : OwnG s e w base A c xs) (hg : w.heap[g]? = some (.cells cs t fr)) (hne : t ≠ e) : ∀ a, A = some a → a.block ≠ g := by
 rintro a rfl hag
 rcases h.2 with ⟨hv, _⟩ | ⟨g', cap, cur, hv, _, hh, _⟩
 · injection hv with hA; cases hA
 · injection hv with hA
   injection hA with hA
   subst hA
   simp only at hag
   subst hag
   rw [hh] at hg
   injection hg with hg
   injection hg with _ h2 _
   exact hne h2.symm
theorem grown_setCellG (w : World) (g i : Nat) (v : Value) : w.grownBy (w.setCell ⟨g, i, none⟩ v) (some g) :=
 ⟨rfl, rfl, rfl, by simp [World.setCell], fun k _ hne => heap_setCell_other w ⟨g, i, none⟩ k v (fun e => hne (by rw [e]))⟩
def GathPost (g base : Nat) (rs : List (Int × Int)) (w0 : World) (e : Ending) (w' : World) : Prop :=
 ∃ A' c', e = .returned (.tuple #[]) ∧ w'.heap[g]? = some (.cells #[.slice A' rs.length c'] 220) ∧ OwnG shR 196 w' base A' c' rs ∧ Below base w0 w'
theorem gath_store {g base n c1 : Nat} {A A1 : Option Addr} {c : Nat} {rs rs' : List (Int × Int)} {w0 W w1 : World} (hg : W.heap[g]? = some (.cells #[.slice A n c] 220)) (hgb : base ≤ g) (hown : OwnG shR 196 W base A c rs)
   (hgr : W.grownBy w1 (Value.slice A n c).ownBlock) (hown1 : OwnG shR 196 w1 base A1 c1 rs') (hb : Below base w0 w1) :
   w1.cell? ⟨g, 0, none⟩ = some (.slice A n c) ∧ w1.frozen? ⟨g, 0, none⟩ = false ∧ (w1.setCell ⟨g, 0, none⟩ (.slice A1 rs'.length c1)).heap[g]? = some (.cells #[.slice A1 rs'.length c1] 220) ∧
     OwnG shR 196 (w1.setCell ⟨g, 0, none⟩ (.slice A1 rs'.length c1)) base A1 c1 rs' ∧ Below base w0 (w1.setCell ⟨g, 0, none⟩ (.slice A1 rs'.length c1)) := by
 have hgl : g < W.heap.size := (Array.getElem?_eq_some_iff.1 hg).1
 have h1 : w1.heap[g]? = some (.cells #[.slice A n c] 220) := by
   rw [hgr.block g hgl ?_]
   · exact hg
   · cases A with
     | none => simp [Value.ownBlock]
     | some a =>
       have := hown.ne_block hg (by decide) a rfl
       simp [Value.ownBlock]
       exact fun e => this e.symm
 refine ⟨by rw [cell_of_row w1 g 0 _ _ (0, 0) h1]; rfl, ?_, one_setCell h1, ?_, Below.setCell hb hgb _⟩
 · simp [World.frozen?, h1]
 · refine hown1.grown (grown_setCellG w1 g 0 _) fun a ha e => ?_
   have := hown1.ne_block h1 (by decide) a ha
   simp at e
   exact this e
set_option maxHeartbeats 1600000 in
theorem gather_any (g base : Nat) (A : Option Addr) (c : Nat) (rs : List (Int × Int)) (v : Int) (w : World) (hg : w.heap[g]? = some (.cells #[.slice A rs.length c] 220)) (hgb : base ≤ g) (hown : OwnG shR 196 w base A c rs) (hn : rs.length ≤ 4096) (hc : ∀ r ∈ rs, 0 ≤ r.2 ∧ r.2 ≤ 4096) :
   Calls Tryz.prog 202 #[.pointer (some ⟨g, 0, none⟩), .int .i64 v] w (GathPost g base (gat rs v) w) := by
 have hgl : g < w.heap.size := (Array.getElem?_eq_some_iff.1 hg).1
 have hg0 : w.cell? ⟨g, 0, none⟩ = some (.slice A rs.length c) := by rw [cell_of_row w g 0 _ _ (0, 0) hg]; rfl
 have hX : ∀ o, Ext w (w.alloc o) := fun o => (Ext.refl w).alloc o
 rcases snoc_or rs with rfl | ⟨a, ⟨u, k⟩, rfl⟩
 · have hG := Lib.hid hg
   have hO := Lib.hid hown
   clear hg hown
   go_enter Tryz.func202, Tryz.ntmps202
   go_wp2_with (at_builtin; refine wpList_pushG (w0 := w) (base := base) shR (v, 1) 196 rfl _ _ 191 rfl _ 16 Tryz.underlying191 Tryz.infoRun rfl (by decide) (hO.out.ext (hX _)) 0 rfl rfl rfl (heap_alloc_new _ _) (by omega) (by omega) (Below.alloc (Below.refl _ _) (by omega) _) (by simp; omega) ?_; intro A1 c1 w1 hown1 hgr hb1 hz1; obtain ⟨q1, q2, q3, q4, q5⟩ := gath_store (((hX _).block g hgl).trans hG.out) hgb (hO.out.ext (hX _)) hgr hown1 hb1; have Q3 := Lib.hid q3; have Q4 := Lib.hid q4; have Q5 := Lib.hid q5; clear q3 q4 q5 hown1 hgr hb1)
   go_end0
   exact ⟨A1, c1, rfl, Q3.out, Q4.out, Q5.out⟩
 · have hlen : (a ++ [(u, k)]).length = a.length + 1 := by simp
   rw [hlen] at hg hg0 hn
   obtain ⟨b, x, rfl, hbb, hbl, hxj, hcell, hfr, hst⟩ := hown.at_ (j := a.length) (by simp)
   rw [List.getElem?_append_right (Nat.le_refl _), Nat.sub_self] at hxj
   simp at hxj
   subst hxj
   have hc0 := hcell 0 _ rfl
   have hc1 := hcell 1 _ rfl
   rw [show a.length * shR.sz + 0 = a.length * 2 from rfl] at hc0
   rw [show a.length * shR.sz + 1 = a.length * 2 + 1 from rfl] at hc1
   have hf1 := hfr (a.length * 2 + 1)
   have hk := hc (u, k) (by simp)
   simp only at hk hc0 hc1
   by_cases huv : u = v
   · subst huv
     rw [gat_same]
     obtain ⟨h1, h2⟩ := hst 1 (u, k + 1) (.int .i64 (k + 1)) (by decide) rfl
     rw [show a.length * shR.sz + 1 = a.length * 2 + 1 from rfl] at h1 h2
     rw [List.set_append_right _ _ (Nat.le_refl _), Nat.sub_self, List.set_cons_zero] at h1
     have hgn : (w.setCell ⟨b, a.length * 2 + 1, none⟩ (.int .i64 (k + 1))).heap[g]? = some (.cells #[.slice (some ⟨b, 0, none⟩) (a.length + 1) c] 220) := by
       rw [heap_setCell_other w ⟨b, a.length * 2 + 1, none⟩ g _ (fun e => hown.ne_block hg (by decide) _ rfl e.symm)]; exact hg
     have hBn : Below base w (w.setCell ⟨b, a.length * 2 + 1, none⟩ (.int .i64 (k + 1))) := Below.setCell (Below.refl _ _) hbb _
     have H1 := Lib.hid h1
     have Hgn := Lib.hid hgn
     have HBn := Lib.hid hBn
     clear h1 h2 hgn hBn hst hcell hfr hown hg hc hlen
     go_enter Tryz.func202, Tryz.ntmps202
     go_wp2_with fail
     go_end0
     refine ⟨some ⟨b, 0, none⟩, c, rfl, ?_, H1.out, HBn.out⟩
     rw [show (a ++ [(u, k + 1)]).length = a.length + 1 from by simp]
     exact Hgn.out
   · rw [gat_new huv]
     have hG := Lib.hid hg
     have hO := Lib.hid hown
     have Hlen := Lib.hid hlen
     have hne : (u == v) = false := by simpa using huv
     have HL2 := Lib.hid (show (a ++ [(u, k)] ++ [(v, 1)]).length = a.length + 1 + 1 by simp)
     clear hg hown hst hcell hfr hc hlen
     go_enter Tryz.func202, Tryz.ntmps202
     go_wp2_with (at_builtin; refine wpList_pushG (w0 := w) (base := base) shR (v, 1) 196 rfl _ _ 191 rfl _ 16 Tryz.underlying191 Tryz.infoRun rfl (by decide) (hO.out.ext (hX _)) (a.length + 1) Hlen.out rfl rfl (heap_alloc_new _ _) (by omega) (by omega) (Below.alloc (Below.refl _ _) (by omega) _) (by simp; omega) ?_; intro A1 c1 w1 hown1 hgr hb1 hz1; obtain ⟨q1, q2, q3, q4, q5⟩ := gath_store (((hX _).block g hgl).trans hG.out) hgb (hO.out.ext (hX _)) hgr hown1 hb1; rw [HL2.out] at q3 q4 q5; have Q3 := Lib.hid q3; have Q4 := Lib.hid q4; have Q5 := Lib.hid q5; clear q3 q4 q5 hown1 hgr hb1)
     go_end0
     exact ⟨A1, c1, rfl, by rw [HL2.out]; exact Q3.out, Q4.out, Q5.out⟩
def SplitPost (vs : List Int) (w : World) (e : Ending) (w' : World) : Prop :=
 ∃ A' c', e = .returned (.tuple #[.slice A' (split8 vs).1.length c', .int .i64 (split8 vs).2]) ∧ OwnG shR 196 w' w.heap.size A' c' (split8 vs).1 ∧ Ext w w'
theorem rsp_len {vs : List Int} (h : R64s vs) : (rsp vs).length ≤ vs.length ∧ ∀ r ∈ rsp vs, 0 ≤ r.2 ∧ r.2 ≤ vs.length := by
 have hg := rsp_good h
 obtain ⟨h1, h2⟩ := flat_len_le hg
 rw [rsp_flat h] at h1 h2
 exact ⟨h1, fun r hr => ⟨by have := (hg.mem r hr).1; omega, h2 r hr⟩⟩
theorem R64s.take {vs : List Int} (h : R64s vs) (j : Nat) : R64s (vs.take j) := fun v hv => h v (List.mem_of_mem_take hv)
theorem rsp_take {vs : List Int} {j : Nat} (h : j < vs.length) : rsp (vs.take (j + 1)) = gat (rsp (vs.take j)) (vs.getD j 0) := by
 rw [take_nextG vs j (x := vs.getD j 0) (by rw [List.getD, List.getElem?_eq_getElem h]; rfl), rsp_snoc]
set_option maxHeartbeats 1600000 in
theorem split_any (A : Option Addr) (n c : Nat) (vs : List Int) (w : World) (hx : RdG shZ w A n vs) (hv : R64s vs) :
   Calls Tryz.prog 173 #[.slice A n c] w (SplitPost vs w) := by
 have hl := hx.len
 by_cases hbig : 4096 < n
 · have hs : split8 vs = ([], 4) := by unfold split8; rw [if_pos (by omega)]
   unfold SplitPost
   rw [hs]
   have Hl := Lib.hid hl
   clear hl
   go_enter Tryz.func173, Tryz.ntmps173
   go_wp2
   go_ret2
   exact ⟨none, 0, rfl, OwnG.nil _ _ _ _, Ext.refl w⟩
 · have hs : split8 vs = (rsp vs, 0) := by unfold split8; rw [if_neg (by omega)]
   unfold SplitPost
   rw [hs]
   have Hl := Lib.hid hl
   clear hl hs
   go_enter Tryz.func173, Tryz.ntmps173
   go_wp2
   go_loopw [11] (fun i wr => ∃ (j : Nat) (A' : Option Addr) (c' : Nat), j ≤ n ∧ i = .int .i64 j ∧ wr.heap[w.heap.size]? = some (.cells #[.slice A' (rsp (vs.take j)).length c'] 220) ∧ OwnG shR 196 wr w.heap.size A' c' (rsp (vs.take j)) ∧ Below w.heap.size w wr) (fun i _ => n - (intOf i).toNat)
   case atStart => exact ⟨0, none, 0, Nat.zero_le _, rfl, heap_alloc_new _ _, OwnG.nil _ _ _ _, (Ext.refl w).alloc _⟩
   case round =>
     obtain ⟨j, A', c', hj, rfl, hg, hown, hb⟩ := hrel
     by_cases hlt : j < n
     · obtain ⟨b, o, rfl, hbl, hc⟩ := (hx.ext hb).atZ hlt
       obtain ⟨v, hve⟩ : ∃ v, v = vs.getD j 0 := ⟨_, rfl⟩
       have HT := Lib.hid (rsp_take (vs := vs) (j := j) (by have := Hl.out; omega))
       rw [← hve] at hc HT
       clear hve
       obtain ⟨r1, r2⟩ := rsp_len (hv.take j)
       rw [List.length_take] at r1 r2
       have R2 := Lib.hid r2
       have Hg := Lib.hid hg
       have Hown := Lib.hid hown
       clear r2 hg hown
       go_wp2_with fail
       refine (gather_any _ w.heap.size A' c' _ _ _ Hg.out (Nat.le_refl _) Hown.out (by omega) (fun r hr => by have := R2.out r hr; omega)).mono ?_
       rintro e w1 ⟨A1, c1, rfl, hg1, hown1, hb1⟩
       rw [← HT.out] at hg1 hown1
       go_wp2_with fail
       go_roundw
       case rel => exact ⟨j + 1, A1, c1, by omega, by go_num, hg1, hown1, Below.trans hb hb1⟩
       case measure => simp [intOf]; omega
     · obtain rfl : j = n := by omega
       rw [List.take_of_length_le (by have := Hl.out; omega)] at hg hown
       have hg0 : wr.cell? ⟨w.heap.size, 0, none⟩ = some (.slice A' (rsp vs).length c') := by rw [cell_of_row wr w.heap.size 0 _ _ (0, 0) hg]; rfl
       go_wp2_with fail
       go_ret2
       exact ⟨A', c', rfl, hown, hb⟩
theorem rsp_run {vs : List Int} {j m : Nat} {v : Int} (hm : 1 ≤ m) (hjm : j + m ≤ vs.length) (h : ∀ t, t < m → vs.getD (j + t) 0 = v) (hb : lastV none (rsp (vs.take j)) ≠ some v) :
   rsp (vs.take (j + m)) = rsp (vs.take j) ++ [(v, (m : Int))] := by
 obtain ⟨q, rfl⟩ : ∃ q, m = q + 1 := ⟨m - 1, by omega⟩
 have e : vs.take (j + (q + 1)) = vs.take j ++ List.replicate (q + 1) v := by
   rw [List.take_add]
   congr 1
   apply List.ext_getElem
   · simp; omega
   · intro t h1 h2
     have ht : t < q + 1 := by simpa using h2
     have := h t ht
     rw [List.getElem_replicate, List.getElem_take, List.getElem_drop, ← this]
     simp [List.getD, show j + t < vs.length from by omega]
 rw [e, rsp, List.foldl_append]
 exact foldl_rep hb q
theorem Below.chain {B : Nat} {a b d : World} (h : Below B a b) (hB : B ≤ b.heap.size) (k : Ext b d) : Below B a d := Below.trans h (Below.mono k hB)
set_option maxHeartbeats 3200000 in
theorem refSplit_any (A : Option Addr) (n c : Nat) (vs : List Int) (w : World) (hx : RdG shZ w A n vs) (_hv : R64s vs) :
   Calls Tryz.prog 210 #[.slice A n c] w (SplitPost vs w) := by
 have hl := hx.len
 by_cases hbig : 4096 < n
 · have hs : split8 vs = ([], 4) := by unfold split8; rw [if_pos (by omega)]
   unfold SplitPost
   rw [hs]
   have Hl := Lib.hid hl
   clear hl
   go_enter Tryz.func210, Tryz.ntmps210
   go_wp2
   go_ret2
   exact ⟨none, 0, rfl, OwnG.nil _ _ _ _, Ext.refl w⟩
 · have hs : split8 vs = (rsp vs, 0) := by unfold split8; rw [if_neg (by omega)]
   unfold SplitPost
   rw [hs]
   have Hl := Lib.hid hl
   clear hl hs
   go_enter Tryz.func210, Tryz.ntmps210
   go_wp2
   go_loopw [4, 5] (fun v i wr => ∃ (j m : Nat) (A' : Option Addr) (c' : Nat), j ≤ n ∧ m ≤ j ∧ i = .int .i64 j ∧ v = .slice A' m c' ∧ m = (rsp (vs.take j)).length ∧ OwnG shR 196 wr w.heap.size A' c' (rsp (vs.take j)) ∧ Hid (j < n → lastV none (rsp (vs.take j)) ≠ some (vs.getD j 0)) ∧ Below w.heap.size w wr) (fun _ i _ => n - (intOf i).toNat)
   case atStart => exact ⟨0, 0, _, _, Nat.zero_le _, Nat.le_refl _, rfl, rfl, rfl, OwnG.made _ _ _ (Nat.le_refl _), Lib.hid (fun _ => by simp [rsp, lastV]), (Ext.refl w).alloc _⟩
   case round =>
     obtain ⟨j, m, A', c', hj, hmj, rfl, rfl, hm, hown, hlast, hb⟩ := hrel
     have hz := hb.size
     by_cases hlt : j < n
     · obtain ⟨b, o, hA, hbl, hc⟩ := (hx.ext hb).atZ hlt
       have HX := Lib.hid (hx.ext hb)
       obtain ⟨v, hve⟩ : ∃ v, v = vs.getD j 0 := ⟨_, rfl⟩
       have Hve := Lib.hid hve
       have Hm := Lib.hid hm
       have Hown := Lib.hid hown
       have HL := Lib.hid (hlast.out hlt)
       rw [← hve] at hc HL
       subst hA
       clear hve hm hown hlast
       go_wp2_with fail
       go_loopw [6] (fun k wr2 => ∃ (t q : Nat), 1 ≤ t ∧ j + t ≤ n ∧ k = .int .i64 t ∧ wr2 = wr.drewN q ∧ Hid (∀ u, u < t → vs.getD (j + u) 0 = v)) (fun k _ => n - (intOf k).toNat)
       case atStart => exact ⟨1, 0, Nat.le_refl _, by omega, rfl, rfl, Lib.hid (fun u hu => by have h0 : u = 0 := (by omega); subst h0; exact Hve.out.symm)⟩
       case round =>
         obtain ⟨t, q, ht1, htn, rfl, rfl, hs⟩ := hrel
         by_cases hend : j + t < n
         · have h1 : ((j : Int) + (t : Int)) < (n : Int) := by omega
           obtain ⟨b2, o2, hA2, hbl2, hc2⟩ := HX.out.atZ hend
           injection hA2 with hA2
           injection hA2 with hb2 ho2
           subst hb2
           subst ho2
           obtain ⟨x, hxe⟩ : ∃ x, x = vs.getD (j + t) 0 := ⟨_, rfl⟩
           have Hxe := Lib.hid hxe
           rw [← hxe] at hc2
           clear hxe
           have hc3 : (wr.drewN q).cell? ⟨b, o + (j + t), none⟩ = some (.int .i64 x) := hc2
           have hc4 : (wr.drewN q).cell? ⟨b, o + j, none⟩ = some (.int .i64 v) := hc
           by_cases hxv : x = v
           · have hne : (x == v) = true := by simpa using hxv
             have HN := Lib.hid (show ∀ u, u < t + 1 → vs.getD (j + u) 0 = v from fun u hu => by
               by_cases h : u < t
               · exact hs.out u h
               · obtain rfl : u = t := by omega
                 rw [← Hxe.out]; exact hxv)
             clear hs hxv
             go_wp2_with fail
             go_quiet (fail)
             go_wp2_with fail
             go_roundw
             case rel => exact ⟨t + 1, _, by omega, by omega, by go_num, rfl, HN⟩
             case measure => simp [intOf]; omega
           · have HR := Lib.hid (rsp_run (vs := vs) (j := j) (m := t) (v := v) ht1 (by have := Hl.out; omega) hs.out HL.out)
             have hw1 : (wr.drewN q).heap.size = wr.heap.size := rfl
             have HF := Lib.hid (show lastV none (rsp (vs.take (j + t))) = some v by rw [HR.out, lastV_snoc])
             have hne : (x == v) = false := by simpa using hxv
             have HST : Hid (j + t < n → lastV none (rsp (vs.take (j + t))) ≠ some (vs.getD (j + t) 0)) := Lib.hid (fun _ => by rw [HF.out, ← Hxe.out]; intro e; injection e with e; exact hxv e.symm)
             have hc4 : (wr.drewN q).cell? ⟨b, o + j, none⟩ = some (.int .i64 v) := hc
             clear hs
             go_wp2_with fail
             go_quiet (fail)
             go_wp2_with (at_builtin; refine wpList_pushG (w0 := w) (base := w.heap.size) shR (v, (t : Int)) 196 rfl _ _ 191 rfl _ 16 Tryz.underlying191 Tryz.infoRun rfl (by decide) (Hown.out.ext ((Ext.of_drewN wr _).alloc _)) m Hm.out.symm rfl rfl (heap_alloc_new _ _) (by omega) (by omega) (Below.chain hb hz ((Ext.of_drewN wr _).alloc _)) (by simp; omega) ?_; intro A1 c1 w1 hown1 _ hb1 hz1; rw [← HR.out] at hown1; have Hown1 := Lib.hid hown1; clear hown1)
             go_roundw
             case rel => exact ⟨j + t, m + 1, A1, c1, by omega, by omega, by go_num, rfl, by rw [HR.out, List.length_append, ← Hm.out]; rfl, Hown1.out, HST, hb1⟩
             case measure => simp [intOf]; omega
         · have HR := Lib.hid (rsp_run (vs := vs) (j := j) (m := t) (v := v) ht1 (by have := Hl.out; omega) hs.out HL.out)
           have hw1 : (wr.drewN q).heap.size = wr.heap.size := rfl
           have HF := Lib.hid (show lastV none (rsp (vs.take (j + t))) = some v by rw [HR.out, lastV_snoc])
           have hge : decide ((j : Int) + (t : Int) < (n : Int)) = false := decide_eq_false (by omega)
           have HST : Hid (j + t < n → lastV none (rsp (vs.take (j + t))) ≠ some (vs.getD (j + t) 0)) := Lib.hid (fun h => absurd h hend)
           have hc4 : (wr.drewN q).cell? ⟨b, o + j, none⟩ = some (.int .i64 v) := hc
           clear hs
           go_wp2_with fail
           go_quiet (fail)
           go_wp2_with (at_builtin; refine wpList_pushG (w0 := w) (base := w.heap.size) shR (v, (t : Int)) 196 rfl _ _ 191 rfl _ 16 Tryz.underlying191 Tryz.infoRun rfl (by decide) (Hown.out.ext ((Ext.of_drewN wr _).alloc _)) m Hm.out.symm rfl rfl (heap_alloc_new _ _) (by omega) (by omega) (Below.chain hb hz ((Ext.of_drewN wr _).alloc _)) (by simp; omega) ?_; intro A1 c1 w1 hown1 _ hb1 hz1; rw [← HR.out] at hown1; have Hown1 := Lib.hid hown1; clear hown1)
           go_roundw
           case rel => exact ⟨j + t, m + 1, A1, c1, by omega, by omega, by go_num, rfl, by rw [HR.out, List.length_append, ← Hm.out]; rfl, Hown1.out, HST, hb1⟩
           case measure => simp [intOf]; omega
     · obtain rfl : j = n := by omega
       rw [List.take_of_length_le (by have := Hl.out; omega)] at hm hown
       subst hm
       go_wp2_with fail
       go_ret2
       exact ⟨A', c', rfl, hown, hb⟩
def EncPost (vs : List Int) (w : World) (e : Ending) (w' : World) : Prop :=
 ∃ A' c', e = .returned (.tuple #[.slice A' (encode8 vs).1.length c', .int .i64 (encode8 vs).2]) ∧ Own .u8 5 w' w.heap.size A' c' (encode8 vs).1 ∧ Ext w w'
theorem encL_le : ∀ {rs : List (Int × Int)}, (∀ r ∈ rs, R64 r.1 ∧ 0 ≤ r.2 ∧ r.2 ≤ 4096) → (encL rs).length ≤ rs.length * 20 := by
 intro rs
 induction rs with
 | nil => intro _; exact Nat.le_refl _
 | cons r rs ih =>
   intro h
   have h1 := ih (fun q hq => h q (by simp [hq]))
   obtain ⟨h2, h3, h4⟩ := h r (by simp)
   obtain ⟨f0, f1⟩ := fold_range h2
   have a1 := vsize_le (u := (foldS r.1).toNat) (by omega)
   have a2 := vsize_le (u := r.2.toNat) (by omega)
   rw [encL_cons, List.length_append, List.length_append, vput_len, vput_len, List.length_cons]
   omega
theorem encL_take {rs : List (Int × Int)} {j : Nat} (h : j < rs.length) : encL (rs.take (j + 1)) = encL (rs.take j) ++ vput (foldS (rs.getD j (0, 0)).1).toNat ++ vput (rs.getD j (0, 0)).2.toNat := by
 rw [take_nextG rs j (x := rs.getD j (0, 0)) (by rw [List.getD, List.getElem?_eq_getElem h]; rfl), encL_snoc]
theorem rsp_each {vs : List Int} (h : R64s vs) (hl : vs.length ≤ 4096) : ∀ r ∈ rsp vs, R64 r.1 ∧ 0 ≤ r.2 ∧ r.2 ≤ 4096 := fun r hr => by
 have h1 := (rsp_good h).mem r hr
 have h2 := (rsp_len h).2 r hr
 exact ⟨h1.2, by omega, by omega⟩
theorem mem_getD {T : Type} {xs : List T} {j : Nat} {d : T} (h : j < xs.length) : xs.getD j d ∈ xs := by
 rw [List.getD, List.getElem?_eq_getElem h]; exact List.getElem_mem h
set_option maxHeartbeats 3200000 in
theorem encode_any (A : Option Addr) (n c : Nat) (vs : List Int) (w : World) (hx : RdG shZ w A n vs) (hv : R64s vs) :
   Calls Tryz.prog 142 #[.slice A n c] w (EncPost vs w) := by
 have Hl := Lib.hid hx.len
 by_cases hbig : 4096 < n
 · have hs : split8 vs = ([], 4) := by unfold split8; rw [if_pos (by have := Hl.out; omega)]
   have hs2 : encode8 vs = ([], 4) := by unfold encode8; rw [if_pos (by have := Hl.out; omega)]
   unfold EncPost
   rw [hs2]
   have Hs := Lib.hid hs
   clear hs hs2
   go_enter Tryz.func142, Tryz.ntmps142
   go_wp2_with fail
   refine (split_any A n c vs w hx hv).mono ?_
   rintro e w1 ⟨A1, c1, rfl, hown, he1⟩
   rw [Hs.out] at hown ⊢
   go_wp2_with fail
   go_ret2
   exact ⟨none, 0, rfl, Own.nil _ _ _ _, he1⟩
 · have hs : split8 vs = (rsp vs, 0) := by unfold split8; rw [if_neg (by have := Hl.out; omega)]
   have hs2 : encode8 vs = (encR (rsp vs), 0) := by unfold encode8; rw [if_neg (by have := Hl.out; omega)]
   have hea := rsp_each hv (by have := Hl.out; omega)
   have hr4 : (rsp vs).length ≤ 4096 := Nat.le_trans (rsp_len hv).1 (by have := Hl.out; omega)
   obtain ⟨rs, hrs⟩ : ∃ rs, rs = rsp vs := ⟨_, rfl⟩
   unfold EncPost
   rw [hs2, ← hrs]
   rw [← hrs] at hs hea hr4
   obtain ⟨m, hm⟩ : ∃ m, m = rs.length := ⟨_, rfl⟩
   obtain ⟨P, hP⟩ : ∃ P, P = vput m := ⟨_, rfl⟩
   have hPl : P.length ≤ 10 := by rw [hP, vput_len]; exact vsize_le (by omega)
   have hR : encR rs = P ++ encL rs := by unfold encR; rw [← hm, ← hP]
   rw [hR]
   rw [← hm] at hr4
   have Hm := Lib.hid hm
   have Hs := Lib.hid hs
   have HP := Lib.hid hP
   have Hea := Lib.hid hea
   clear hs hs2 hrs hm hP hR hea
   go_enter Tryz.func142, Tryz.ntmps142
   go_wp2_with fail
   refine (split_any A n c vs w hx hv).mono ?_
   rintro e w1 ⟨A1, c1, rfl, hown, he1⟩
   rw [Hs.out] at hown ⊢
   simp only at hown ⊢
   rw [← Hm.out]
   have hrd := hown.rd' Hm.out.symm
   have hz1 := he1.size
   clear hown
   go_wp2_with fail
   refine (put_any m _ (by omega)).mono ?_
   rintro e w2 ⟨A2, c2, rfl, hown2, he2⟩
   rw [← HP.out] at hown2 ⊢
   have hz2 := he2.size
   go_wp2_with fail
   go_loopw [6, 22] (fun v i wr => ∃ (j L : Nat) (A' : Option Addr) (c' : Nat), j ≤ m ∧ i = .int .i64 j ∧ v = .slice A' L c' ∧ L = (P ++ encL (rs.take j)).length ∧ L ≤ 10 + j * 20 ∧ Own .u8 5 wr w1.heap.size A' c' (P ++ encL (rs.take j)) ∧ Below w1.heap.size w1 wr) (fun _ i _ => m - (intOf i).toNat)
   case atStart => exact ⟨0, P.length, A2, c2, Nat.zero_le _, rfl, rfl, by simp [encL], by omega, by simpa [encL] using hown2, he2⟩
   case round =>
     obtain ⟨j, L, A', c', hj, rfl, rfl, hL, hLb, hown3, hb⟩ := hrel
     have hz : w1.heap.size ≤ wr.heap.size := hb.size
     by_cases hlt : j < m
     · obtain ⟨b, o, hA, hbl, hc0, hc1⟩ := hrd.atR hlt
       have hq := Hea.out _ (mem_getD (d := (0, 0)) (show j < rs.length by have := Hm.out; omega))
       have hT := encL_take (rs := rs) (j := j) (by have := Hm.out; omega)
       obtain ⟨⟨v, k0⟩, hqe⟩ : ∃ q, q = rs.getD j (0, 0) := ⟨_, rfl⟩
       rw [← hqe] at hq hT hc0 hc1
       simp only at hq hT hc0 hc1
       obtain ⟨hv1, hk1, hk2⟩ := hq
       obtain ⟨f0, f1⟩ := fold_range hv1
       obtain ⟨u, hu⟩ : ∃ u : Nat, foldS v = (u : Int) := ⟨(foldS v).toNat, by omega⟩
       obtain ⟨k, rfl⟩ : ∃ k : Nat, k0 = (k : Int) := ⟨k0.toNat, by omega⟩
       rw [hu] at f0 f1 hT
       simp only [Int.toNat_natCast] at hT
       have hul := vsize_le (u := u) (by omega)
       have hkl := vsize_le (u := k) (by omega)
       rw [← vput_len] at hul hkl
       obtain ⟨V, hV⟩ : ∃ V, V = vput u := ⟨_, rfl⟩
       obtain ⟨V2, hV2⟩ : ∃ V2, V2 = vput k := ⟨_, rfl⟩
       rw [← hV] at hul hT
       rw [← hV2] at hkl hT
       have HV := Lib.hid hV
       have HV2 := Lib.hid hV2
       have HU := Lib.hid hu
       have HT := Lib.hid hT
       have HL := Lib.hid hL
       have HC1 := Lib.hid hc1
       have hwc0 : wr.cell? ⟨b, o + j * 2, none⟩ = some (.int .i64 v) := (Below.cell hb (p := ⟨b, o + j * 2, none⟩) hbl).trans hc0
       have hv0 := hv1.1
       have hv2 := hv1.2
       subst hA
       clear hqe hT hu hV hV2 hL hc0 hc1 hv1
       go_wp2_with fail
       refine (fold_any v _ hv0 hv2).mono ?_
       rintro e w3 ⟨rfl, rfl⟩
       rw [HU.out]
       go_wp2_with fail
       refine (put_any u _ (by omega)).mono ?_
       rintro e w3 ⟨A3, c3, rfl, hown4, he3⟩
       rw [← HV.out] at hown4 ⊢
       have hz3 := he3.size
       go_wp2_with (at_builtin; refine wpList_pushes (w0 := w1) (base := w1.heap.size) .u8 5 rfl _ _ 22 rfl _ 1 Tryz.underlying22 Tryz.infoU8 rfl (hown3.ext he3) L HL.out.symm rfl rfl hown4.rd (by omega) (by omega) (Below.chain hb hz he3) (by omega) ?_; intro A4 c4 w4 hown5 hb4 hz4; have hwc1 : w4.cell? ⟨b, o + j * 2 + 1, none⟩ = some (.int .i64 (k : Int)) := (Below.cell hb4 (p := ⟨b, o + j * 2 + 1, none⟩) hbl).trans HC1.out)
       refine (put_any k _ (by omega)).mono ?_
       rintro e w5 ⟨A5, c5, rfl, hown6, he5⟩
       rw [← HV2.out] at hown6 ⊢
       have hz5 := he5.size
       have hl4 : (P ++ encL (rs.take j) ++ V).length = L + V.length := by rw [List.length_append, HL.out]
       have HL4 := Lib.hid hl4
       clear hl4
       go_wp2_with (at_builtin; refine wpList_pushes (w0 := w1) (base := w1.heap.size) .u8 5 rfl _ _ 22 rfl _ 1 Tryz.underlying22 Tryz.infoU8 rfl (hown5.ext he5) (L + V.length) HL4.out rfl rfl hown6.rd (by omega) (by omega) (Below.chain hb4 hz4 he5) (by omega) ?_; intro A6 c6 w6 hown7 hb6 hz6)
       go_roundw
       case rel =>
         have e1 : P ++ encL (rs.take j) ++ V ++ V2 = P ++ encL (rs.take (j + 1)) := by rw [HT.out]; simp
         rw [e1] at hown7
         exact ⟨j + 1, L + V.length + V2.length, A6, c6, by omega, by go_num, by simp, by rw [← e1, List.length_append, HL4.out], by omega, hown7, hb6⟩
       case measure => simp [intOf]; omega
     · obtain rfl : j = m := by omega
       rw [List.take_of_length_le (by have := Hm.out; omega)] at hL hown3
       subst hL
       go_wp2_with fail
       go_ret2
       exact ⟨A', c', rfl, hown3.mono hz1, he1.trans hb⟩
set_option maxHeartbeats 3200000 in
theorem refEncode_any (A : Option Addr) (n c : Nat) (vs : List Int) (w : World) (hx : RdG shZ w A n vs) (hv : R64s vs) :
   Calls Tryz.prog 197 #[.slice A n c] w (EncPost vs w) := by
 have Hl := Lib.hid hx.len
 by_cases hbig : 4096 < n
 · have hs : split8 vs = ([], 4) := by unfold split8; rw [if_pos (by have := Hl.out; omega)]
   have hs2 : encode8 vs = ([], 4) := by unfold encode8; rw [if_pos (by have := Hl.out; omega)]
   unfold EncPost
   rw [hs2]
   have Hs := Lib.hid hs
   clear hs hs2
   go_enter Tryz.func197, Tryz.ntmps197
   go_wp2_with fail
   refine (refSplit_any A n c vs w hx hv).mono ?_
   rintro e w1 ⟨A1, c1, rfl, hown, he1⟩
   rw [Hs.out] at hown ⊢
   go_wp2_with fail
   go_ret2
   exact ⟨none, 0, rfl, Own.nil _ _ _ _, he1⟩
 · have hs : split8 vs = (rsp vs, 0) := by unfold split8; rw [if_neg (by have := Hl.out; omega)]
   have hs2 : encode8 vs = (encR (rsp vs), 0) := by unfold encode8; rw [if_neg (by have := Hl.out; omega)]
   have hea := rsp_each hv (by have := Hl.out; omega)
   have hr4 : (rsp vs).length ≤ 4096 := Nat.le_trans (rsp_len hv).1 (by have := Hl.out; omega)
   obtain ⟨rs, hrs⟩ : ∃ rs, rs = rsp vs := ⟨_, rfl⟩
   unfold EncPost
   rw [hs2, ← hrs]
   rw [← hrs] at hs hea hr4
   obtain ⟨m, hm⟩ : ∃ m, m = rs.length := ⟨_, rfl⟩
   obtain ⟨P, hP⟩ : ∃ P, P = vput m := ⟨_, rfl⟩
   have hPl : P.length ≤ 10 := by rw [hP, vput_len]; exact vsize_le (by omega)
   have hR : encR rs = P ++ encL rs := by unfold encR; rw [← hm, ← hP]
   rw [hR]
   rw [← hm] at hr4
   have Hm := Lib.hid hm
   have Hs := Lib.hid hs
   have HP := Lib.hid hP
   have Hea := Lib.hid hea
   clear hs hs2 hrs hm hP hR hea
   go_enter Tryz.func197, Tryz.ntmps197
   go_wp2_with fail
   refine (refSplit_any A n c vs w hx hv).mono ?_
   rintro e w1 ⟨A1, c1, rfl, hown, he1⟩
   rw [Hs.out] at hown ⊢
   simp only at hown ⊢
   rw [← Hm.out]
   have hrd := hown.rd' Hm.out.symm
   have hz1 := he1.size
   clear hown
   go_wp2_with fail
   refine (refPut_any m _ (by omega)).mono ?_
   rintro e w2 ⟨A2, c2, rfl, hown2, he2⟩
   rw [← HP.out] at hown2 ⊢
   have hz2 := he2.size
   go_wp2_with fail
   go_loopw [6, 7] (fun v i wr => ∃ (j L : Nat) (A' : Option Addr) (c' : Nat), j ≤ m ∧ i = .int .i64 j ∧ v = .slice A' L c' ∧ L = (P ++ encL (rs.take j)).length ∧ L ≤ 10 + j * 20 ∧ Own .u8 5 wr w1.heap.size A' c' (P ++ encL (rs.take j)) ∧ Below w1.heap.size w1 wr) (fun _ i _ => m - (intOf i).toNat)
   case atStart => exact ⟨0, P.length, A2, c2, Nat.zero_le _, rfl, rfl, by simp [encL], by omega, by simpa [encL] using hown2, he2⟩
   case round =>
     obtain ⟨j, L, A', c', hj, rfl, rfl, hL, hLb, hown3, hb⟩ := hrel
     have hz : w1.heap.size ≤ wr.heap.size := hb.size
     by_cases hlt : j < m
     · obtain ⟨b, o, hA, hbl, hc0, hc1⟩ := hrd.atR hlt
       have hq := Hea.out _ (mem_getD (d := (0, 0)) (show j < rs.length by have := Hm.out; omega))
       have hT := encL_take (rs := rs) (j := j) (by have := Hm.out; omega)
       obtain ⟨⟨v, k0⟩, hqe⟩ : ∃ q, q = rs.getD j (0, 0) := ⟨_, rfl⟩
       rw [← hqe] at hq hT hc0 hc1
       simp only at hq hT hc0 hc1
       obtain ⟨hv1, hk1, hk2⟩ := hq
       obtain ⟨f0, f1⟩ := fold_range hv1
       obtain ⟨u, hu⟩ : ∃ u : Nat, foldS v = (u : Int) := ⟨(foldS v).toNat, by omega⟩
       obtain ⟨k, rfl⟩ : ∃ k : Nat, k0 = (k : Int) := ⟨k0.toNat, by omega⟩
       rw [hu] at f0 f1 hT
       simp only [Int.toNat_natCast] at hT
       have hul := vsize_le (u := u) (by omega)
       have hkl := vsize_le (u := k) (by omega)
       rw [← vput_len] at hul hkl
       obtain ⟨V, hV⟩ : ∃ V, V = vput u := ⟨_, rfl⟩
       obtain ⟨V2, hV2⟩ : ∃ V2, V2 = vput k := ⟨_, rfl⟩
       rw [← hV] at hul hT
       rw [← hV2] at hkl hT
       have HV := Lib.hid hV
       have HV2 := Lib.hid hV2
       have HU := Lib.hid hu
       have HT := Lib.hid hT
       have HL := Lib.hid hL
       have HC1 := Lib.hid hc1
       have hwc0 : wr.cell? ⟨b, o + j * 2, none⟩ = some (.int .i64 v) := (Below.cell hb (p := ⟨b, o + j * 2, none⟩) hbl).trans hc0
       have hv0 := hv1.1
       have hv2 := hv1.2
       subst hA
       clear hqe hT hu hV hV2 hL hc0 hc1 hv1
       go_wp2_with fail
       refine (refFold_any v _ hv0 hv2).mono ?_
       rintro e w3 ⟨rfl, rfl⟩
       rw [HU.out]
       go_wp2_with fail
       refine (refPut_any u _ (by omega)).mono ?_
       rintro e w3 ⟨A3, c3, rfl, hown4, he3⟩
       rw [← HV.out] at hown4 ⊢
       have hz3 := he3.size
       have hrd3 := (hown3.rd' HL.out.symm).ext he3
       go_wp2_with fail
       refine (cat_any _ _ L _ V.length _ _ _ _ hrd3 hown4.rd (by omega)).mono ?_
       rintro e w4 ⟨A4, c4, rfl, hown5, he4⟩
       have hb4 : Below w1.heap.size w1 w4 := Below.chain hb hz (he3.trans he4)
       have hz4 := he4.size
       have hwc1 : w4.cell? ⟨b, o + j * 2 + 1, none⟩ = some (.int .i64 (k : Int)) := (Below.cell hb4 (p := ⟨b, o + j * 2 + 1, none⟩) hbl).trans HC1.out
       go_wp2_with fail
       refine (refPut_any k _ (by omega)).mono ?_
       rintro e w5 ⟨A5, c5, rfl, hown6, he5⟩
       rw [← HV2.out] at hown6 ⊢
       have hz5 := he5.size
       have hl4 : (P ++ encL (rs.take j) ++ V).length = L + V.length := by rw [List.length_append, HL.out]
       have HL4 := Lib.hid hl4
       clear hl4
       have hrd5 := (hown5.rd' HL4.out).ext he5
       go_wp2_with fail
       refine (cat_any _ _ (L + V.length) _ V2.length _ _ _ _ hrd5 hown6.rd (by omega)).mono ?_
       rintro e w6 ⟨A6, c6, rfl, hown7, he6⟩
       have hb6 : Below w1.heap.size w1 w6 := Below.chain hb4 (by omega) (he5.trans he6)
       have hown8 := hown7.mono (show w1.heap.size ≤ w5.heap.size by omega)
       clear hown7
       go_wp2_with fail
       go_roundw
       case rel =>
         have e1 : P ++ encL (rs.take j) ++ V ++ V2 = P ++ encL (rs.take (j + 1)) := by rw [HT.out]; simp
         rw [e1] at hown8
         exact ⟨j + 1, L + V.length + V2.length, A6, c6, by omega, by go_num, by simp, by rw [← e1, List.length_append, HL4.out], by omega, hown8, hb6⟩
       case measure => simp [intOf]; omega
     · obtain rfl : j = m := by omega
       rw [List.take_of_length_le (by have := Hm.out; omega)] at hL hown3
       subst hL
       go_wp2_with fail
       go_ret2
       exact ⟨A', c', rfl, hown3.mono hz1, he1.trans hb⟩
set_option maxHeartbeats 1600000 in
theorem pencode_any (A : Option Addr) (n c : Nat) (ss : List Sl) (w : World) (hx : TxL w A n ss) (hn : n ≤ 140737488355328) :
   Calls Tryz.prog 147 #[.slice A n c] w (PEncPost (pencR (bodies ss)) w) := by
 have Hl := Lib.hid hx.len
 have hbl : (bodies ss).length = n := by rw [bodies_len, Hl.out]
 have HL := Lib.hid (containsLong11_any A n c ss w hx.rd hn)
 by_cases hbig : 4096 < n
 · have HR := Lib.hid (pencR_bad (ss := bodies ss) (.inl (by rw [hbl]; exact hbig)))
   clear hbl HL
   go_enter Tryz.func147, Tryz.ntmps147
   go_wp2
   go_ret2
   exact PEncPost.bad _ HR.out (Ext.refl w)
 · cases hany : anyLong (bodies ss) with
   | true =>
     have HR := Lib.hid (pencR_bad (.inr hany))
     rw [hany] at HL
     clear hbl hany
     go_enter Tryz.func147, Tryz.ntmps147
     go_wp2_with fail
     refine HL.out.mono ?_
     rintro e w1 ⟨rfl, rfl⟩
     go_wp2
     go_ret2
     exact PEncPost.bad _ HR.out (Ext.refl _)
   | false =>
     have HR := Lib.hid (pencR_good (by rw [hbl]; omega) hany)
     have hlong := anyLong_no hany
     have Hvl := Lib.hid (penc_len (by rw [hbl]; omega) hlong)
     have Hlong := Lib.hid hlong
     rw [hany] at HL
     obtain ⟨V, hV⟩ : ∃ V, V = penc (bodies ss) := ⟨_, rfl⟩
     rw [← hV] at HR Hvl
     have HV := Lib.hid hV
     have Hbl := Lib.hid hbl
     clear hV hbl hany hlong
     go_enter Tryz.func147, Tryz.ntmps147
     go_wp2_with fail
     refine HL.out.mono ?_
     rintro e w1 ⟨rfl, rfl⟩
     go_wp2_with fail
     refine (put_any n _ (by omega)).mono ?_
     rintro e w2 ⟨A2, c2, rfl, hown2, he2⟩
     have HP0 := Lib.hid (show vput n ++ pencA ((bodies ss).take 0) ((bodies ss).drop 0) = V by rw [HV.out, penc, Hbl.out]; rfl)
     go_wp2_with fail
     go_loopw [4, 5, 6, 7, 21] (fun v _ _ _ i wr => ∃ (j : Nat) (P : List Nat) (A' : Option Addr) (c' : Nat), j ≤ n ∧ i = .int .i64 j ∧ v = .slice A' P.length c' ∧ Hid (P ++ pencA ((bodies ss).take j) ((bodies ss).drop j) = V) ∧ Own .u8 5 wr w1.heap.size A' c' P ∧ Ext w1 wr) (fun _ _ _ _ i _ => n - (intOf i).toNat)
     case atStart => exact ⟨0, _, A2, c2, Nat.zero_le _, rfl, rfl, HP0.out, hown2, he2⟩
     case round =>
       clear HP0 hown2 he2
       obtain ⟨j, P, A', c', hj, rfl, rfl, HP, hown, he⟩ := hrel
       by_cases hlt : j < n
       · obtain ⟨b, o, s, rfl, hf, hc, _⟩ := (hx.ext he).at_ hlt
         have hs := hx.each s (List.mem_of_getElem? hf)
         have hbj := bodies_at hf
         have hst := pencA_step hbj
         have hah := ahead_take (ss := bodies ss) (j := j) (by rw [Hbl.out]; exact hj)
         have hsl : s.body.length ≤ 200 := Hlong.out _ (List.mem_of_getElem? hbj)
         obtain ⟨sA, sc, body⟩ := s
         simp only at hc hs hsl hst
         obtain ⟨srd, su8, scap, stop, slen⟩ := hs
         simp only at srd su8 scap stop slen
         obtain ⟨k, hk⟩ : ∃ k, k = cp (ahead ((bodies ss).take j)) body := ⟨_, rfl⟩
         have hkb : k ≤ body.length := by rw [hk]; exact (cp_le _ _).2
         have hN : (P ++ vput k ++ vput (body.length - k) ++ body.drop k) ++ pencA ((bodies ss).take (j + 1)) ((bodies ss).drop (j + 1)) = V := by
           rw [← HP.out, hst, ptext, ← hk]
           simp
         have hPl : P.length ≤ 1000000 := by have := Hvl.out; rw [← HP.out, List.length_append] at this; omega
         have HN := Lib.hid hN
         have Hk := Lib.hid hk
         clear hN hst hbj hk HP
         obtain ⟨m, hm⟩ : ∃ m, m = body.length := ⟨_, rfl⟩
         rw [← hm] at hc srd scap hsl hkb HN slen
         have Hm := Lib.hid hm
         clear hm
         have sl9 := run_from sA m sc k hkb
         have sh9 := srd.offA hkb scap
         obtain ⟨A9, hA9⟩ : ∃ A9, A9 = offA sA k sc := ⟨_, rfl⟩
         rw [← hA9] at sl9 sh9
         have Hsl9 := Lib.hid sl9
         have Hsh9 := Lib.hid sh9
         clear sl9 sh9 hA9
         have hmk : (m : Int) - (k : Int) = ((m - k : Nat) : Int) := by omega
         have hk200 : k ≤ 200 := by omega
         have hmk200 : m - k ≤ 200 := by omega
         have Hkb := Lib.hid hkb
         clear hkb
         by_cases hw16 : j % 16 = 0
         · have hd : decide (j % 16 = 0) = true := decide_eq_true hw16
           have hk0 : k = 0 := by rw [Hk.out, hah, if_pos hw16]; rfl
           have Hk0 := Lib.hid hk0
           clear hk0
           go_wp2_with fail
           refine (isWhole_any j _ (by omega)).mono ?_
           rintro e w3 ⟨rfl, rfl⟩
           rw [hd]
           go_wp2_with fail
           rw [show Value.int .i64 0 = Value.int .i64 (k : Int) by rw [Hk0.out]; rfl, show Value.int .u64 0 = Value.int .u64 (k : Int) by rw [Hk0.out]; rfl]
           refine (put_any k _ (by omega)).mono ?_
           rintro e w4 ⟨A4, c4, rfl, hown4, he4⟩
           have sl9 := Hsl9.out
           have hown3 := hown.ext he4
           have hE4 := he.trans he4
           have hv1 := vput_le (u := k) (by omega)
           go_wp2_with (at_builtin; refine wpList_pushes .u8 5 rfl _ _ 22 rfl _ 1 Tryz.underlying22 Tryz.infoU8 rfl hown3 P.length rfl rfl rfl hown4.rd (by omega) (by omega) hE4 hE4.size ?_; intro A5 c5 w5 hown5 hb5 hz5)
           refine (put_any (m - k) _ (by omega)).mono ?_
           rintro e w6 ⟨A6, c6, rfl, hown6, he6⟩
           have hown7 := hown5.ext he6
           have hE6 := Ext.trans hb5 he6
           have hv2 := vput_le (u := m - k) (by omega)
           have hL5 : (P ++ vput k).length = P.length + (vput k).length := List.length_append
           have hL7 : (P ++ vput k ++ vput (m - k)).length = P.length + (vput k).length + (vput (m - k)).length := by rw [List.length_append, List.length_append]
           go_wp2_with (first
             | (at_builtin; refine wpList_pushes .u8 5 rfl _ _ 22 rfl _ 1 Tryz.underlying22 Tryz.infoU8 rfl hown7 _ hL5 rfl rfl hown6.rd (by omega) (by omega) hE6 hE6.size ?_; intro A7 c7 w7 hown8 hb7 hz7)
             | (at_builtin; refine wpList_pushes  .u8 5 rfl _ _ 22 rfl _ 1 Tryz.underlying22 Tryz.infoU8 rfl hown8 _ hL7 rfl rfl (Hsh9.out.ext hb7) (by omega) (by omega) hb7 hz7 ?_; intro A8 c8 w8 hown9 hb8 hz8)
             | fail)
           rw [show Value.int .i64 (k : Int) = Value.int .i64 0 by rw [Hk0.out]; rfl]
           go_roundw
           case rel => exact ⟨j + 1, _, A8, c8, by omega, by go_num, by rw [List.length_append, List.length_append, List.length_append, List.length_drop, ← Hm.out], HN.out, hown9, hb8⟩
           case measure => simp [intOf]; omega
         · have hd : decide (j % 16 = 0) = false := decide_eq_false hw16
           obtain ⟨q, rfl⟩ : ∃ q, j = q + 1 := ⟨j - 1, by omega⟩
           obtain ⟨b', o', s', e', hf', hc', _⟩ := (hx.ext he).at_ (j := q) (by omega)
           have hs' := hx.each s' (List.mem_of_getElem? hf')
           injection e' with e'
           injection e' with e1 e2
           subst e1 e2
           have hk1 : k = cp s'.body body := by rw [Hk.out, hah, if_neg hw16, Nat.add_sub_cancel, bodies_get hf']
           obtain ⟨sA', sc', body'⟩ := s'
           simp only at hc' hs' hk1
           have Hk1 := Lib.hid hk1
           clear hk1 hf'
           go_wp2_with fail
           refine (isWhole_any (q + 1) _ (by omega)).mono ?_
           rintro e w3 ⟨rfl, rfl⟩
           rw [hd]
           go_wp2_with fail
           refine (palike_any _ _ _ _ _ _ _ _ _ (hs'.rd.ext he) (srd.ext he) hs'.len slen).mono ?_
           rintro e w3 ⟨rfl, q3, rfl⟩
           rw [← Hk1.out]
           go_wp2_with fail
           refine (put_any k _ (by omega)).mono ?_
           rintro e w4 ⟨A4, c4, rfl, hown4, he4⟩
           have sl9 := Hsl9.out
           have hown3 := (hown.ext (Ext.of_drewN _ q3)).ext he4
           have hE4 := (he.drewN q3).trans he4
           have hv1 := vput_le (u := k) (by omega)
           go_wp2_with (at_builtin; refine wpList_pushes .u8 5 rfl _ _ 22 rfl _ 1 Tryz.underlying22 Tryz.infoU8 rfl hown3 P.length rfl rfl rfl hown4.rd (by omega) (by omega) hE4 hE4.size ?_; intro A5 c5 w5 hown5 hb5 hz5)
           refine (put_any (m - k) _ (by omega)).mono ?_
           rintro e w6 ⟨A6, c6, rfl, hown6, he6⟩
           have hown7 := hown5.ext he6
           have hE6 := Ext.trans hb5 he6
           have hv2 := vput_le (u := m - k) (by omega)
           have hL5 : (P ++ vput k).length = P.length + (vput k).length := List.length_append
           have hL7 : (P ++ vput k ++ vput (m - k)).length = P.length + (vput k).length + (vput (m - k)).length := by rw [List.length_append, List.length_append]
           go_wp2_with (first
             | (at_builtin; refine wpList_pushes .u8 5 rfl _ _ 22 rfl _ 1 Tryz.underlying22 Tryz.infoU8 rfl hown7 _ hL5 rfl rfl hown6.rd (by omega) (by omega) hE6 hE6.size ?_; intro A7 c7 w7 hown8 hb7 hz7)
             | (at_builtin; refine wpList_pushes  .u8 5 rfl _ _ 22 rfl _ 1 Tryz.underlying22 Tryz.infoU8 rfl hown8 _ hL7 rfl rfl (Hsh9.out.ext hb7) (by omega) (by omega) hb7 hz7 ?_; intro A8 c8 w8 hown9 hb8 hz8)
             | fail)
           go_roundw
           case rel => exact ⟨q + 1 + 1, _, A8, c8, by omega, by go_num, by rw [List.length_append, List.length_append, List.length_append, List.length_drop, ← Hm.out], HN.out, hown9, hb8⟩
           case measure => simp [intOf]; omega
       · obtain rfl : j = n := by omega
         have hfin := Lib.hid (show P = V by rw [← HP.out, List.drop_of_length_le (by rw [Hbl.out]; exact Nat.le_refl _)]; simp [pencA])
         go_wp2
         go_ret2
         exact PEncPost.good _ HR.out (by rw [hfin.out]) (by rw [← hfin.out]; exact hown) he
theorem PEncPost.back {R : List Nat × Int} {w W w' : World} {e : Ending} (hE : Ext w W) (h : PEncPost R W e w') : PEncPost R w e w' := by
 obtain ⟨A', c', h1, h2, h3⟩ := h
 exact ⟨A', c', h1, h2.mono hE.size, hE.trans h3⟩
def valR (k cd : Int) (xs : List Ci) : List Nat × Int :=
 if cd = 2 then encode8 (xs.map Ci.num) else if cd = 3 then encode9 (xs.map Ci.num) else if cd = 4 then dencR (xs.map Ci.txt) else if cd = 5 then pencR (xs.map Ci.txt) else (plainL k xs, 0)
theorem bodies_sl (xs : List Ci) : bodies (xs.map Ci.sb) = xs.map Ci.txt := by unfold bodies; rw [List.map_map]; rfl
theorem RdX.nums {w : World} {A : Option Addr} {n : Nat} {xs : List Ci} (h : RdX w A n xs) : R64s (xs.map Ci.num) := by
 intro v hv
 obtain ⟨x, hx, rfl⟩ := List.mem_map.1 hv
 obtain ⟨j, hj, e⟩ := List.getElem_of_mem hx
 obtain ⟨_, _, y, _, _, hy, _, _, _, hin⟩ := h.at_ (j := j) (by rw [← h.1]; exact hj)
 rw [List.getElem?_eq_getElem hj, e] at hy
 rw [Option.some.inj hy]
 exact ⟨hin.lo, hin.hi⟩
set_option maxHeartbeats 2000000 in
theorem putValues_any (k cd : Int) (A : Option Addr) (n c : Nat) (xs : List Ci) (w : World) (hx : RdX w A n xs) (hc : CapX xs) (hn : n ≤ 4096) (h200 : ∀ x ∈ xs, x.txt.length ≤ 200) :
   Calls Tryz.prog 107 #[.int .i64 k, .int .i64 cd, .slice A n c] w (PEncPost (valR k cd xs) w) := by
 have HN := Lib.hid (fun W (hW : Ext w W) => toNumbers_any A n c xs W (hx.ext hW) (by omega))
 have HT := Lib.hid (fun W (hW : Ext w W) => toTexts_any A n c xs W (hx.ext hW) (by omega))
 have HP := Lib.hid (fun W (hW : Ext w W) => putPlain_any k A n c xs W (hx.ext hW) hn h200)
 have Hl := Lib.hid (show (xs.map Ci.num).length = n by rw [List.length_map]; exact hx.1)
 have HX := Lib.hid hx
 have HC := Lib.hid hc
 have Hn := Lib.hid hn
 clear hx hc hn h200
 by_cases h2 : cd = 2
 · subst h2
   have HV := Lib.hid (show valR k 2 xs = encode8 (xs.map Ci.num) from rfl)
   go_enter Tryz.func107, Tryz.ntmps107
   go_wp2_with fail
   refine (HN.out _ (Ext.refl _)).mono ?_
   rintro e w1 ⟨A1, c1, rfl, ho, he⟩
   have hr := ho.rd' Hl.out
   go_wp2_with fail
   refine (encode_any A1 n c1 _ w1 hr HX.out.nums).mono ?_
   rintro e w2 ⟨A2, c2, rfl, ho2, he2⟩
   go_wp2_with fail
   go_ret2
   rw [HV.out]
   exact PEncPost.back he ⟨A2, c2, rfl, ho2, he2⟩
 by_cases h3 : cd = 3
 · subst h3
   have HV := Lib.hid (show valR k 3 xs = encode9 (xs.map Ci.num) from rfl)
   go_enter Tryz.func107, Tryz.ntmps107
   go_wp2_with fail
   refine (HN.out _ (Ext.refl _)).mono ?_
   rintro e w1 ⟨A1, c1, rfl, ho, he⟩
   have hr := ho.rd' Hl.out
   go_wp2_with fail
   refine (p9encode_any A1 n c1 _ w1 hr HX.out.nums).mono ?_
   rintro e w2 ⟨A2, c2, rfl, ho2, he2⟩
   go_wp2_with fail
   go_ret2
   rw [HV.out]
   exact PEncPost.back he ⟨A2, c2, rfl, ho2, he2⟩
 by_cases h4 : cd = 4
 · subst h4
   have HV := Lib.hid (show valR k 4 xs = dencR (xs.map Ci.txt) from rfl)
   go_enter Tryz.func107, Tryz.ntmps107
   go_wp2_with fail
   refine (HT.out _ (Ext.refl _)).mono ?_
   rintro e w1 ⟨A1, c1, rfl, ho, he⟩
   have hr := HX.out.txl HC.out ho HX.out.1 he
   go_wp2_with fail
   refine (dencode_any A1 n c1 _ w1 hr (by have := Hn.out; omega)).mono ?_
   rintro e w2 ⟨A2, c2, rfl, ho2, he2⟩
   go_wp2_with fail
   go_ret2
   rw [HV.out, ← bodies_sl]
   exact PEncPost.back he ⟨A2, c2, rfl, ho2, he2⟩
 by_cases h5 : cd = 5
 · subst h5
   have HV := Lib.hid (show valR k 5 xs = pencR (xs.map Ci.txt) from rfl)
   go_enter Tryz.func107, Tryz.ntmps107
   go_wp2_with fail
   refine (HT.out _ (Ext.refl _)).mono ?_
   rintro e w1 ⟨A1, c1, rfl, ho, he⟩
   have hr := HX.out.txl HC.out ho HX.out.1 he
   go_wp2_with fail
   refine (pencode_any A1 n c1 _ w1 hr (by have := Hn.out; omega)).mono ?_
   rintro e w2 ⟨A2, c2, rfl, ho2, he2⟩
   go_wp2_with fail
   go_ret2
   rw [HV.out, ← bodies_sl]
   exact PEncPost.back he ⟨A2, c2, rfl, ho2, he2⟩
 have HV := Lib.hid (show valR k cd xs = (plainL k xs, 0) by unfold valR; rw [if_neg h2, if_neg h3, if_neg h4, if_neg h5])
 have b2 : (cd == 2) = false := beq_eq_false_iff_ne.2 h2
 have b3 : (cd == 3) = false := beq_eq_false_iff_ne.2 h3
 have b4 : (cd == 4) = false := beq_eq_false_iff_ne.2 h4
 have b5 : (cd == 5) = false := beq_eq_false_iff_ne.2 h5
 clear h2 h3 h4 h5
 go_enter Tryz.func107, Tryz.ntmps107
 go_wp2_with fail
 refine (HP.out _ (Ext.refl _)).mono ?_
 rintro e w1 ⟨A1, c1, rfl, ho, he⟩
 go_wp2_with fail
 go_ret2
 rw [HV.out]
 exact ⟨A1, c1, rfl, ho, he⟩
end Go.Proofs.YthibbgmicmfkfaaGreat
