import Derived.Test.YthibbgmicmfkfaaGreatGW19
import Derived.Lib.SlicesS
import Derived.OrdersIn
import Derived.RangeFuncCalls
import Derived.RangeFuncNested
import Derived.RangeFuncBound
import Derived.RangeFuncLeaves
import Derived.Shelf.Abstract
import Derived.Shelf.RegionOpen
import Derived.WalkKit
import Derived.OwnWalkIn
import Derived.TacticsInMore
import Derived.LoopNIn
import Derived.LoopIn
namespace Go.Proofs.YthibbgmicmfkfaaGreat
open Go.RowKit
set_option maxRecDepth 100000
theorem sstr_toList (xs : List Nat) : (sstr xs).data.toList = u8s xs := rfl
theorem u8s_inj {xs ys : List Nat} (hx : U8 xs) (hy : U8 ys) (h : u8s xs = u8s ys) : xs = ys := by
 rw [← n8s_u8s hx, ← n8s_u8s hy, h]
theorem sstr_beq {xs ys : List Nat} (hx : U8 xs) (hy : U8 ys) : ((sstr xs).toList == (sstr ys).toList) = decide (xs = ys) := by
 by_cases h : xs = ys
 · subst h
   rw [decide_eq_true rfl]
   exact (Lib.bytes_beq_iff _ _).2 rfl
 · rw [decide_eq_false h, Bool.eq_false_iff]
   intro q
   have q2 := (Lib.bytes_beq_iff _ _).1 q
   refine h (u8s_inj hx hy ?_)
   rw [← sstr_toList, ← sstr_toList, q2]
theorem bequal_any (A : Option Addr) (n c : Nat) (xs : List Nat) (A2 : Option Addr) (n2 c2 : Nat) (ys : List Nat) (w : World) (hx : Rd .u8 w A n xs) (hy : Rd .u8 w A2 n2 ys) (hu : U8 xs) (hv : U8 ys) :
   Calls Tryz.prog 66 #[.slice A n c, .slice A2 n2 c2] w fun e w' => e = .returned (.bool (decide (xs = ys))) ∧ w = w' := by
 have c1 := conv_str (c := c) hx
 have c2 := conv_str (c := c2) hy
 have HB := Lib.hid (sstr_beq hu hv)
 clear hx hy hu hv
 go_enter Tryz.func66, Tryz.ntmps66
 go_wp2_with fail
 go_ret
 exact ⟨by first | rfl | (rw [HB.out]; rfl), rfl⟩
def aheadV (key : List Nat) (v : Cv) : Bool := aheadR v.1 v.2.2 key
def atIs (key : List Nat) : List Cv → Bool
 | [] => false
 | v :: _ => decide (v.2.2 = key)
def seekF (f : FlM) (key : List Nat) : (Nat × Bool) × Int :=
 if f.ks = false then ((0, false), 1)
 else if frstN f.fs key = 0 then ((0, false), 0)
 else if (decF f (frstN f.fs key - 1)).2 ≠ 0 then ((0, false), (decF f (frstN f.fs key - 1)).2)
 else (((frstN f.fs key - 1) * f.per + ((decF f (frstN f.fs key - 1)).1.takeWhile (aheadV key)).length, atIs key ((decF f (frstN f.fs key - 1)).1.dropWhile (aheadV key))), 0)
theorem tw_at {p : Cv → Bool} : ∀ {V : List Cv} {j : Nat}, j ≤ V.length → (∀ i v, i < j → V[i]? = some v → p v = true) → (∀ v, V[j]? = some v → p v = false) → (V.takeWhile p).length = j ∧ V.dropWhile p = V.drop j
 | [], j, hj, _, _ => by
   have : j = 0 := by simpa using hj
   subst this
   exact ⟨rfl, rfl⟩
 | v :: V, 0, _, _, h2 => by
   have := h2 v rfl
   simp [this]
 | v :: V, j + 1, hj, h1, h2 => by
   have h0 := h1 0 v (by omega) rfl
   have ih := tw_at (V := V) (j := j) (p := p) (by simpa using hj) (fun i u hi hu => h1 (i + 1) u (by omega) (by simpa using hu)) (fun u hu => h2 u (by simpa using hu))
   simp [h0, ih.1, ih.2]
def SeekPost (R : (Nat × Bool) × Int) (w : World) (e : Ending) (w' : World) : Prop := e = .returned (.tuple #[.int .i64 (R.1.1 : Int), .bool R.1.2, .int .i64 R.2]) ∧ Ext w w'
set_option maxHeartbeats 6400000 in
theorem seekC_any (g : Nat) (f : FlM) (A : Option Addr) (n c : Nat) (key : List Nat) (w : World) (h : FilR w g f) (ok : FlOk f) (hx : Rd .u8 w A n key) (hu : U8 key) :
   Calls Tryz.prog 31 #[.pointer (some ⟨g, 0, none⟩), .slice A n c] w (SeekPost (seekF f key) w) := by
 have hfs : f.fs.length ≤ 4096 := by
   have h1 := ok.nf
   have h2 := ok.nb
   have h3 := ok.rows
   obtain ⟨p1, p2⟩ := ok.per
   have h4 : (f.rows + f.per - 1) / f.per ≤ f.rows := by
     rcases Nat.eq_zero_or_pos f.rows with q | q
     · rw [q, Nat.div_eq_of_lt (by omega)]
       exact Nat.le_refl _
     · rw [show f.rows + f.per - 1 = (f.rows - 1) + f.per by omega, Nat.add_div_right _ (by omega)]
       have := Nat.div_le_self (f.rows - 1) f.per
       omega
   omega
 obtain ⟨R, hR⟩ : ∃ R, R = seekF f key := ⟨_, rfl⟩
 rw [← hR]
 unfold seekF at hR
 obtain ⟨Ab, cb, Af, cf, bs, fs, hF, _⟩ := h.ex
 have HFl := Lib.hid h
 have HOk := Lib.hid ok
 have Hx := Lib.hid hx
 have Hu := Lib.hid hu
 obtain ⟨ks, hks⟩ : ∃ ks, ks = f.ks := ⟨_, rfl⟩
 obtain ⟨nf, hnf⟩ : ∃ n, n = f.fs.length := ⟨_, rfl⟩
 obtain ⟨p, hp⟩ : ∃ n, n = f.per := ⟨_, rfl⟩
 obtain ⟨p1, p2⟩ := ok.per
 rw [← hks, ← hp] at hR
 have K0 := Lib.hid (fun W (hW : Ext w W) => (show W.cell? ⟨g, 1, none⟩ = some (.bool ks) ∧ W.cell? ⟨g, 3, none⟩ = some (.int .i64 (p : Int)) ∧ W.cell? ⟨g, 5, none⟩ = some (.slice Af nf cf) from by
   rw [hks, hp, hnf]
   exact ⟨(hW.cells _ _ hF.lt).trans hF.c1, (hW.cells _ _ hF.lt).trans hF.c3, (hW.cells _ _ hF.lt).trans hF.c5⟩))
 rw [← hp] at p1 p2
 rw [← hnf] at hfs
 have HR := Lib.hid hR
 have Hnf := Lib.hid hnf
 have Hks := Lib.hid hks
 have Hp := Lib.hid hp
 clear h ok hF hx hu hR hnf hks hp
 obtain ⟨W0, hW0⟩ : ∃ W, W = (w.alloc (.cells #[.pointer (some ⟨g, 0, none⟩)] 47)).alloc (.cells #[.slice A n c] 22) := ⟨_, rfl⟩
 have hE0 : Ext w W0 := by rw [hW0]; exact ((Ext.refl _).alloc _).alloc _
 have hcf : W0.cell? ⟨w.heap.size, 0, none⟩ = some (.pointer (some ⟨g, 0, none⟩)) := by
   rw [hW0]
   exact (Below.cell ((Ext.refl _).alloc _) (p := ⟨w.heap.size, 0, none⟩) (by simp)).trans (cell_of_row _ w.heap.size 0 _ _ (0, 0) (heap_alloc_new w _))
 have hck : W0.cell? ⟨w.heap.size + 1, 0, none⟩ = some (.slice A n c) := by
   rw [hW0]
   have := heap_alloc_new (w.alloc (.cells #[.pointer (some ⟨g, 0, none⟩)] 47)) (.cells #[.slice A n c] 22)
   rw [World.size_alloc] at this
   exact cell_of_row _ (w.heap.size + 1) 0 _ _ (0, 0) this
 have hz0 : W0.heap.size = w.heap.size + 2 := by rw [hW0]; simp
 have KK := Lib.hid (fun W (hW : Ext W0 W) => (show W.cell? ⟨w.heap.size, 0, none⟩ = some (.pointer (some ⟨g, 0, none⟩)) ∧ W.cell? ⟨w.heap.size + 1, 0, none⟩ = some (.slice A n c) from ⟨(hW.cells _ _ (by omega)).trans hcf, (hW.cells _ _ (by omega)).trans hck⟩))
 have K := Lib.hid (fun W (hW : Ext W0 W) => K0.out W (hE0.trans hW))
 have HW0 := Lib.hid hW0
 clear hW0
 obtain ⟨l1, l2⟩ := KK.out W0 (Ext.refl _)
 obtain ⟨k1, k3, k5⟩ := K.out W0 (Ext.refl _)
 clear hcf hck
 rw [HW0.out] at l1 l2 k1 k3 k5
 cases ks with
 | false =>
   have HRn := Lib.hid (HR.out.trans (if_pos rfl))
   go_enter Tryz.func31, Tryz.ntmps31
   go_wp2_with fail
   go_ret3
   rw [HRn.out]
   exact ⟨rfl, HW0.out ▸ hE0⟩
 | true =>
   have HR1 := Lib.hid (HR.out.trans (if_neg (by decide)))
   clear HR
   have HS := Lib.hid (searchC_any nf (.pointer (some ⟨w.heap.size, 0, none⟩)) (.pointer (some ⟨w.heap.size + 1, 0, none⟩)) (fun i => decide (0 < ordT (f.fs.getD i []) key)) W0 hfs
     (fun W i hW hi => (seek1_any w.heap.size (w.heap.size + 1) g f A n c key i W (HFl.out.ext (hE0.trans hW)) HOk.out (KK.out W hW).1 (KK.out W hW).2 (by have := hW.size; omega) (by have := hW.size; omega) (Hx.out.ext (hE0.trans hW)) Hu.out (by rw [← Hnf.out]; exact hi)))
     (fun a b hab hb => rise_mono HOk.out.rise key hab (by rw [← Hnf.out]; exact hb)))
   rw [HW0.out] at HS
   have hmf : ∀ (fn : Fn) (first cap : Array Value) (w : World), (Instr.makeFunc fn first cap).run Tryz.prog w = .ok (.func fn first cap) w := fun _ _ _ _ => rfl
   go_enter Tryz.func31, Tryz.ntmps31
   go_wp2_with fail
   refine HS.out.mono ?_
   rintro e w1 ⟨b, rfl, hb, hlo, hhi, he1⟩
   have Hfr := Lib.hid (frstN_of (ss := f.fs) (key := key) (k := b) (by rw [← Hnf.out]; exact hb) (fun i hi => hlo i hi) (fun i h1 h2 => hhi i h1 (by rw [Hnf.out]; exact h2)))
   rw [Hfr.out] at HR1
   clear hlo hhi HS
   rw [← HW0.out] at he1
   obtain ⟨l1b, l2b⟩ := KK.out w1 he1
   obtain ⟨k1b, k3b, k5b⟩ := K.out w1 he1
   have HE1 := Lib.hid (hE0.trans he1)
   by_cases hb0 : b = 0
   · subst hb0
     have HRn := Lib.hid (HR1.out.trans (if_pos rfl))
     go_wp2_with fail
     go_ret3
     rw [HRn.out]
     exact ⟨rfl, HE1.out⟩
   obtain ⟨d, rfl⟩ : ∃ d, b = d + 1 := ⟨b - 1, by omega⟩
   have HR2 := Lib.hid (HR1.out.trans (if_neg hb0))
   rw [Nat.add_sub_cancel] at HR2
   clear HR1
   have hdb : d < f.bs.length := by
     have := HOk.out.nf
     rw [← Hnf.out] at this
     omega
   have hfa := decF_facts HOk.out hdb
   have HDe := Lib.hid (fun W (hW : Ext w W) => decodeC_any g f d W (HFl.out.ext hW) HOk.out hdb)
   unfold GcPost at HDe
   obtain ⟨⟨V, E⟩, hV⟩ : ∃ V, V = decF f d := ⟨_, rfl⟩
   rw [← hV] at HDe HR2 hfa
   simp only at HDe HR2 hfa
   obtain ⟨ln, hln⟩ : ∃ l, l = V.length := ⟨_, rfl⟩
   rw [← hln] at HDe
   have Hln := Lib.hid hln
   have Hfa := Lib.hid hfa.1
   have hlp : E = 0 → ln ≤ 4096 := fun q => by
     have := hfa.2 q
     rw [hln, this, ← Hp.out]
     omega
   have hbI : ((d + 1 : Nat) : Int) - 1 = (d : Int) := by omega
   have hbI2 : ((d : Int) + 1) - 1 = (d : Int) := by omega
   have hwb : IntKind.i64.wrap (((d + 1 : Nat) : Int) - 1) = (d : Int) := by rw [hbI]; exact IntWalk.i64_in _ (by omega)
   have hwd : IntKind.i64.wrap (d : Int) = (d : Int) := IntWalk.i64_in _ (by omega)
   have hbz : (((d + 1 : Nat) : Int) == 0) = false := by rw [beq_eq_false_iff_ne]; omega
   clear hV hln hfa
   go_wp2_with fail
   refine (HDe.out _ HE1.out).mono ?_
   rintro e w2 ⟨gs, A2, c2, rfl, hv2, ho2, ht2, he2⟩
   have hE2 : Ext w w2 := HE1.out.trans he2
   have he12 := he1.trans he2
   obtain ⟨l1c, l2c⟩ := KK.out w2 he12
   obtain ⟨k1c, k3c, k5c⟩ := K.out w2 he12
   have HE2 := Lib.hid hE2
   have He12 := Lib.hid he12
   clear k1 k3 k5 l1 l2 k1b k3b k5b l1b l2b he12 hE2
   by_cases hE : E = 0
   rotate_left
   · have HRn := Lib.hid (HR2.out.trans (if_pos hE))
     have hb : (E != 0) = true := by simp [hE]
     clear hE
     go_wp2_with fail
     go_ret3
     rw [HRn.out]
     exact ⟨rfl, HE2.out⟩
   subst hE
   have HR3 := Lib.hid (HR2.out.trans (if_neg (fun q => q rfl)))
   clear HR2
   have hln4 := hlp rfl
   have hE0' : ((0 : Int) != 0) = false := by decide
   have hgl : gs.length = ln := by rw [Hln.out, ← hv2, List.length_map]
   have Hgl := Lib.hid hgl
   have Hv2 := Lib.hid hv2
   have Hrx := Lib.hid (ans_rdX hv2 hgl Hfa.out ho2 (fun q hq => (ht2.1 q hq).rd))
   obtain ⟨t, ht⟩ : ∃ t, t = d * p := ⟨_, rfl⟩
   have htb : t ≤ 4096 * 4096 := by rw [ht]; exact Nat.mul_le_mul (by omega) (by omega)
   rw [← ht] at HR3
   have htI : (d : Int) * (p : Int) = (t : Int) := by rw [ht]; exact (Int.natCast_mul d p).symm
   have hw1 : IntKind.i64.wrap ((d : Int) * (p : Int)) = (t : Int) := by rw [htI]; exact IntWalk.i64_in _ (by omega)
   clear ht htI hlp hgl hv2 ho2 ht2
   go_wp2_with fail
   go_loopw [10, 46] (fun v i wr => ∃ j : Nat, j ≤ ln ∧ i = .int .i64 (j : Int) ∧ v = .int .i64 ((t + j : Nat) : Int) ∧ Hid (∀ i v, i < j → V[i]? = some v → aheadV key v = true) ∧ Hid (Ext w2 wr)) (fun _ i _ => ln - (intOf i).toNat)
   case atStart => exact ⟨0, Nat.zero_le _, rfl, rfl, Lib.hid (fun i v hi => absurd hi (Nat.not_lt_zero _)), Lib.hid (Ext.refl _)⟩
   case round =>
     obtain ⟨j, hj, rfl, rfl, HA, HEr⟩ := hrel
     obtain ⟨l1d, l2d⟩ := KK.out wr (He12.out.trans HEr.out)
     obtain ⟨k1d, k3d, k5d⟩ := K.out wr (He12.out.trans HEr.out)
     by_cases hlt : j < ln
     · have hEw : Ext w wr := HE2.out.trans HEr.out
       obtain ⟨b, o, x, rfl, hbl, hxj, hc0, hc1, hc2, hin⟩ := (Hrx.out.ext HEr.out).at_ hlt
       have hVj : V[j]? = some x.val := by rw [← Hv2.out, List.getElem?_map, hxj]; rfl
       obtain ⟨nu, num, xA, xc, xt⟩ := x
       have hVj : V[j]? = some (nu, num, xt) := hVj
       have hrd := hin.rd
       have hu8 := hin.u8
       simp only at hc0 hc1 hc2 hrd hu8
       obtain ⟨hg0, hg1, hg2⟩ := heap_cell (w := wr) ⟨nu, num, xA, xc, xt⟩ rfl
       simp only at hg0 hg1 hg2
       have hEa : Ext wr (wr.alloc (.cells #[.bool nu, .int .i64 num, .slice xA xt.length xc] 61)) := (Ext.refl _).alloc _
       obtain ⟨l1e, l2e⟩ := KK.out _ ((He12.out.trans HEr.out).trans hEa)
       have HAh := Lib.hid (isAheadC_any nu num xA xt.length xc xt A n c key _ (hrd.ext hEa) (Hx.out.ext (hEw.trans hEa)) hu8 Hu.out)
       have HEq := Lib.hid (fun W (hW : Ext w W) (hW2 : Ext wr W) => bequal_any xA xt.length xc xt A n c key W (hrd.ext hW2) (Hx.out.ext hW) hu8 Hu.out)
       have HTw := Lib.hid (fun (q : aheadR nu xt key = false) => tw_at (V := V) (j := j) (p := aheadV key) (by rw [← Hln.out]; exact hj) HA.out (fun v hv => by
         rw [hVj] at hv
         injection hv with hv
         subst hv
         exact q))
       have HAt := Lib.hid (fun (q : aheadR nu xt key = true) => (fun i v (hi : i < j + 1) (hv : V[i]? = some v) => (by
         rcases Nat.lt_or_eq_of_le (Nat.le_of_lt_succ hi) with q1 | q1
         · exact HA.out i v q1 hv
         · subst q1
           rw [hVj] at hv
           injection hv with hv
           subst hv
           exact q : aheadV key v = true)))
       have Hdr := Lib.hid (show V.drop j = (nu, num, xt) :: V.drop (j + 1) by
         have hl : j < V.length := (List.getElem?_eq_some_iff.1 hVj).1
         have he : V[j] = (nu, num, xt) := (List.getElem?_eq_some_iff.1 hVj).2
         rw [List.drop_eq_getElem_cons hl, he])
       obtain ⟨B, hB⟩ : ∃ B, B = aheadR nu xt key := ⟨_, rfl⟩
       rw [← hB] at HAh HTw HAt
       obtain ⟨Q, hQ⟩ : ∃ Q, Q = decide (xt = key) := ⟨_, rfl⟩
       rw [← hQ] at HEq
       have HQ := Lib.hid hQ
       obtain ⟨m, hm⟩ : ∃ m, m = xt.length := ⟨_, rfl⟩
       rw [← hm] at hc2 hg2 HAh HEq l1e l2e hEa hg0 hg1
       have HEa := Lib.hid hEa
       have HEw := Lib.hid hEw
       have hlI : (j : Int) < (ln : Int) := by omega
       have hlI0 : (0 : Int) ≤ (j : Int) := by omega
       clear hin hrd hu8 hB hm hVj hxj hQ hEa hEw HA
       go_wp2_with fail
       refine HAh.out.mono ?_
       rintro e w3 ⟨rfl, he3⟩
       have hE3 : Ext wr w3 := HEa.out.trans he3
       obtain ⟨l1f, l2f⟩ := KK.out _ ((He12.out.trans HEr.out).trans hE3)
       have hg2' : w3.cell? ⟨wr.heap.size, 2, none⟩ = some (.slice xA m xc) := (he3.cells _ _ (by simp)).trans hg2
       have HE3 := Lib.hid hE3
       clear hE3 he3
       cases B with
       | true =>
         have HA2 := Lib.hid (HAt.out rfl)
         have HEn := Lib.hid (HEr.out.trans HE3.out)
         go_wp2_with fail
         go_roundw
         case rel => exact ⟨j + 1, by omega, by go_num, by go_num, HA2, HEn⟩
         case measure => simp [intOf]; omega
       | false =>
         obtain ⟨t1, t2⟩ := HTw.out rfl
         rw [t1, t2, Hdr.out] at HR3
         have HRs := Lib.hid (show R = ((t + j, decide (xt = key)), 0) from HR3.out)
         rw [← HQ.out] at HRs
         have HEf := Lib.hid (HEw.out.trans HE3.out)
         clear t1 t2 HR3 HAt HTw
         go_wp2_with fail
         refine (HEq.out _ HEf.out HE3.out).mono ?_
         rintro e w4 ⟨rfl, rfl⟩
         go_wp2_with fail
         go_ret3
         rw [HRs.out]
         exact ⟨rfl, HEf.out⟩
     · obtain rfl : j = ln := by omega
       have HT := Lib.hid (tw_at (V := V) (j := j) (p := aheadV key) (by rw [← Hln.out]; exact Nat.le_refl _) HA.out (fun v hv => by
         have := (List.getElem?_eq_some_iff.1 hv).1
         rw [← Hln.out] at this
         omega))
       rw [HT.out.1, HT.out.2, List.drop_eq_nil_of_le (by rw [← Hln.out]; exact Nat.le_refl _)] at HR3
       go_wp2_with fail
       go_ret3
       rw [HR3.out]
       exact ⟨rfl, HE2.out.trans HEr.out⟩
open Go Go.RowKit
def tight (Q : Exit → Act → World → Prop) : Exit → Act → World → Prop
 | .outgrown, _, _ => False
 | .normal, a, w => Q .normal a w
 | .exit i, a, w => Q (.exit i) a w
 | .goto l, a, w => Q (.goto l) a w
 | .ret, a, w => Q .ret a w
 | .panic c, a, w => Q (.panic c) a w
theorem letsOut_tight {Q : Exit → Act → World → Prop} (h : LetsOut (tight Q)) : False := by
 obtain ⟨_, _, q⟩ := h
 exact q
theorem rowsIn_round {l n : Nat} {P : Program} {row : String} {args : Array Value} {w : World} {R : Value → World → Prop} (h : Rows P row args w R) : RowsIn (Fence.wide.inRound l) n P row args w R :=
 fun c cs _ => let ⟨v, w', r, s⟩ := h c cs; ⟨v, w', r, stepsIn_wide.2 s⟩
theorem upon_round {l n : Nat} {P : Program} {o : Oper} {a : Act} {K K' : Act → World → Prop} {Q : Exit → Act → World → Prop} (hK : ∀ a w, K a w → K' a w) :
   ∀ {r : Result Next}, o.upon P a K (tight Q) r → o.uponIn (Fence.wide.inRound l) n P a K' Q r
 | .ok (.value v) w', h => hK _ _ h
 | .ok .skip w', h => hK _ _ h
 | .ok (.defer d) w', h => hK _ _ h
 | .ok (.enter f args) w', h => ⟨fun q => by simp [Fence.wide] at q, CallsIn.inRound l (callsIn_wide.2 (Calls.mono h (fun e w'' he => by
     cases e with
     | returned v => exact hK _ _ he
     | panicked c => exact he
     | outgrown => exact (letsOut_tight he).elim)))⟩
 | .ok (.row row args) w', h => ⟨fun q => by simp [Fence.wide] at q, rowsIn_round (Rows.mono h (fun _ _ he => hK _ _ he))⟩
 | .ok (.round ..) w', h => h.elim
 | .halt (.panic v) w', h => h
 | .halt (.stuck _) w', h => h.elim
def noDefer (ops : Array Oper) : Bool := ops.all fun o => match o.op with
 | .defer _ => false
 | _ => true
theorem noDefer_at {ops : Array Oper} (h : noDefer ops = true) {i : Nat} {o : Oper} (ho : ops[i]? = some o) : ∀ c, o.op ≠ .defer c := by
 intro c hc
 obtain ⟨hi, he⟩ := Array.getElem?_eq_some_iff.1 ho
 have := Array.all_eq_true.1 h i hi
 rw [he, hc] at this
 cases this
theorem wpOp_round {l n : Nat} {P : Program} {ops : Array Oper} {Q : Exit → Act → World → Prop} {i : Nat} {K K' : Act → World → Prop} {a : Act} {w : World} (hnd : noDefer ops = true) (hK : ∀ a w, K a w → K' a w)
   (h : wpOp P ops (tight Q) i K a w) : wpOpIn (Fence.wide.inRound l) n P ops Q i K' a w := by
 unfold wpOp at h
 unfold wpOpIn
 cases ho : ops[i]? with
 | none => rw [ho] at h; exact hK _ _ h
 | some o =>
   rw [ho] at h
   simp only at h ⊢
   split at h
   · rename_i hw
     rw [if_pos hw]
     rcases h with h | h
     · refine ⟨fun _ _ => trivial, ?_⟩
       rw [Oper.semAt_eq _ _ _ (noDefer_at hnd ho)]
       exact upon_round hK h
     · exact (letsOut_tight h.2).elim
   · rename_i hw
     rw [if_neg hw]
     exact ⟨fun _ _ => trivial, hK _ _ h⟩
theorem wpAny_round {l n : Nat} {P : Program} {md : Region.Mode} {ops : Array Oper} {Q : Exit → Act → World → Prop} (hnd : noDefer ops = true) :
   ∀ (fuel : Nat) (listed : Array Bool) (a : Act) (w : World), wpAny P md ops (tight Q) fuel listed a w → wpAnyIn (Fence.wide.inRound l) n P md ops Q fuel listed a w
 | 0, _, _, _, h => h
 | fuel + 1, _, _, _, h => ⟨h.1, fun i hi => wpOp_round hnd (fun a' w' h' => wpAny_round hnd fuel _ a' w' h') (h.2 i hi)⟩
theorem wpIn_region_round {l n id : Nat} {P : Program} {ops : Array Oper} {Q : Exit → Act → World → Prop} {a : Act} {w : World} (hm : P.follows .mixedOrders = true) (hnd : noDefer ops = true)
   (h : wpAny P .any ops (tight Q) ops.size (Array.replicate ops.size false) a w.drew) : (Code.region id ops true).wpIn (Fence.wide.inRound l) n P Q a w :=
 wpIn_region_any hm (wpAny_round hnd _ _ _ _ h)
def chA (A : Option Addr) (n p i : Nat) : Option Addr := offX A (i * p) (i * p + min p (n - i * p))
def chV (A : Option Addr) (n p i : Nat) : Value := .slice (chA A n p i) (min p (n - i * p) : Nat) (min p (n - i * p) : Nat)
def pcX (xs : List Ci) (p i : Nat) : List Ci := (xs.drop (i * p)).take p
theorem chunk_lt {n p m j : Nat} (hp : 1 ≤ p) (hm : m = (n + p - 1) / p) (hj : j < m) : j * p < n := by
 subst hm
 have h2 := (Nat.le_div_iff_mul_le (show 0 < p by omega)).1 (show j + 1 ≤ (n + p - 1) / p by omega)
 rw [Nat.add_mul, Nat.one_mul] at h2
 omega
theorem chunk_end {n p m : Nat} (hp : 1 ≤ p) (hm : m = (n + p - 1) / p) : n ≤ m * p := by
 subst hm
 have h1 := Nat.div_add_mod (n + p - 1) p
 have h2 := Nat.mod_lt (n + p - 1) (show 0 < p by omega)
 rw [Nat.mul_comm] at h1
 omega
theorem RdX.chunk {w : World} {A : Option Addr} {n : Nat} {xs : List Ci} (h : RdX w A n xs) {p i : Nat} (hp : 1 ≤ p) (hi : i * p < n) : RdX w (chA A n p i) (min p (n - i * p)) (pcX xs p i) := by
 have h1 := h.offX (k := i * p) (m := n) (Nat.le_of_lt hi) (Nat.le_refl _)
 have h2 := h1.takeF (m := min p (n - i * p)) (Nat.min_le_right _ _)
 have e1 : Go.Proofs.YthibbgmicmfkfaaGreat.offX A (i * p) n = chA A n p i := by
   unfold chA Go.Proofs.YthibbgmicmfkfaaGreat.offX
   rw [if_neg (by omega), if_neg (by omega)]
 have e2 : (xs.drop (i * p)).take (min p (n - i * p)) = pcX xs p i := by
   unfold pcX
   rcases Nat.le_total p (n - i * p) with q | q
   · rw [Nat.min_eq_left q]
   · rw [Nat.min_eq_right q, List.take_of_length_le (by rw [List.length_drop, h.1]; exact Nat.le_refl _), List.take_of_length_le (by rw [List.length_drop, h.1]; exact q)]
 rw [e1, e2] at h2
 exact h2
theorem pcX_cap {xs : List Ci} (h : CapX xs) (p i : Nat) : CapX (pcX xs p i) := fun x hx => h x (List.mem_of_mem_drop (List.mem_of_mem_take hx))
def Keep2 (Ba Bb : Nat) (W W' : World) : Prop := W'.heap[Ba]? = W.heap[Ba]? ∧ W'.heap[Bb]? = W.heap[Bb]?
theorem keep2_t {Ba Bb : Nat} {A B C : World} (h : Keep2 Ba Bb A B) (k : Keep2 Ba Bb B C) : Keep2 Ba Bb A C := ⟨k.1.trans h.1, k.2.trans h.2⟩
theorem keep2_b {Ba Bb : Nat} {w : World} (h1 : Ba < w.heap.size) (h2 : Bb < w.heap.size) (W : World) (l : Nat) (o o' : Obj) (hl : w.heap.size ≤ l) (_ : W.heap[l]? = some o) (_ : o.isCells = false) (_ : o.isWalk = false) : Keep2 Ba Bb W (W.putObj l o') :=
 ⟨World.putObj_heap_other (by omega), World.putObj_heap_other (by omega)⟩
theorem run_cut3X (A : Option Addr) (n c l h : Nat) (h1 : l ≤ h) (h2 : h ≤ c) : ∀ W : World, (Instr.slice 25 (.slice A n c) (some (.int .i64 (l : Int))) (some (.int .i64 (h : Int))) (some (.int .i64 (h : Int)))).run Tryz.prog W = .ok (.slice (offX A l h) (h - l : Nat) (h - l : Nat)) W := by
 intro W
 rw [run_slice_lhm (P := Tryz.prog) (w := W) _ A n c Tryz.underX .i64 .i64 .i64 l h h (by omega) (by omega) (by omega) (by omega), run_sizeX]
 simp only [Result.andThen, sliced, Int.toNat_natCast]
 rfl
theorem take_fin {m j : Nat} (hj : j < m) : (List.finRange m).take (j + 1) = (List.finRange m).take j ++ [⟨j, hj⟩] := by
 rw [List.take_add_one]
 congr 1
 rw [List.getElem?_eq_getElem (by simpa using hj)]
 simp
set_option maxHeartbeats 2000000 in
theorem iterC_in (l B1 B2 : Nat) (A : Option Addr) (n c p m : Nat) (hp : 1 ≤ p) (hp4 : p ≤ 4096) (hn : n ≤ 4096) (hc : n ≤ c) (hm : m = (n + p - 1) / p) (J Jx : List (Fin m) → World → Prop)
   (hJa : ∀ s W W', J s W → Ext W W' → J s W')
   (hY : ∀ pre x W, J pre W → pre.length < m → YieldAt Fence.wide 3 Tryz.prog l #[chV A n p x.1] W fun e W' =>
     (e = .returned (.bool true) ∧ J (pre ++ [x]) W' ∧ Keep2 B1 B2 W W') ∨ (e = .returned (.bool false) ∧ Jx (pre ++ [x]) W'))
   (W : World) (h1 : W.cell? ⟨B1, 0, none⟩ = some (.slice A n c)) (h2 : W.cell? ⟨B2, 0, none⟩ = some (.int .i64 (p : Int))) (h0 : J [] W) :
   CallsIn Fence.wide 4 Tryz.prog 132 #[.func (.yield l) #[] #[], .pointer (some ⟨B1, 0, none⟩), .pointer (some ⟨B2, 0, none⟩)] W fun e W' => (∃ v, e = .returned v) ∧
     ((∃ ys, ys = List.finRange m ∧ J ys W') ∨ (∃ pre, pre <+: List.finRange m ∧ Jx pre W')) := by
 refine callsIn_of_wp Tryz.func132 rfl trivial ?_ rfl
 simp only [Tryz.ntmps132, List.size_toArray, List.length_cons, List.length_nil, Nat.reduceAdd, Nat.reduceSub, Array.replicate_succ, Array.replicate_zero, List.push_toArray, List.append_toArray, List.nil_append, List.cons_append]
 have Hm := Lib.hid hm
 have HJa := Lib.hid hJa
 clear hm hJa
 gi_wp2
 gi_loopw [4, 5] (fun v _ wr => ∃ j : Nat, j ≤ m ∧ v = .int .i64 ((j * p : Nat) : Int) ∧ J ((List.finRange m).take j) wr ∧ wr.cell? ⟨B1, 0, none⟩ = some (.slice A n c) ∧ wr.cell? ⟨B2, 0, none⟩ = some (.int .i64 (p : Int)))
   (fun v _ _ => n - (intOf v).toNat)
 case atStart => exact ⟨0, by omega, by rw [Nat.zero_mul]; rfl, h0, h1, h2⟩
 case round =>
   obtain ⟨j, hj, rfl, hJ, h1, h2⟩ := hrel
   by_cases hlt : j < m
   · have hjn := chunk_lt hp Hm.out hlt
     have hY1 := Lib.hid (fun W' (hW : Ext wr W') => hY ((List.finRange m).take j) ⟨j, hlt⟩ W' (HJa.out _ _ _ hJ hW) (by rw [List.length_take, List.length_finRange]; omega))
     have Htk := Lib.hid (take_fin hlt)
     obtain ⟨t, ht⟩ : ∃ t, t = j * p := ⟨_, rfl⟩
     have hnx : (j + 1) * p = t + p := by rw [ht, Nat.add_mul, Nat.one_mul]
     have Hnx := Lib.hid hnx
     obtain ⟨z, hz⟩ : ∃ z, z = min p (n - t) := ⟨_, rfl⟩
     have hcv : chV A n p j = .slice (offX A t (t + z)) z z := by
       unfold chV chA
       rw [← ht, ← hz]
     rw [show (⟨j, hlt⟩ : Fin m).1 = j from rfl, hcv] at hY1
     rw [← ht] at hjn ⊢
     have hzp : z ≤ p := by rw [hz]; exact Nat.min_le_left _ _
     have hzn : t + z ≤ n := by omega
     have hcut := run_cut3X A n c t (t + z) (by omega) (by omega)
     rw [show t + z - t = z by omega, show ((t + z : Nat) : Int) = (t : Int) + (z : Int) by omega] at hcut
     have htI : (t : Int) < (n : Int) := by omega
     have hfr := run_fromX A n c t (by omega)
     obtain ⟨d, hd⟩ : ∃ d, d = n - t := ⟨_, rfl⟩
     rw [← hd] at hfr hz
     have hsum : IntKind.i64.wrap ((t : Int) + (z : Int)) = (t : Int) + (z : Int) := IntWalk.i64_in _ (by omega)
     have hsum2 : IntKind.i64.wrap ((t : Int) + (p : Int)) = (t : Int) + (p : Int) := IntWalk.i64_in _ (by omega)
     have Hz := Lib.hid hz
     have Hd := Lib.hid hd
     clear hz hd ht hnx hcv hJ
     gi_wp2
     refine wpIn_wide.2 ?_
     go_quiet (fail)
     have hmin : min (p : Int) (d : Int) = (z : Int) := by have := Hz.out; omega
     rw [hmin]
     have h1d : (wr.drewN nq).cell? ⟨B1, 0, none⟩ = some (.slice A n c) := h1
     have h2d : (wr.drewN nq).cell? ⟨B2, 0, none⟩ = some (.int .i64 (p : Int)) := h2
     obtain ⟨fn, tmps, assign, body, hy, hR⟩ := hY1.out (wr.drewN nq) ((Ext.refl _).drewN _)
     clear hmin h1 h2 hY1
     gi_wp2
     refine hR.mono ?_
     rintro e W3 (⟨rfl, hJ3, hk3⟩ | ⟨rfl, hJx3⟩)
     · have c1 : W3.cell? ⟨B1, 0, none⟩ = some (.slice A n c) := (World.cell?_of_block (a := ⟨B1, 0, none⟩) hk3.1).trans h1d
       have c2 : W3.cell? ⟨B2, 0, none⟩ = some (.int .i64 (p : Int)) := (World.cell?_of_block (a := ⟨B2, 0, none⟩) hk3.2).trans h2d
       gi_wp2
       go_roundw
       case rel => exact ⟨j + 1, by omega, by rw [Hnx.out]; rfl, by rw [Htk.out]; exact hJ3, c1, c2⟩
       case measure => simp [intOf]; omega
     · gi_wp2
       refine bodyPost_ret (results_none rfl _ _ _) rfl ?_
       refine ⟨⟨_, rfl⟩, .inr ⟨(List.finRange m).take j ++ [⟨j, hlt⟩], ?_, hJx3⟩⟩
       rw [← Htk.out]
       exact List.take_prefix _ _
   · obtain rfl : j = m := by omega
     have hend := chunk_end hp Hm.out
     rw [List.take_of_length_le (by rw [List.length_finRange]; exact Nat.le_refl _)] at hJ
     obtain ⟨t, ht⟩ : ∃ t, t = j * p := ⟨_, rfl⟩
     rw [← ht] at hend ⊢
     have htI : ¬ (t : Int) < (n : Int) := by omega
     clear ht
     gi_wp2
     go_end0
     exact ⟨⟨_, rfl⟩, .inl (by first | exact hJ | exact ⟨_, rfl, hJ⟩)⟩
theorem seqC_any (B1 B2 : Nat) (A : Option Addr) (n c p m : Nat) (hp : 1 ≤ p) (hp4 : p ≤ 4096) (hn : n ≤ 4096) (hc : n ≤ c) (hm : m = (n + p - 1) / p) (w : World) (b1 : B1 < w.heap.size) (b2 : B2 < w.heap.size)
   (h1 : w.cell? ⟨B1, 0, none⟩ = some (.slice A n c)) (h2 : w.cell? ⟨B2, 0, none⟩ = some (.int .i64 (p : Int))) :
   SeqStopsK Fence.wide 4 Tryz.prog 132 #[.pointer (some ⟨B1, 0, none⟩), .pointer (some ⟨B2, 0, none⟩)] (fun x : Fin m => #[chV A n p x.1]) (Keep2 B1 B2) (fun ys => ys = List.finRange m) (fun pre => pre <+: List.finRange m) m w := fun l J Jx W hW hJ _ hY h0 =>
 iterC_in l B1 B2 A n c p m hp hp4 hn hc hm J Jx (fun s W W' hs he => hJ s W W' none hs (Ext.toGrown he none) (fun r e => by cases e)) hY W ((hW.cell (p := ⟨B1, 0, none⟩) b1).trans h1) ((hW.cell (p := ⟨B2, 0, none⟩) b2).trans h2) h0
def ChunkPost (A : Option Addr) (n c p : Nat) (w : World) (e : Ending) (w' : World) : Prop :=
 ∃ B1 B2, e = .returned (.func (.func 132) #[] #[.pointer (some ⟨B1, 0, none⟩), .pointer (some ⟨B2, 0, none⟩)]) ∧ Ext w w' ∧ w.heap.size ≤ B1 ∧ w.heap.size ≤ B2 ∧ B1 < w'.heap.size ∧ B2 < w'.heap.size ∧
   w'.cell? ⟨B1, 0, none⟩ = some (.slice A n c) ∧ w'.cell? ⟨B2, 0, none⟩ = some (.int .i64 (p : Int))
theorem chunk_any (A : Option Addr) (n c p : Nat) (w : World) (hp : 1 ≤ p) (hp4 : p ≤ 4096) :
   Calls Tryz.prog 91 #[.slice A n c, .int .i64 (p : Int)] w (ChunkPost A n c p w) := by
 have hmf : ∀ (fn : Fn) (first cap : Array Value) (w : World), (Instr.makeFunc fn first cap).run Tryz.prog w = .ok (.func fn first cap) w := fun _ _ _ _ => rfl
 have hpI : ¬ (p : Int) < 1 := by omega
 go_enter Tryz.func91, Tryz.ntmps91
 go_wp2_with fail
 go_ret
 have c1 : ∀ (W : World) (v : Value) (t : TypeId), (W.alloc (.cells #[v] t)).cell? ⟨W.heap.size, 0, none⟩ = some v := fun W v t => cell_of_row _ W.heap.size 0 _ t (0, 0) (heap_alloc_new W _)
 refine ⟨w.heap.size, w.heap.size + 1, rfl, ((Ext.refl _).alloc _).alloc _, by omega, by omega, by simp <;> omega, by simp <;> omega, ?_, ?_⟩
 · exact (Below.cell ((Ext.refl _).alloc _) (p := ⟨w.heap.size, 0, none⟩) (by simp)).trans (c1 w _ _)
 · have := c1 (w.alloc (.cells #[.slice A n c] 25)) (.int .i64 (p : Int)) 3
   rw [World.size_alloc] at this
   exact this
theorem bbest_good {k : Int} {xs : List Ci} (hx : R64s (xs.map Ci.num)) (hu : ∀ x ∈ xs, U8 x.txt) (h : (bbestR k xs).2 = 0) :
   kindK k = true ∧ chkB k xs = 0 ∧ U8 (bbestR k xs).1.2 ∧ (bbestR k xs).1.2.length ≤ 65000 := by
 have hb := bestF_u8 k hx hu (codecs k) (0, []) (fun cd h => codecs_mem h) (fun v hv => by cases hv)
 obtain ⟨P, hP⟩ : ∃ P, P = bestF k xs (codecs k) (0, []) := ⟨_, rfl⟩
 have hR : bbestR k xs = if kindK k = false then ((0, []), 1) else if chkB k xs ≠ 0 then ((0, []), chkB k xs) else if P.2 ≠ 0 then ((0, []), P.2) else if sealE P.1.2 ≠ 0 then ((0, []), sealE P.1.2) else ((P.1.1, sealL P.1.2), 0) := by rw [hP]; rfl
 rw [← hP] at hb
 rw [hR] at h ⊢
 split at h
 · exact absurd h (by decide)
 · rename_i h1
   rw [if_neg h1]
   split at h
   · rename_i q; exact absurd h q
   · rename_i h2
     rw [if_neg h2]
     split at h
     · rename_i q; exact absurd h q
     · rename_i h3
       rw [if_neg h3]
       split at h
       · rename_i q; exact absurd h q
       · rename_i h4
         rw [if_neg h4]
         have h4 := Decidable.not_not.1 h4
         have h5 : ¬ 65000 < P.1.2.length + 4 := by
           intro q
           unfold sealE at h4
           rw [if_pos q] at h4
           exact absurd h4 (by decide)
         have h6 : sealL P.1.2 = sl P.1.2 := if_neg h5
         refine ⟨?_, Decidable.not_not.1 h2, ?_, ?_⟩
         · cases hk : kindK k with
           | true => rfl
           | false => exact absurd hk h1
         · show U8 (sealL P.1.2)
           rw [h6]
           exact sl_u8 hb
         · show (sealL P.1.2).length ≤ 65000
           rw [h6, sl_len]
           omega
def fstE (f : Nat → Int) : Nat → Int
 | 0 => 0
 | m + 1 => if fstE f m ≠ 0 then fstE f m else f m
theorem fstE_zero {f : Nat → Int} : ∀ {m : Nat}, fstE f m = 0 ↔ ∀ i, i < m → f i = 0
 | 0 => ⟨fun _ i hi => absurd hi (Nat.not_lt_zero _), fun _ => rfl⟩
 | m + 1 => by
   unfold fstE
   constructor
   · intro h i hi
     split at h
     · rename_i q; exact absurd h q
     · rename_i q
       rcases Nat.lt_or_eq_of_le (Nat.le_of_lt_succ hi) with q2 | q2
       · exact (fstE_zero (f := f) (m := m)).1 (Decidable.not_not.1 q) i q2
       · rw [q2]; exact h
   · intro h
     rw [(fstE_zero (f := f) (m := m)).2 (fun i hi => h i (by omega)), if_neg (fun q => q rfl)]
     exact h m (by omega)
theorem fstE_first {f : Nat → Int} {j m : Nat} (h0 : ∀ i, i < j → f i = 0) (hj : j < m) (h : f j ≠ 0) : fstE f m = f j := by
 induction m with
 | zero => omega
 | succ m ih =>
   unfold fstE
   rcases Nat.lt_or_eq_of_le (Nat.le_of_lt_succ hj) with q | q
   · rw [ih q, if_pos h]
   · subst q
     rw [(fstE_zero (f := f) (m := j)).2 h0, if_neg (fun q => q rfl)]
def bstC (k : Int) (p : Nat) (xs : List Ci) (i : Nat) : (Int × List Nat) × Int := bbestR k (pcX xs p i)
def frsC (p : Nat) (xs : List Ci) (i : Nat) : List Nat := (xs.map Ci.txt).getD (i * p) []
def cntC (p : Nat) (xs : List Ci) : Nat := (xs.length + p - 1) / p
def fileC (k : Nat) (ks : Bool) (p : Nat) (xs : List Ci) : FlM :=
 ⟨k, ks, xs.length, p, (List.range (cntC p xs)).map (fun i => (bstC k p xs i).1.2), if ks then (List.range (cntC p xs)).map (frsC p xs) else []⟩
def bldR (k : Nat) (ks : Bool) (p : Nat) (xs : List Ci) : List Nat × Int :=
 if 4096 < xs.length then ([], 4) else if fstE (fun i => (bstC k p xs i).2) (cntC p xs) ≠ 0 then ([], fstE (fun i => (bstC k p xs i).2) (cntC p xs)) else writeR (fileC k ks p xs)
theorem pcX_mem {xs : List Ci} {p i : Nat} {x : Ci} (h : x ∈ pcX xs p i) : x ∈ xs := List.mem_of_mem_drop (List.mem_of_mem_take h)
theorem pcX_first {xs : List Ci} {p i : Nat} (hp : 1 ≤ p) {x : Ci} (h : xs[i * p]? = some x) : x ∈ pcX xs p i ∧ frsC p xs i = x.txt := by
 constructor
 · unfold pcX
   obtain ⟨hl, he⟩ := List.getElem?_eq_some_iff.1 h
   obtain ⟨q, rfl⟩ : ∃ q, p = q + 1 := ⟨p - 1, by omega⟩
   rw [List.drop_eq_getElem_cons hl, he, List.take_succ_cons]
   exact List.mem_cons_self ..
 · unfold frsC
   rw [List.getD_eq_getElem?_getD, List.getElem?_map, h]
   rfl
theorem pcX_zero {xs : List Ci} {p i : Nat} (hp : 1 ≤ p) {y : Ci} (h : (pcX xs p i)[0]? = some y) : xs[i * p]? = some y := by
 unfold pcX at h
 rw [List.getElem?_take, if_pos (by omega), List.getElem?_drop, Nat.add_zero] at h
 exact h
theorem cnt_le {p : Nat} {xs : List Ci} (hp : 1 ≤ p) (hn : xs.length ≤ 4096) : cntC p xs ≤ 4096 := by
 unfold cntC
 rcases Nat.eq_zero_or_pos xs.length with q | q
 · rw [q, Nat.div_eq_of_lt (by omega)]
   omega
 · rw [show xs.length + p - 1 = (xs.length - 1) + p by omega, Nat.add_div_right _ (by omega)]
   have := Nat.div_le_self (xs.length - 1) p
   omega
theorem fileC_ok {k : Nat} {ks : Bool} {p : Nat} {xs : List Ci} (hk : k < 256) (hp : 1 ≤ p ∧ p ≤ 4096) (hn : xs.length ≤ 4096) (hx : R64s (xs.map Ci.num)) (hu : ∀ x ∈ xs, U8 x.txt)
   (h : ∀ i, i < cntC p xs → (bstC k p xs i).2 = 0) : FlB (fileC k ks p xs) := by
 have hg : ∀ i, i < cntC p xs → kindK k = true ∧ chkB k (pcX xs p i) = 0 ∧ U8 (bstC k p xs i).1.2 ∧ (bstC k p xs i).1.2.length ≤ 65000 := fun i hi =>
   bbest_good (fun v hv => by
     obtain ⟨x, hx1, rfl⟩ := List.mem_map.1 hv
     exact hx _ (List.mem_map_of_mem (pcX_mem hx1))) (fun x hx => hu x (pcX_mem hx)) (h i hi)
 have hlt : ∀ i, i < cntC p xs → i * p < xs.length := fun i hi => chunk_lt hp.1 rfl hi
 have hf : ∀ i, i < cntC p xs → U8 (frsC p xs i) ∧ (frsC p xs i).length ≤ 200 := fun i hi => by
   have h1 := List.getElem?_eq_getElem (hlt i hi)
   obtain ⟨h2, h3⟩ := pcX_first hp.1 h1
   rw [h3]
   exact ⟨hu _ (pcX_mem h2), (chkB_good (hg i hi).2.1).2.2 _ h2⟩
 refine ⟨hk, hn, hp, ?_, ?_, ?_, ?_, ?_, ?_⟩
 · show ((List.range (cntC p xs)).map _).length ≤ 4096
   rw [List.length_map, List.length_range]
   exact cnt_le hp.1 hn
 · intro t ht
   obtain ⟨i, hi, rfl⟩ := List.mem_map.1 ht
   exact (hg i (List.mem_range.1 hi)).2.2.1
 · intro t ht
   cases ks with
   | false => cases ht
   | true =>
     obtain ⟨i, hi, rfl⟩ := List.mem_map.1 ht
     exact (hf i (List.mem_range.1 hi)).1
 · intro t ht
   obtain ⟨i, hi, rfl⟩ := List.mem_map.1 ht
   exact (hg i (List.mem_range.1 hi)).2.2.2
 · intro t ht
   cases ks with
   | false => cases ht
   | true =>
     obtain ⟨i, hi, rfl⟩ := List.mem_map.1 ht
     exact (hf i (List.mem_range.1 hi)).2
 · rintro hks
   have hks : ks = true := hks
   subst hks
   show ((List.range (cntC p xs)).map _).length = ((List.range (cntC p xs)).map _).length
   rw [List.length_map, List.length_map]
theorem ne_cells {W : World} {p : Addr} {v : Value} {r : Nat} (h : W.cell? p = some v) (hr : ∃ o : Obj, W.heap[r]? = some o ∧ o.isCells = false) : some r ≠ some p.block := by
 rintro e
 injection e with e
 subst e
 obtain ⟨o, ho, hc⟩ := hr
 unfold World.cell? at h
 rw [ho] at h
 cases o <;> first | (simp [Obj.isCells] at hc; done) | (simp at h; done)
theorem FilC.own {W W' : World} {row : Option Nat} {g : Nat} {k : Int} {ks : Bool} {rows per : Int} {vb vf : Value} (h : FilC W g k ks rows per vb vf) (hg : W.grownBy W' row) (hr : ∀ r, row = some r → ∃ o : Obj, W.heap[r]? = some o ∧ o.isCells = false) : FilC W' g k ks rows per vb vf :=
 h.grownR hg (fun e => ne_cells h.c0 (hr g e) rfl)
theorem Rd.own {W W' : World} {row : Option Nat} {A : Option Addr} {n : Nat} {bs : List Nat} (h : Rd .u8 W A n bs) (hg : W.grownBy W' row) (hr : ∀ r, row = some r → ∃ o : Obj, W.heap[r]? = some o ∧ o.isCells = false) : Rd .u8 W' A n bs :=
 ⟨h.1, fun h0 => by
   obtain ⟨c, o, e, hc, hcell⟩ := h.2 h0
   refine ⟨c, o, e, Nat.lt_of_lt_of_le hc hg.size, fun j hj => ?_⟩
   rw [cell_blk (hg.block c hc (fun q => ne_cells (hcell 0 h0) (hr c q.symm) rfl))]
   exact hcell j hj⟩
theorem OwnS.own {W W' : World} {row : Option Nat} {base c : Nat} {A : Option Addr} {ss : List Sl} (h : OwnS W base A c ss) (hg : W.grownBy W' row) (hr : ∀ r, row = some r → ∃ o : Obj, W.heap[r]? = some o ∧ o.isCells = false) : OwnS W' base A c ss := by
 refine World.ownsRow.kept h hg ?_
 rcases h.2 with ⟨e, _⟩ | ⟨g, cap, cur, e, _, hc, _⟩
 · left
   injection e with e1 _ _
   subst e1
   rfl
 · right
   injection e with e1 _ _
   subst e1
   intro q
   obtain ⟨o, ho, hco⟩ := hr g q.symm
   rw [hc] at ho
   injection ho with ho
   subst ho
   simp [Obj.isCells] at hco
theorem numR_put {n m : Nat} {r : List Nat} {f : Bool} (hn : n ≤ m) (hm : m < 18446744073709551616) : numR (vput n ++ r) f m = (n, r, f) := by
 obtain ⟨h1, h2, h3⟩ := vget_put (bs := vput n ++ r) (rest := r) (a := 0) (u := n) (by omega) (Nat.zero_le _) rfl
 unfold numR
 have h1' : vget (vput n ++ r) 0 = (n, ((vput n).length : Int), 0) := by
   have := h1
   rw [show ((0 : Nat) : Int) = 0 from rfl, Int.zero_add] at this
   exact this
 rw [h1']
 rw [if_neg (by rintro (q | q); exact q rfl; exact absurd hn (by simp only at q; omega))]
 simp only [Int.toNat_natCast]
 rw [List.drop_left]
theorem bytR_app {b r : List Nat} {f : Bool} : bytR (b ++ r) f b.length = (b, r, f) := by
 unfold bytR
 rw [if_neg (by rw [List.length_append]; omega), List.take_left, List.drop_left]
def ftL (ks : Bool) : List (List Nat) → List (List Nat) → List Nat
 | [], _ => []
 | b :: bs, fs => ftE ks b (fs.headD []) ++ ftL ks bs fs.tail
theorem ftT_ftL (f : FlM) : ∀ m, m ≤ f.bs.length → ftT f m ++ ftL f.ks (f.bs.drop m) (f.fs.drop m) = ftL f.ks f.bs f.fs
 | 0, _ => rfl
 | m + 1, h => by
   have ih := ftT_ftL f m (by omega)
   rw [← ih, List.drop_eq_getElem_cons (show m < f.bs.length by omega)]
   show ftT f m ++ ftE f.ks (f.bs.getD m []) (f.fs.getD m []) ++ ftL f.ks (f.bs.drop (m + 1)) (f.fs.drop (m + 1)) = ftT f m ++ (ftE f.ks f.bs[m] ((f.fs.drop m).headD []) ++ ftL f.ks (f.bs.drop (m + 1)) ((f.fs.drop m).tail))
   rw [List.append_assoc, List.getD_eq_getElem?_getD, List.getElem?_eq_getElem (show m < f.bs.length by omega), List.tail_drop]
   congr 2
   congr 1
   rw [List.getD_eq_getElem?_getD, List.headD_eq_head?_getD, List.head?_drop]
theorem ftT_all (f : FlM) : ftT f f.bs.length = ftL f.ks f.bs f.fs := by
 have := ftT_ftL f f.bs.length (Nat.le_refl _)
 rw [List.drop_length] at this
 rw [← this]
 exact (List.append_nil _).symm
theorem itL_ft (ks : Bool) : ∀ (bs fs B F : List (List Nat)), (∀ t ∈ bs, t.length ≤ 65000) → (∀ t ∈ fs, t.length ≤ 200) → (ks = true → fs.length = bs.length) → (ks = false → fs = []) →
   itL ks bs.length ⟨ftL ks bs fs, false, bs.flatten, false, B, F⟩ = ⟨[], false, [], false, B ++ bs, F ++ fs⟩
 | [], fs, B, F, _, _, h1, h2 => by
   have hf : fs = [] := by
     cases ks with
     | false => exact h2 rfl
     | true => exact List.eq_nil_of_length_eq_zero (h1 rfl)
   subst hf
   show (⟨[], false, [], false, B, F⟩ : LSt) = _
   simp
 | b :: bs, fs, B, F, hb, hf, h1, h2 => by
   have hbl := hb b (List.mem_cons_self ..)
   show itL ks bs.length (stL ks ⟨ftE ks b (fs.headD []) ++ ftL ks bs fs.tail, false, b ++ bs.flatten, false, B, F⟩) = _
   cases ks with
   | false =>
     have hfn : fs = [] := h2 rfl
     subst hfn
     have hs : stL false ⟨ftE false b [] ++ ftL false bs [], false, b ++ bs.flatten, false, B, F⟩ = ⟨ftL false bs [], false, bs.flatten, false, B ++ [b], F⟩ := by
       show stB _ = _
       unfold stB
       simp only
       have e1 : ftE false b [] = vput b.length := by unfold ftE; simp
       rw [e1, numR_put hbl (by decide)]
       simp only
       rw [bytR_app]
     show itL false bs.length (stL false ⟨ftE false b [] ++ ftL false bs [], false, b ++ bs.flatten, false, B, F⟩) = _
     rw [hs, itL_ft false bs [] (B ++ [b]) F (fun t ht => hb t (List.mem_cons_of_mem _ ht)) (fun t ht => by cases ht) (fun q => absurd q (by decide)) (fun _ => rfl)]
     simp
   | true =>
     match fs, h1 rfl with
     | s :: fs', hl =>
       have hsl := hf s (List.mem_cons_self ..)
       have hs : stL true ⟨ftE true b s ++ ftL true bs fs', false, b ++ bs.flatten, false, B, F⟩ = ⟨ftL true bs fs', false, bs.flatten, false, B ++ [b], F ++ [s]⟩ := by
         show stF (stB _) = _
         have e1 : ftE true b s ++ ftL true bs fs' = vput b.length ++ (vput s.length ++ (s ++ ftL true bs fs')) := by unfold ftE; simp
         have e2 : stB ⟨ftE true b s ++ ftL true bs fs', false, b ++ bs.flatten, false, B, F⟩ = ⟨vput s.length ++ (s ++ ftL true bs fs'), false, bs.flatten, false, B ++ [b], F⟩ := by
           unfold stB
           simp only
           rw [e1, numR_put hbl (by decide)]
           simp only
           rw [bytR_app]
         rw [e2]
         unfold stF
         simp only
         rw [numR_put hsl (by decide)]
         simp only
         rw [bytR_app]
       show itL true bs.length (stL true ⟨ftE true b s ++ ftL true bs fs', false, b ++ bs.flatten, false, B, F⟩) = _
       rw [hs, itL_ft true bs fs' (B ++ [b]) (F ++ [s]) (fun t ht => hb t (List.mem_cons_of_mem _ ht)) (fun t ht => hf t (List.mem_cons_of_mem _ ht)) (fun _ => by simpa using hl) (fun q => absurd q (by decide))]
       simp
theorem told_ft {f : FlM} (ok : FlB f) (rt : rightK (f.k : Int) f.ks (f.per : Int) = true) (nb : f.bs.length = (f.rows + f.per - 1) / f.per) (rs : riseP f.fs f.fs.length) (nf : f.ks = false → f.fs = []) :
   toldR (ftB f) f.bs.flatten = some f := by
 have hB : ftB f = f.k :: (if f.ks then 1 else 0) :: (vput f.rows ++ (vput f.per ++ (vput f.bs.length ++ ftL f.ks f.bs f.fs))) := by
   unfold ftB ftH
   rw [ftT_all]
   simp
 have h0 : (ftB f).getD 0 0 = f.k := by rw [hB]; rfl
 have h1 : (ftB f).getD 1 0 = if f.ks then 1 else 0 := by rw [hB]; rfl
 have h2 : (ftB f).drop 2 = vput f.rows ++ (vput f.per ++ (vput f.bs.length ++ ftL f.ks f.bs f.fs)) := by rw [hB]; rfl
 have hl : ¬ (ftB f).length < 2 := by rw [hB]; simp
 have hh := hdL_eq (ftB f) (N1 := (f.rows, vput f.per ++ (vput f.bs.length ++ ftL f.ks f.bs f.fs), false)) (N2 := (f.per, vput f.bs.length ++ ftL f.ks f.bs f.fs, false)) (N3 := (f.bs.length, ftL f.ks f.bs f.fs, false))
   (by rw [h2, numR_put ok.rows (by decide)]) (by simp only; rw [numR_put ok.per.2 (by decide)]) (by simp only; rw [numR_put ok.nb (by decide)])
 have hk1 : ((if f.ks then (1 : Nat) else 0) == 1) = f.ks := by cases f.ks <;> rfl
 have hle : ¬ 1 < (if f.ks then (1 : Nat) else 0) := by cases f.ks <;> decide
 unfold toldR
 rw [h0, h1, hh, hk1]
 simp only
 rw [if_neg (by rintro (q | q); exact hl q; exact hle q), if_neg (by rintro (q | q | q); exact absurd q (by decide); rw [rt] at q; exact absurd q (by decide); exact q nb)]
 rw [itL_ft f.ks f.bs f.fs [] [] ok.zb ok.zf ok.nf nf]
 have he : endL ⟨[], false, [], false, [] ++ f.bs, [] ++ f.fs⟩ = true := by
   unfold endL
   simp only [List.nil_append, List.length_nil, decide_true, Bool.not_false, Bool.and_self, Bool.true_and]
   exact decide_eq_true rs
 rw [he, if_neg (by decide)]
 simp
theorem open_file {f : FlM} (ok : FlB f) (rt : rightK (f.k : Int) f.ks (f.per : Int) = true) (nb : f.bs.length = (f.rows + f.per - 1) / f.per) (rs : riseP f.fs f.fs.length) (nf : f.ks = false → f.fs = []) {B : List Nat} (hw : writeR f = (B, 0)) :
   openR B = some f ∧ U8 B ∧ B.length ≤ 1048576 := by
 unfold writeR at hw
 split at hw
 · cases hw
 rename_i hF
 split at hw
 · cases hw
 rename_i hL
 injection hw with hw _
 subst hw
 have hFu := ftB_u8 ok
 have hZu := u8_flat ok.ub
 have hZl : f.bs.flatten.length ≤ 4096 * 65000 := Nat.le_trans (flat_le ok.zb) (Nat.mul_le_mul_right _ ok.nb)
 have hT := told_ft ok rt nb rs nf
 obtain ⟨F, hFe⟩ : ∃ F, F = ftB f := ⟨_, rfl⟩
 obtain ⟨Z, hZe⟩ : ∃ F, F = f.bs.flatten := ⟨_, rfl⟩
 have hfb : fileB f = Z ++ (fr 1 F ++ place Z.length) := by rw [hFe, hZe]; rfl
 rw [← hFe] at hF hFu hT
 rw [← hZe] at hZu hZl hT
 rw [hfb] at hL ⊢
 have hpl : (place Z.length).length = 8 := by unfold place; rw [sl_len, upk_len]
 have hfl := fr_len 1 F
 have hfu := fr_u8 hFu 1
 have hpu : U8 (place Z.length) := sl_u8 (U8_wd.2 (upk_wd _ _ _))
 have hln : (Z ++ (fr 1 F ++ place Z.length)).length = Z.length + (F.length + 13) + 8 := by rw [List.length_append, List.length_append, hpl, hfl]; omega
 have hd : (Z ++ (fr 1 F ++ place Z.length)).drop ((Z ++ (fr 1 F ++ place Z.length)).length - 8) = place Z.length := by
   rw [hln, ← List.append_assoc, List.drop_append_of_le_length (by rw [List.length_append, hfl]; omega), List.drop_of_length_le (by rw [List.length_append, hfl]; omega)]
   rfl
 have ht : (Z ++ (fr 1 F ++ place Z.length)).take ((Z ++ (fr 1 F ++ place Z.length)).length - 8) = Z ++ fr 1 F := by
   rw [hln, ← List.append_assoc, List.take_append_of_le_length (by rw [List.length_append, hfl]; omega), List.take_of_length_le (by rw [List.length_append, hfl]; omega)]
 have hpc : plcR (Z ++ (fr 1 F ++ place Z.length)) = Z.length := by
   unfold plcR
   rw [hd]
   have e : (place Z.length).take 4 = upk 8 4 Z.length := by
     unfold place sl
     rw [List.take_append_of_le_length (by rw [upk_len]; exact Nat.le_refl _), List.take_of_length_le (by rw [upk_len]; exact Nat.le_refl _)]
   rw [e, pk_upk]
   exact Nat.mod_eq_of_lt (by omega)
 have hsl : sld (place Z.length) := sld_seal (U8_wd.2 (upk_wd _ _ _))
 have hcut : cut (Z ++ fr 1 F) Z.length (F.length + 13) = fr 1 F := by
   unfold cut
   rw [List.drop_left, List.take_of_length_le (by rw [hfl]; exact Nat.le_refl _)]
 have hft : ftrR (Z ++ (fr 1 F ++ place Z.length)) = (1, F, Z.length + 13 + F.length, 0) := by
   unfold ftrR
   rw [hpc, ht]
   rw [fget_in (by rw [List.length_append]; omega)]
   exact fgetN_fr hFu (by decide) (by decide) (by omega) (by rw [List.length_append, hfl]; omega) hcut
 have hsp : splR (Z ++ (fr 1 F ++ place Z.length)) = some (Z, F) := by
   unfold splR
   rw [hft, hpc, hd, if_neg (by rintro (q | q | q); (rw [hln] at q; omega); exact hL q; exact q hsl), if_neg (by rw [hln]; rintro (q | q | q); exact q rfl; (simp only at q; omega); exact q rfl), List.take_left]
 refine ⟨?_, u8_append hZu (u8_append hfu hpu), by omega⟩
 unfold openR
 rw [hsp]
 exact hT
set_option maxHeartbeats 800000 in
theorem add15_any (A A2 : Option Addr) (n c m c2 base : Nat) (xs ys : List Nat) (w : World) (hown : Own .u8 5 w base A c xs) (hn : xs.length = n) (hy : Rd .u8 w A2 m ys)
   (hne : 0 < m → ∀ p q, A = some p → A2 = some q → p.block ≠ q.block) (hz : base ≤ w.heap.size) (hlen : n + m ≤ 300000000) :
   Calls Tryz.prog 93 #[.slice A n c, .slice A2 m c2] w fun e w' => ∃ A' c', e = .returned (.slice A' (n + m : Nat) c') ∧ Own .u8 5 w' base A' c' (xs ++ ys) ∧ w.grownBy w' (A.map (·.block)) ∧ ∀ p, A' = some p → some p.block = A.map (·.block) ∨ w.heap.size ≤ p.block := by
 have Hl := Lib.hid hy.len
 have Hn := Lib.hid hn
 have h0 : Own .u8 5 w base A c (xs ++ ys.take 0) := by simpa using hown
 have H0 := Lib.hid h0
 have Hy := Lib.hid hy
 have Hne := Lib.hid hne
 clear hn hown h0 hy hne
 go_enter Tryz.func93, Tryz.ntmps93
 go_wp2
 go_loopw [0, 5] (fun v i wr => ∃ (j : Nat) (A' : Option Addr) (c' : Nat), j ≤ m ∧ i = .int .i64 j ∧ v = .slice A' (n + j : Nat) c' ∧ Hid (Own .u8 5 wr base A' c' (xs ++ ys.take j)) ∧ Hid (w.grownBy wr (A.map (·.block)) ∧ ∀ p, A' = some p → some p.block = A.map (·.block) ∨ w.heap.size ≤ p.block)) (fun _ i _ => m - (intOf i).toNat)
 case atStart => exact ⟨0, A, c, Nat.zero_le _, rfl, rfl, H0.out, ⟨⟨rfl, rfl, rfl, Nat.le_refl _, fun _ _ _ => rfl⟩, fun p hp => .inl (by rw [hp]; rfl)⟩⟩
 case round =>
   clear H0
   obtain ⟨j, A', c', hj, rfl, rfl, HO, HG⟩ := hrel
   by_cases hlt : j < m
   · have hyr := Hy.out.grown HG.out.1 (fun a ha e => by
       cases hA : A with
       | none => rw [hA] at e; cases e
       | some p => rw [hA] at e; injection e with e; exact Hne.out (by omega) p a hA ha e.symm)
     obtain ⟨b, o, hA2, hbl, hc⟩ := hyr.at_ hlt
     have Htl := Lib.hid (show (xs ++ ys.take j).length = n + j by rw [List.length_append, List.length_take, Hl.out, Hn.out]; omega)
     have hzr : base ≤ wr.heap.size := Nat.le_trans hz HG.out.1.size
     subst hA2
     clear hyr
     go_wp2_with (at_builtin; refine wpList_push2 .u8 (ys.getD j 0) 5 rfl _ _ 22 rfl _ 1 Tryz.underlying22 Tryz.infoU8 rfl HO.out (n + j) Htl.out rfl rfl rfl (by omega) (by omega) hzr ?_; intro A1 c1 w1 hown1 hw1 hz1)
     have HG1 := Lib.hid (grown_step HG.out.1 HG.out.2 hw1)
     have HO1 : Hid (Own .u8 5 w1 base A1 c1 (xs ++ ys.take (j + 1))) := Lib.hid (by rw [take_next _ _ (by have := Hl.out; omega), ← List.append_assoc]; exact hown1)
     clear hown1 hw1
     go_roundw
     case rel => exact ⟨j + 1, A1, c1, by omega, by go_num, by go_num, HO1.out, HG1.out⟩
     case measure => simp [intOf]; omega
   · obtain rfl : j = m := by omega
     have ho := HO.out
     rw [List.take_of_length_le (Nat.le_of_eq Hl.out)] at ho
     have HO2 := Lib.hid ho
     clear ho
     go_wp2
     go_ret
     exact ⟨_, _, rfl, HO2.out, HG.out.1, HG.out.2⟩
structure RB (w W : World) (Af : Option Addr) (cf : Nat) (F : List Nat) (Ao : Option Addr) (co : Nat) (O : List Nat) : Prop where
 ext : Ext w W
 foot : Own .u8 5 W w.heap.size Af cf F
 out : Own .u8 5 W w.heap.size Ao co O
 ne : ∀ p q, Af = some p → Ao = some q → p.block ≠ q.block
structure PT (W : World) (gp oo : Nat) (v : Value) (Af Ao : Option Addr) : Prop where
 lt : gp < W.heap.size
 c : W.cell? ⟨gp, oo, none⟩ = some v
 nf : ∀ p, Af = some p → p.block ≠ gp
 no : ∀ p, Ao = some p → p.block ≠ gp
section
variable {w W : World} {Af : Option Addr} {cf : Nat} {F : List Nat} {Ao : Option Addr} {co : Nat} {O : List Nat}
theorem RB.ext' (h : RB w W Af cf F Ao co O) {W' : World} (he : Ext W W') : RB w W' Af cf F Ao co O := ⟨h.ext.trans he, h.foot.ext he, h.out.ext he, h.ne⟩
theorem PT.ext' {gp oo : Nat} {v : Value} (h : PT W gp oo v Af Ao) {W' : World} (he : Ext W W') : PT W' gp oo v Af Ao := ⟨Nat.lt_of_lt_of_le h.lt he.size, (he.cells _ _ h.lt).trans h.c, h.nf, h.no⟩
theorem RB.addF (h : RB w W Af cf F Ao co O) (A2 : Option Addr) (m c2 : Nat) (ys : List Nat) (hy : Rd .u8 W A2 m ys) (hne : 0 < m → ∀ p q, Af = some p → A2 = some q → p.block ≠ q.block) (nf : Nat) (hnf : F.length = nf) (hlen : nf + m ≤ 100000000) :
   Calls Tryz.prog 93 #[.slice Af nf cf, .slice A2 m c2] W fun e W' => ∃ A' c', e = .returned (.slice A' (nf + m : Nat) c') ∧ RB w W' A' c' (F ++ ys) Ao co O ∧ (∀ gp oo v, PT W gp oo v Af Ao → PT W' gp oo v A' Ao) := by
 refine (add15_any Af A2 nf cf m c2 w.heap.size F ys W h.foot hnf hy hne h.ext.size (by omega)).mono ?_
 rintro e W' ⟨A', c', rfl, ho, hg, hq⟩
 have rO : ∀ b, Af.map (·.block) = some b → w.heap.size ≤ b ∧ b < W.heap.size := fun b e => by
   cases hA : Af with
   | none => rw [hA] at e; cases e
   | some p => rw [hA] at e; injection e with e; have := h.foot.block p hA; rw [← e]; exact this
 have hout : Own .u8 5 W' w.heap.size Ao co O := by
   refine World.ownsRow.kept h.out hg ?_
   cases hA : Ao with
   | none => exact Or.inl rfl
   | some q =>
     refine Or.inr (fun e => ?_)
     cases hB : Af with
     | none => rw [hB] at e; cases e
     | some p =>
       rw [hB] at e
       have e' : q.block = p.block := Option.some.inj e
       exact h.ne p q hB hA e'.symm
 refine ⟨A', c', rfl, ⟨h.ext.grownB hg (fun b e => (rO b e).1), ho, hout, fun p q hp hq' e => ?_⟩, fun gp oo v hp => ⟨Nat.lt_of_lt_of_le hp.lt hg.size, ?_, fun p hp' e => ?_, hp.no⟩⟩
 · rcases hq p hp with z | z
   · cases hB : Af with
     | none => rw [hB] at z; cases z
     | some p' =>
       rw [hB] at z
       have z' : p.block = p'.block := Option.some.inj z
       exact h.ne p' q hB hq' (z'.symm.trans e)
   · have := (h.out.block q hq').2
     omega
 · rw [cell_blk (hg.block gp hp.lt (fun e => ?_))]
   · exact hp.c
   · cases hB : Af with
     | none => rw [hB] at e; cases e
     | some p' => rw [hB] at e; exact hp.nf p' hB (Option.some.inj e).symm
 · rcases hq p hp' with z | z
   · cases hB : Af with
     | none => rw [hB] at z; cases z
     | some p2 =>
       rw [hB] at z
       have z' : p.block = p2.block := Option.some.inj z
       exact hp.nf p2 hB (z'.symm.trans e)
   · have := hp.lt
     omega
theorem RB.addO (h : RB w W Af cf F Ao co O) (A2 : Option Addr) (m c2 : Nat) (ys : List Nat) (hy : Rd .u8 W A2 m ys) (hne : 0 < m → ∀ p q, Ao = some p → A2 = some q → p.block ≠ q.block) (no : Nat) (hno : O.length = no) (hlen : no + m ≤ 300000000) :
   Calls Tryz.prog 93 #[.slice Ao no co, .slice A2 m c2] W fun e W' => ∃ A' c', e = .returned (.slice A' (no + m : Nat) c') ∧ RB w W' Af cf F A' c' (O ++ ys) ∧ (∀ gp oo v, PT W gp oo v Af Ao → PT W' gp oo v Af A') ∧ W.grownBy W' (Ao.map (·.block)) ∧ (∀ p, A' = some p → some p.block = Ao.map (·.block) ∨ W.heap.size ≤ p.block) := by
 refine (add15_any Ao A2 no co m c2 w.heap.size O ys W h.out hno hy hne h.ext.size hlen).mono ?_
 rintro e W' ⟨A', c', rfl, ho, hg, hq⟩
 have rO : ∀ b, Ao.map (·.block) = some b → w.heap.size ≤ b ∧ b < W.heap.size := fun b e => by
   cases hA : Ao with
   | none => rw [hA] at e; cases e
   | some p => rw [hA] at e; injection e with e; have := h.out.block p hA; rw [← e]; exact this
 have hfoot : Own .u8 5 W' w.heap.size Af cf F := by
   refine World.ownsRow.kept h.foot hg ?_
   cases hA : Af with
   | none => exact Or.inl rfl
   | some q =>
     refine Or.inr (fun e => ?_)
     cases hB : Ao with
     | none => rw [hB] at e; cases e
     | some p =>
       rw [hB] at e
       have e' : q.block = p.block := Option.some.inj e
       exact h.ne q p hA hB e'
 refine ⟨A', c', rfl, ⟨h.ext.grownB hg (fun b e => (rO b e).1), hfoot, ho, fun p q hp hq' e => ?_⟩, fun gp oo v hp => ⟨Nat.lt_of_lt_of_le hp.lt hg.size, ?_, hp.nf, fun p hp' e => ?_⟩, hg, hq⟩
 · rcases hq q hq' with z | z
   · cases hB : Ao with
     | none => rw [hB] at z; cases z
     | some p' =>
       rw [hB] at z
       have z' : q.block = p'.block := Option.some.inj z
       exact h.ne p p' hp hB (e.trans z')
   · have := (h.foot.block p hp).2
     omega
 · rw [cell_blk (hg.block gp hp.lt (fun e => ?_))]
   · exact hp.c
   · cases hB : Ao with
     | none => rw [hB] at e; cases e
     | some p' => rw [hB] at e; exact hp.no p' hB (Option.some.inj e).symm
 · rcases hq p hp' with z | z
   · cases hB : Ao with
     | none => rw [hB] at z; cases z
     | some p2 =>
       rw [hB] at z
       have z' : p.block = p2.block := Option.some.inj z
       exact hp.no p2 hB (z'.symm.trans e)
   · have := hp.lt
     omega
theorem RB.neF (h : RB w W Af cf F Ao co O) {W' : World} {A2 : Option Addr} {c2 : Nat} {ys : List Nat} (ho : Own .u8 5 W' W.heap.size A2 c2 ys) : ∀ p q, Af = some p → A2 = some q → p.block ≠ q.block := fun p q hp hq => by
 have h1 := (h.foot.block p hp).2
 have h2 := (ho.block q hq).1
 omega
theorem RB.neO (h : RB w W Af cf F Ao co O) {W' : World} {A2 : Option Addr} {c2 : Nat} {ys : List Nat} (ho : Own .u8 5 W' W.heap.size A2 c2 ys) : ∀ p q, Ao = some p → A2 = some q → p.block ≠ q.block := fun p q hp hq => by
 have h1 := (h.out.block p hp).2
 have h2 := (ho.block q hq).1
 omega
theorem RB.addF' (h : RB w W Af cf F Ao co O) (A2 : Option Addr) (m c2 : Nat) (ys : List Nat) (hy : Rd .u8 W A2 m ys) (hne : 0 < m → ∀ p q, Af = some p → A2 = some q → p.block ≠ q.block) (hlen : F.length + m ≤ 100000000) :
   Calls Tryz.prog 93 #[.slice Af F.length cf, .slice A2 m c2] W fun e W' => ∃ A' c' F', e = .returned (.slice A' F'.length c') ∧ Hid (F' = F ++ ys) ∧ RB w W' A' c' F' Ao co O ∧ (∀ gp oo v, PT W gp oo v Af Ao → PT W' gp oo v A' Ao) := by
 refine (h.addF A2 m c2 ys hy hne F.length rfl hlen).mono ?_
 rintro e W' ⟨A', c', rfl, h1, h2⟩
 have hl := hy.len
 exact ⟨A', c', F ++ ys, by rw [List.length_append, hl], Lib.hid rfl, h1, h2⟩
theorem RB.addO' (h : RB w W Af cf F Ao co O) (A2 : Option Addr) (m c2 : Nat) (ys : List Nat) (hy : Rd .u8 W A2 m ys) (hne : 0 < m → ∀ p q, Ao = some p → A2 = some q → p.block ≠ q.block) (hlen : O.length + m ≤ 300000000) :
   Calls Tryz.prog 93 #[.slice Ao O.length co, .slice A2 m c2] W fun e W' => ∃ A' c' O', e = .returned (.slice A' O'.length c') ∧ Hid (O' = O ++ ys) ∧ RB w W' Af cf F A' c' O' ∧ (∀ gp oo v, PT W gp oo v Af Ao → PT W' gp oo v Af A') ∧ W.grownBy W' (Ao.map (·.block)) ∧ (∀ p, A' = some p → some p.block = Ao.map (·.block) ∨ W.heap.size ≤ p.block) := by
 refine (h.addO A2 m c2 ys hy hne O.length rfl hlen).mono ?_
 rintro e W' ⟨A', c', rfl, h1, h2⟩
 have hl := hy.len
 exact ⟨A', c', O ++ ys, by rw [List.length_append, hl], Lib.hid rfl, h1, h2⟩
theorem RB.mkO (h : RB w W Af cf F none 0 []) : RB w (W.alloc (.cells #[] 5)) Af cf F (some ⟨W.heap.size, 0, none⟩) 0 [] :=
 ⟨h.ext.alloc _, h.foot.ext ((Ext.refl _).alloc _), (Own.made .u8 5 W (Nat.le_refl _)).mono h.ext.size, fun p q hp hq e => by
   injection hq with hq
   subst hq
   have := (h.foot.block p hp).2
   have e' : p.block = W.heap.size := e
   omega⟩
end
structure BL (w0 Wl W : World) (g : Nat) (k : Int) (ks : Bool) (rows per : Int) (Ab : Option Addr) (cb : Nat) (bs : List Sl) (Af : Option Addr) (cf : Nat) (fs : List Sl) : Prop where
 ext : Ext w0 W
 bas : Wl.heap.size ≤ W.heap.size
 lo : w0.heap.size ≤ g
 hi : g < Wl.heap.size
 w0l : w0.heap.size ≤ Wl.heap.size
 kb : ∀ b, b < Wl.heap.size → b ≠ g → W.heap[b]? = Wl.heap[b]?
 fil : FilC W g k ks rows per (.slice Ab bs.length cb) (.slice Af fs.length cf)
 own : OwnS W Wl.heap.size Ab cb bs
 owf : OwnS W Wl.heap.size Af cf fs
 nef : ∀ p q, Ab = some p → Af = some q → p.block ≠ q.block
 okb : ∀ x ∈ bs, Rd .u8 W x.A x.body.length x.body ∧ x.body.length ≤ x.c ∧ x.c ≤ 9223372036854775807 ∧ ∀ p, x.A = some p → Wl.heap.size ≤ p.block ∧ p.block < W.heap.size ∧ (∀ q, Ab = some q → q.block ≠ p.block) ∧ (∀ q, Af = some q → q.block ≠ p.block)
 okf : ∀ x ∈ fs, Rd .u8 W x.A x.body.length x.body ∧ x.body.length ≤ x.c ∧ x.c ≤ 9223372036854775807 ∧ (0 < x.body.length → ∀ p, x.A = some p → p.block < w0.heap.size)
theorem KeepsOthers.ext {W W' : World} (h : Ext W W') : KeepsOthers W W' := KeepsOthers.of_grownBy (Ext.toGrown h none) (fun j o e _ => by cases e)
theorem OwnS.keeps {W W' : World} {base c : Nat} {A : Option Addr} {ss : List Sl} (h : OwnS W base A c ss) (hg : W.grownBy W' (A.map (·.block))) : KeepsOthers W W' := by
 refine KeepsOthers.of_grownBy hg (fun j o e ho => ?_)
 rcases h.2 with ⟨e2, _⟩ | ⟨g, cap, cur, e2, _, hc, _⟩
 · injection e2 with e1 _ _
   subst e1
   cases e
 · injection e2 with e1 _ _
   subst e1
   injection e with e
   subst e
   rw [hc] at ho
   injection ho with ho
   subst ho
   rfl
theorem Rd.grownP {w w' : World} {A : Option Addr} {n : Nat} {r : Option Nat} {bs : List Nat} (h : Rd .u8 w A n bs) (hg : w.grownBy w' r) (hA : 0 < n → ∀ p, A = some p → r ≠ some p.block) : Rd .u8 w' A n bs :=
 ⟨h.1, fun h0 => by
   obtain ⟨c, o, e, hc, hcell⟩ := h.2 h0
   refine ⟨c, o, e, Nat.lt_of_lt_of_le hc hg.size, fun j hj => ?_⟩
   rw [cell_blk (hg.block c hc (fun q => hA h0 _ e q.symm))]
   exact hcell j hj⟩
section
variable {w0 Wl W W' : World} {g : Nat} {k : Int} {ks : Bool} {rows per : Int} {Ab : Option Addr} {cb : Nat} {bs : List Sl} {Af : Option Addr} {cf : Nat} {fs : List Sl}
theorem BL.rd (h : BL w0 Wl W g k ks rows per Ab cb bs Af cf fs) (f : FlM) (hk : k = (f.k : Int)) (hks : ks = f.ks) (hr : rows = (f.rows : Int)) (hp : per = (f.per : Int)) (hb : bs.map Sl.body = f.bs) (hf : fs.map Sl.body = f.fs) : FilR W g f := by
 subst hk hks hr hp
 have l1 : bs.length = f.bs.length := by rw [← hb, List.length_map]
 have l2 : fs.length = f.fs.length := by rw [← hf, List.length_map]
 exact ⟨Ab, cb, Af, cf, bs, fs, l1 ▸ l2 ▸ h.fil, l1 ▸ h.own.rdL, l2 ▸ h.owf.rdL, hb, hf, fun x hx => ⟨(h.okb x hx).1, (h.okb x hx).2.1, (h.okb x hx).2.2.1⟩, fun x hx => ⟨(h.okf x hx).1, (h.okf x hx).2.1, (h.okf x hx).2.2.1⟩⟩
theorem BL.step {r : Option Nat} (h : BL w0 Wl W g k ks rows per Ab cb bs Af cf fs) (hg : W.grownBy W' r) (hr : ∀ b, r = some b → Wl.heap.size ≤ b ∧ ∃ o : Obj, W.heap[b]? = some o ∧ o.isCells = false) : BL w0 Wl W' g k ks rows per Ab cb bs Af cf fs :=
 ⟨h.ext.grownB hg (fun b e => Nat.le_trans h.w0l (hr b e).1), Nat.le_trans h.bas hg.size, h.lo, h.hi, h.w0l,
   fun b hb hne => (hg.block b (Nat.lt_of_lt_of_le hb h.bas) (fun e => by have := (hr b e.symm).1; omega)).trans (h.kb b hb hne),
   h.fil.own hg (fun r e => (hr r e).2), h.own.own hg (fun r e => (hr r e).2), h.owf.own hg (fun r e => (hr r e).2), h.nef,
   fun x hx => ⟨(h.okb x hx).1.own hg (fun r e => (hr r e).2), (h.okb x hx).2.1, (h.okb x hx).2.2.1, fun p hp => by
     obtain ⟨q1, q2, q3⟩ := (h.okb x hx).2.2.2 p hp
     exact ⟨q1, Nat.lt_of_lt_of_le q2 hg.size, q3⟩⟩,
   fun x hx => ⟨(h.okf x hx).1.own hg (fun r e => (hr r e).2), (h.okf x hx).2⟩⟩
theorem BL.ext' (h : BL w0 Wl W g k ks rows per Ab cb bs Af cf fs) (he : Ext W W') : BL w0 Wl W' g k ks rows per Ab cb bs Af cf fs :=
 h.step (Ext.toGrown he none) (fun b e => by cases e)
theorem BL.pushB (h : BL w0 Wl W g k ks rows per Ab cb bs Af cf fs) (x : Sl) (hx : Rd .u8 W x.A x.body.length x.body) (hx2 : x.body.length ≤ x.c) (hx3 : x.c ≤ 9223372036854775807)
   (hx4 : ∀ p, x.A = some p → Wl.heap.size ≤ p.block ∧ p.block < W.heap.size ∧ (∀ q, Ab = some q → q.block ≠ p.block) ∧ (∀ q, Af = some q → q.block ≠ p.block))
   {A' : Option Addr} {c' : Nat} {W5 : World} (ho : OwnS W5 Wl.heap.size A' c' (bs ++ [x])) (hg : W.grownBy W5 (Ab.map (·.block))) (hq : ∀ q, A' = some q → W.heap.size ≤ q.block ∨ A' = Ab) :
   BL w0 Wl (W5.setCell ⟨g, 4, none⟩ (.slice A' (bs.length + 1) c')) g k ks rows per A' c' (bs ++ [x]) Af cf fs := by
 have lo := h.lo
 have hi := h.hi
 have w0l := h.w0l
 have rO : ∀ b, Ab.map (·.block) = some b → Wl.heap.size ≤ b := fun b e => by
   cases hA : Ab with
   | none => rw [hA] at e; cases e
   | some p => rw [hA] at e; injection e with e; have := (h.own.block p hA).1; rw [← e]; exact this
 have nO : ∀ b, b < Wl.heap.size → Ab.map (·.block) ≠ some b := fun b hb e => by have := rO b e; omega
 have hg2 := grown_setCell W5 g 4 (.slice A' (bs.length + 1) c')
 have mO : ∀ {X : Option Addr} {c : Nat} {ss : List Sl}, OwnS W5 Wl.heap.size X c ss → ∀ p, X = some p → some g ≠ some p.block := fun hX p hp e => by injection e with e; have := (hX.block p hp).1; omega
 have hof5 : OwnS W5 Wl.heap.size Af cf fs := h.owf.grownR hg (fun p hp e => by
   cases hA : Ab with
   | none => rw [hA] at e; cases e
   | some q => rw [hA] at e; injection e with e; exact h.nef q p hA hp e)
 have hF5 := h.fil.grownR hg (nO _ hi)
 have okx : ∀ y : Sl, Rd .u8 W y.A y.body.length y.body → (∀ p, y.A = some p → Wl.heap.size ≤ p.block ∧ p.block < W.heap.size ∧ (∀ q, Ab = some q → q.block ≠ p.block) ∧ (∀ q, Af = some q → q.block ≠ p.block)) →
     Rd .u8 (W5.setCell ⟨g, 4, none⟩ (.slice A' (bs.length + 1) c')) y.A y.body.length y.body ∧ ∀ p, y.A = some p → Wl.heap.size ≤ p.block ∧ p.block < (W5.setCell ⟨g, 4, none⟩ (.slice A' (bs.length + 1) c')).heap.size ∧ (∀ q, A' = some q → q.block ≠ p.block) ∧ (∀ q, Af = some q → q.block ≠ p.block) := fun y hy hy4 => by
   refine ⟨(hy.grownR hg (fun p hp e => ?_)).grownR hg2 (fun p hp e => ?_), fun p hp => ?_⟩
   · obtain ⟨_, _, q3, _⟩ := hy4 p hp
     cases hA : Ab with
     | none => rw [hA] at e; cases e
     | some q => rw [hA] at e; injection e with e; exact q3 q hA e
   · obtain ⟨q1, _⟩ := hy4 p hp
     injection e with e
     omega
   · obtain ⟨q1, q2, q3, q4⟩ := hy4 p hp
     refine ⟨q1, Nat.lt_of_lt_of_le q2 (Nat.le_trans hg.size hg2.size), fun q hq' => ?_, q4⟩
     rcases hq q hq' with z | z
     · omega
     · exact q3 q (z ▸ hq')
 refine ⟨(h.ext.grownB hg (fun b e => by have := rO b e; omega)).grownB hg2 (fun b e => by injection e with e; omega), Nat.le_trans h.bas (Nat.le_trans hg.size hg2.size), lo, hi, w0l, fun b hb hne => ?_, ?_,
   ho.grownR hg2 (mO ho), hof5.grownR hg2 (mO hof5), fun p q hp hq' e => ?_, fun y hy => ?_, fun y hy => ?_⟩
 · have h1 := hg.block b (Nat.lt_of_lt_of_le hb h.bas) (fun e => nO b hb e.symm)
   have h2 := hg2.block b (Nat.lt_of_lt_of_le hb (Nat.le_trans h.bas hg.size)) (fun e => by injection e with e; exact hne e)
   exact (h2.trans h1).trans (h.kb b hb hne)
 · rw [List.length_append, List.length_singleton]
   exact hF5.set4 _
 · rcases hq p hp with q1 | q1
   · have := (h.owf.block q hq').2
     omega
   · exact h.nef p q (q1 ▸ hp) hq' e
 · rcases List.mem_append.1 hy with h1 | h1
   · obtain ⟨a1, a2, a3, a4⟩ := h.okb y h1
     obtain ⟨b1, b2⟩ := okx y a1 a4
     exact ⟨b1, a2, a3, b2⟩
   · rw [List.mem_singleton.1 h1]
     obtain ⟨b1, b2⟩ := okx x hx hx4
     exact ⟨b1, hx2, hx3, b2⟩
 · obtain ⟨a1, a2, a3, a4⟩ := h.okf y hy
   refine ⟨(a1.grownP hg (fun h0 p hp => nO _ (by have := a4 h0 p hp; omega))).grownP hg2 (fun h0 p hp e => ?_), a2, a3, a4⟩
   injection e with e
   have := a4 h0 p hp
   omega
theorem BL.pushF (h : BL w0 Wl W g k ks rows per Ab cb bs Af cf fs) (x : Sl) (hx : Rd .u8 W x.A x.body.length x.body) (hx2 : x.body.length ≤ x.c) (hx3 : x.c ≤ 9223372036854775807)
   (hx4 : 0 < x.body.length → ∀ p, x.A = some p → p.block < w0.heap.size)
   {A' : Option Addr} {c' : Nat} {W5 : World} (ho : OwnS W5 Wl.heap.size A' c' (fs ++ [x])) (hg : W.grownBy W5 (Af.map (·.block))) (hq : ∀ q, A' = some q → W.heap.size ≤ q.block ∨ A' = Af) :
   BL w0 Wl (W5.setCell ⟨g, 5, none⟩ (.slice A' (fs.length + 1) c')) g k ks rows per Ab cb bs A' c' (fs ++ [x]) := by
 have lo := h.lo
 have hi := h.hi
 have w0l := h.w0l
 have rO : ∀ b, Af.map (·.block) = some b → Wl.heap.size ≤ b := fun b e => by
   cases hA : Af with
   | none => rw [hA] at e; cases e
   | some p => rw [hA] at e; injection e with e; have := (h.owf.block p hA).1; rw [← e]; exact this
 have nO : ∀ b, b < Wl.heap.size → Af.map (·.block) ≠ some b := fun b hb e => by have := rO b e; omega
 have hg2 := grown_setCell W5 g 5 (.slice A' (fs.length + 1) c')
 have mO : ∀ {X : Option Addr} {c : Nat} {ss : List Sl}, OwnS W5 Wl.heap.size X c ss → ∀ p, X = some p → some g ≠ some p.block := fun hX p hp e => by injection e with e; have := (hX.block p hp).1; omega
 have hob5 : OwnS W5 Wl.heap.size Ab cb bs := h.own.grownR hg (fun p hp e => by
   cases hA : Af with
   | none => rw [hA] at e; cases e
   | some q => rw [hA] at e; injection e with e; exact h.nef p q hp hA e.symm)
 have hF5 := h.fil.grownR hg (nO _ hi)
 refine ⟨(h.ext.grownB hg (fun b e => by have := rO b e; omega)).grownB hg2 (fun b e => by injection e with e; omega), Nat.le_trans h.bas (Nat.le_trans hg.size hg2.size), lo, hi, w0l, fun b hb hne => ?_, ?_,
   hob5.grownR hg2 (mO hob5), ho.grownR hg2 (mO ho), fun p q hp hq' e => ?_, fun y hy => ?_, fun y hy => ?_⟩
 · have h1 := hg.block b (Nat.lt_of_lt_of_le hb h.bas) (fun e => nO b hb e.symm)
   have h2 := hg2.block b (Nat.lt_of_lt_of_le hb (Nat.le_trans h.bas hg.size)) (fun e => by injection e with e; exact hne e)
   exact (h2.trans h1).trans (h.kb b hb hne)
 · rw [List.length_append, List.length_singleton]
   exact hF5.set5 _
 · rcases hq q hq' with q1 | q1
   · have := (h.own.block p hp).2
     omega
   · exact h.nef p q hp (q1 ▸ hq') e
 · obtain ⟨a1, a2, a3, a4⟩ := h.okb y hy
   refine ⟨(a1.grownR hg (fun p hp e => ?_)).grownR hg2 (fun p hp e => ?_), a2, a3, fun p hp => ?_⟩
   · obtain ⟨_, _, _, q4⟩ := a4 p hp
     cases hA : Af with
     | none => rw [hA] at e; cases e
     | some q => rw [hA] at e; injection e with e; exact q4 q hA e
   · obtain ⟨q1, _⟩ := a4 p hp
     injection e with e
     omega
   · obtain ⟨q1, q2, q3, q4⟩ := a4 p hp
     refine ⟨q1, Nat.lt_of_lt_of_le q2 (Nat.le_trans hg.size hg2.size), q3, fun q hq' => ?_⟩
     rcases hq q hq' with z | z
     · omega
     · exact q4 q (z ▸ hq')
 · have okx : ∀ y : Sl, Rd .u8 W y.A y.body.length y.body → (0 < y.body.length → ∀ p, y.A = some p → p.block < w0.heap.size) → Rd .u8 (W5.setCell ⟨g, 5, none⟩ (.slice A' (fs.length + 1) c')) y.A y.body.length y.body := fun y a1 a4 =>
     (a1.grownP hg (fun h0 p hp => nO _ (by have := a4 h0 p hp; omega))).grownP hg2 (fun h0 p hp e => by injection e with e; have := a4 h0 p hp; omega)
   rcases List.mem_append.1 hy with h1 | h1
   · obtain ⟨a1, a2, a3, a4⟩ := h.okf y h1
     exact ⟨okx y a1 a4, a2, a3, a4⟩
   · rw [List.mem_singleton.1 h1]
     exact ⟨okx x hx hx4, hx2, hx3, hx4⟩
end
end Go.Proofs.YthibbgmicmfkfaaGreat
