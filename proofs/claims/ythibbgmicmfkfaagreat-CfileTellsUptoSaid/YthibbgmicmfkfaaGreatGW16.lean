import Derived.Test.YthibbgmicmfkfaaGreatGW15
import Derived.Lib.SliceRun
import Derived.OrdersHeld
namespace Go.Proofs.YthibbgmicmfkfaaGreat
open Go.RowKit
set_option maxRecDepth 100000
def Sok (W : World) (B : Option Addr) (x : Sl) : Prop := Rd .u8 W x.A x.body.length x.body ∧ x.body.length ≤ x.c ∧ x.c ≤ 9223372036854775807 ∧ ∀ p', x.A = some p' → ∃ p, B = some p ∧ p'.block = p.block
theorem Sok.grownR {W W' : World} {B : Option Addr} {x : Sl} {r : Option Nat} (h : Sok W B x) (hg : W.grownBy W' r) (hB : ∀ p, B = some p → r ≠ some p.block) : Sok W' B x := by
 obtain ⟨h1, h2, h3, h4⟩ := h
 refine ⟨h1.grownR hg (fun p' hp' e => ?_), h2, h3, h4⟩
 obtain ⟨p, q1, q2⟩ := h4 p' hp'
 exact hB p q1 (by rw [← q2]; exact e)
theorem OwnS.mono' {w : World} {base base' c : Nat} {A : Option Addr} {ss : List Sl} (h : OwnS w base A c ss) (hb : base' ≤ base) : OwnS w base' A c ss := by
 refine ⟨h.1, ?_⟩
 rcases h.2 with hn | ⟨g, cap, cur, hv, hg, r⟩
 · exact .inl hn
 · exact .inr ⟨g, cap, cur, hv, Nat.le_trans hb hg, r⟩
theorem rdSS_of {w : World} {base c : Nat} {A : Option Addr} {ss : List Sl} (h : OwnS w base A c ss) (hs : ∀ x ∈ ss, Rd .u8 w x.A x.body.length x.body) : RdSS w A ss.length (ss.map Sl.body) := by
 obtain ⟨h1, h2⟩ := h.rdL
 refine ⟨List.length_map .., fun h0 => ?_⟩
 obtain ⟨b, o, e, hb, hc⟩ := h2 h0
 refine ⟨b, o, e, hb, fun j hj => ?_⟩
 have hjs : ss[j]? = some ss[j] := List.getElem?_eq_getElem hj
 have hg : (ss.map Sl.body).getD j [] = ss[j].body := by simp [List.getD_eq_getElem?_getD, hjs]
 rw [hg]
 exact ⟨_, _, _, hc j _ hjs, hs _ (List.getElem_mem hj)⟩
structure TL (w0 W : World) (g1 g3 base : Nat) (A B : Option Addr) (k : Int) (ks : Bool) (rows per : Int) (Ab : Option Addr) (cb : Nat) (bs : List Sl) (Af : Option Addr) (cf : Nat) (fs : List Sl) (s : LSt) : Prop where
 ext : Ext w0 W
 bas : base ≤ W.heap.size
 lo1 : w0.heap.size ≤ g1
 lo3 : g1 + 1 < g3
 lob : g3 < base
 neA : ∀ p, A = some p → p.block < w0.heap.size
 neB : ∀ p, B = some p → w0.heap.size ≤ p.block ∧ p.block < base ∧ p.block ≠ g1 ∧ p.block ≠ g1 + 1 ∧ p.block ≠ g3
 fil : FilC W g1 k ks rows per (.slice Ab bs.length cb) (.slice Af fs.length cf)
 own : OwnS W base Ab cb bs
 owf : OwnS W base Af cf fs
 nef : ∀ p q, Ab = some p → Af = some q → p.block ≠ q.block
 mb : bs.map Sl.body = s.bs
 mf : fs.map Sl.body = s.fs
 okb : ∀ x ∈ bs, Sok W B x
 okf : ∀ x ∈ fs, Sok W A x
 rdr : Rdr W (g1 + 1) A s.r s.rf
 lrd : Rdr W g3 B s.l s.lf
section
variable {w0 W W' : World} {g1 g3 base : Nat} {A B : Option Addr} {k : Int} {ks : Bool} {rows per : Int} {Ab : Option Addr} {cb : Nat} {bs : List Sl} {Af : Option Addr} {cf : Nat} {fs : List Sl} {s : LSt}
theorem TL.other {r : Option Nat} (h : TL w0 W g1 g3 base A B k ks rows per Ab cb bs Af cf fs s) (hg : W.grownBy W' r) (hr : r = none ∨ r = some (g1 + 1) ∨ r = some g3)
   (s' : LSt) (hb : s'.bs = s.bs) (hf : s'.fs = s.fs) (h1 : Rdr W' (g1 + 1) A s'.r s'.rf) (h3 : Rdr W' g3 B s'.l s'.lf) : TL w0 W' g1 g3 base A B k ks rows per Ab cb bs Af cf fs s' := by
 have l1 := h.lo1
 have l3 := h.lo3
 have lb := h.lob
 have rb : ∀ b, r = some b → b = g1 + 1 ∨ b = g3 := fun b e => by
   rcases hr with q | q | q
   · rw [q] at e; cases e
   · rw [q] at e; injection e with e; exact .inl e.symm
   · rw [q] at e; injection e with e; exact .inr e.symm
 have rA : ∀ p, A = some p → r ≠ some p.block := fun p hp e => by
   have := h.neA p hp
   rcases rb _ e with q | q <;> omega
 have rB : ∀ p, B = some p → r ≠ some p.block := fun p hp e => by
   obtain ⟨_, _, q3, q4, q5⟩ := h.neB p hp
   rcases rb _ e with q | q
   · exact q4 q
   · exact q5 q
 have rO : ∀ {X : Option Addr} {c : Nat} {ss : List Sl}, OwnS W base X c ss → ∀ p, X = some p → r ≠ some p.block := fun ho p hp e => by
   have := (ho.block p hp).1
   rcases rb _ e with q | q <;> omega
 exact ⟨h.ext.grownB hg (fun b e => by rcases rb b e with q | q <;> omega), Nat.le_trans h.bas hg.size, l1, l3, lb, h.neA, h.neB, h.fil.grownR hg (fun e => by rcases rb _ e with q | q <;> omega),
   h.own.grownR hg (rO h.own), h.owf.grownR hg (rO h.owf), h.nef, h.mb.trans hb.symm, h.mf.trans hf.symm, fun x hx => (h.okb x hx).grownR hg rB, fun x hx => (h.okf x hx).grownR hg rA, h1, h3⟩
theorem TL.ext' (h : TL w0 W g1 g3 base A B k ks rows per Ab cb bs Af cf fs s) (he : Ext W W') : TL w0 W' g1 g3 base A B k ks rows per Ab cb bs Af cf fs s :=
 h.other (Ext.toGrown he none) (.inl rfl) s rfl rfl (h.rdr.grownR (Ext.toGrown he none) (by simp) (by simp)) (h.lrd.grownR (Ext.toGrown he none) (by simp) (by simp))
theorem TL.num (h : TL w0 W g1 g3 base A B k ks rows per Ab cb bs Af cf fs s) (hu : U8 s.r) (hn : s.r.length ≤ 70000) (most : Nat) (mi : Int) (hmi : mi = (most : Int)) (hm : most ≤ 1000000) :
   Calls Tryz.prog 98 #[.pointer (some ⟨g1 + 1, 0, none⟩), .int .i64 mi] W fun e W' => e = .returned (.int .i64 ((numR s.r s.rf most).1 : Int)) ∧
     TL w0 W' g1 g3 base A B k ks rows per Ab cb bs Af cf fs { s with r := (numR s.r s.rf most).2.1, rf := (numR s.r s.rf most).2.2 } := by
 have l1 := h.lo1
 have l3 := h.lo3
 refine (h.rdr.num (fun p hp => by have := h.neA p hp; omega) hu (by omega) most mi hmi hm).mono ?_
 rintro e W' ⟨rfl, r1, hg⟩
 refine ⟨rfl, h.other hg (.inr (.inl rfl)) _ rfl rfl r1 (h.lrd.grownR hg (fun e => by injection e with e; omega) (fun p hp e => ?_))⟩
 injection e with e
 exact (h.neB p hp).2.2.2.1 e.symm
theorem TL.bytL (h : TL w0 W g1 g3 base A B k ks rows per Ab cb bs Af cf fs s) (hn : s.l.length ≤ 140737488355328) (m : Nat) (hm : m ≤ 1000000) :
   Calls Tryz.prog 101 #[.pointer (some ⟨g3, 0, none⟩), .int .i64 (m : Int)] W fun e W' => ∃ x : Sl, e = .returned (.slice x.A x.body.length x.c) ∧ x.body = (bytR s.l s.lf m).1 ∧ Sok W' B x ∧
     TL w0 W' g1 g3 base A B k ks rows per Ab cb bs Af cf fs { s with l := (bytR s.l s.lf m).2.1, lf := (bytR s.l s.lf m).2.2 } := by
 have l1 := h.lo1
 have l3 := h.lo3
 refine (h.lrd.byt (fun p hp => (h.neB p hp).2.2.2.2) hn m hm).mono ?_
 rintro e W' ⟨x, rfl, x1, x2, x3, x4, x5, r1, hg⟩
 exact ⟨x, rfl, x1, ⟨x2, x3, x4, x5⟩, h.other hg (.inr (.inr rfl)) _ rfl rfl (h.rdr.grownR hg (fun e => by injection e with e; omega) (fun p hp e => by injection e with e; have := h.neA p hp; omega)) r1⟩
theorem TL.bytR' (h : TL w0 W g1 g3 base A B k ks rows per Ab cb bs Af cf fs s) (hn : s.r.length ≤ 70000) (m : Nat) (hm : m ≤ 1000000) :
   Calls Tryz.prog 101 #[.pointer (some ⟨g1 + 1, 0, none⟩), .int .i64 (m : Int)] W fun e W' => ∃ x : Sl, e = .returned (.slice x.A x.body.length x.c) ∧ x.body = (bytR s.r s.rf m).1 ∧ Sok W' A x ∧
     TL w0 W' g1 g3 base A B k ks rows per Ab cb bs Af cf fs { s with r := (bytR s.r s.rf m).2.1, rf := (bytR s.r s.rf m).2.2 } := by
 have l1 := h.lo1
 have l3 := h.lo3
 refine (h.rdr.byt (fun p hp => by have := h.neA p hp; omega) (by omega) m hm).mono ?_
 rintro e W' ⟨x, rfl, x1, x2, x3, x4, x5, r1, hg⟩
 refine ⟨x, rfl, x1, ⟨x2, x3, x4, x5⟩, h.other hg (.inr (.inl rfl)) _ rfl rfl r1 (h.lrd.grownR hg (fun e => by injection e with e; omega) (fun p hp e => ?_))⟩
 injection e with e
 exact (h.neB p hp).2.2.2.1 e.symm
theorem TL.pushB (h : TL w0 W g1 g3 base A B k ks rows per Ab cb bs Af cf fs s) (x : Sl) (hx : Sok W B x) {A' : Option Addr} {c' : Nat} {W5 : World} (ho : OwnS W5 base A' c' (bs ++ [x])) (hg : W.grownBy W5 (Ab.map (·.block))) (hq : ∀ q, A' = some q → W.heap.size ≤ q.block ∨ A' = Ab) :
   TL w0 (W5.setCell ⟨g1, 4, none⟩ (.slice A' (bs.length + 1) c')) g1 g3 base A B k ks rows per A' c' (bs ++ [x]) Af cf fs { s with bs := s.bs ++ [x.body] } := by
 have l1 := h.lo1
 have l3 := h.lo3
 have lb := h.lob
 have rO : ∀ b, Ab.map (·.block) = some b → base ≤ b := fun b e => by
   cases hA : Ab with
   | none => rw [hA] at e; cases e
   | some p => rw [hA] at e; injection e with e; have := (h.own.block p hA).1; rw [← e]; exact this
 have nO : ∀ b, b < base → Ab.map (·.block) ≠ some b := fun b hb e => by have := rO b e; omega
 have nA : ∀ p, A = some p → Ab.map (·.block) ≠ some p.block := fun p hp => nO _ (by have := h.neA p hp; omega)
 have nB : ∀ p, B = some p → Ab.map (·.block) ≠ some p.block := fun p hp => nO _ (h.neB p hp).2.1
 have hg2 := grown_setCell W5 g1 4 (.slice A' (bs.length + 1) c')
 have mA : ∀ p, A = some p → some g1 ≠ some p.block := fun p hp e => by injection e with e; have := h.neA p hp; omega
 have mB : ∀ p, B = some p → some g1 ≠ some p.block := fun p hp e => by injection e with e; exact (h.neB p hp).2.2.1 e.symm
 have mO : ∀ {X : Option Addr} {c : Nat} {ss : List Sl}, OwnS W5 base X c ss → ∀ p, X = some p → some g1 ≠ some p.block := fun hX p hp e => by injection e with e; have := (hX.block p hp).1; omega
 have hof5 : OwnS W5 base Af cf fs := h.owf.grownR hg (fun p hp e => by
   cases hA : Ab with
   | none => rw [hA] at e; cases e
   | some q => rw [hA] at e; injection e with e; exact h.nef q p hA hp e)
 have hF5 := h.fil.grownR hg (nO _ (by omega))
 refine ⟨(h.ext.grownB hg (fun b e => by have := rO b e; omega)).grownB hg2 (fun b e => by injection e with e; omega), Nat.le_trans h.bas (Nat.le_trans hg.size hg2.size), l1, l3, lb, h.neA, h.neB, ?_,
   ho.grownR hg2 (mO ho), hof5.grownR hg2 (mO hof5), fun p q hp hq' e => ?_, by rw [List.map_append, h.mb]; rfl, h.mf, fun y hy => ?_, fun y hy => ((h.okf y hy).grownR hg nA).grownR hg2 mA,
   (h.rdr.grownR hg (nO _ (by omega)) nA).grownR hg2 (fun e => by injection e with e; omega) mA, (h.lrd.grownR hg (nO _ (by omega)) nB).grownR hg2 (fun e => by injection e with e; omega) mB⟩
 · rw [List.length_append, List.length_singleton]
   exact hF5.set4 _
 · rcases hq p hp with q1 | q1
   · have := (h.owf.block q hq').2
     omega
   · exact h.nef p q (q1 ▸ hp) hq' e
 · rcases List.mem_append.1 hy with h1 | h1
   · exact ((h.okb y h1).grownR hg nB).grownR hg2 mB
   · rw [List.mem_singleton.1 h1]
     exact (hx.grownR hg nB).grownR hg2 mB
theorem TL.pushF (h : TL w0 W g1 g3 base A B k ks rows per Ab cb bs Af cf fs s) (x : Sl) (hx : Sok W A x) {A' : Option Addr} {c' : Nat} {W5 : World} (ho : OwnS W5 base A' c' (fs ++ [x])) (hg : W.grownBy W5 (Af.map (·.block))) (hq : ∀ q, A' = some q → W.heap.size ≤ q.block ∨ A' = Af) :
   TL w0 (W5.setCell ⟨g1, 5, none⟩ (.slice A' (fs.length + 1) c')) g1 g3 base A B k ks rows per Ab cb bs A' c' (fs ++ [x]) { s with fs := s.fs ++ [x.body] } := by
 have l1 := h.lo1
 have l3 := h.lo3
 have lb := h.lob
 have rO : ∀ b, Af.map (·.block) = some b → base ≤ b := fun b e => by
   cases hA : Af with
   | none => rw [hA] at e; cases e
   | some p => rw [hA] at e; injection e with e; have := (h.owf.block p hA).1; rw [← e]; exact this
 have nO : ∀ b, b < base → Af.map (·.block) ≠ some b := fun b hb e => by have := rO b e; omega
 have nA : ∀ p, A = some p → Af.map (·.block) ≠ some p.block := fun p hp => nO _ (by have := h.neA p hp; omega)
 have nB : ∀ p, B = some p → Af.map (·.block) ≠ some p.block := fun p hp => nO _ (h.neB p hp).2.1
 have hg2 := grown_setCell W5 g1 5 (.slice A' (fs.length + 1) c')
 have mA : ∀ p, A = some p → some g1 ≠ some p.block := fun p hp e => by injection e with e; have := h.neA p hp; omega
 have mB : ∀ p, B = some p → some g1 ≠ some p.block := fun p hp e => by injection e with e; exact (h.neB p hp).2.2.1 e.symm
 have mO : ∀ {X : Option Addr} {c : Nat} {ss : List Sl}, OwnS W5 base X c ss → ∀ p, X = some p → some g1 ≠ some p.block := fun hX p hp e => by injection e with e; have := (hX.block p hp).1; omega
 have hob5 : OwnS W5 base Ab cb bs := h.own.grownR hg (fun p hp e => by
   cases hA : Af with
   | none => rw [hA] at e; cases e
   | some q => rw [hA] at e; injection e with e; exact h.nef p q hp hA e.symm)
 have hF5 := h.fil.grownR hg (nO _ (by omega))
 refine ⟨(h.ext.grownB hg (fun b e => by have := rO b e; omega)).grownB hg2 (fun b e => by injection e with e; omega), Nat.le_trans h.bas (Nat.le_trans hg.size hg2.size), l1, l3, lb, h.neA, h.neB, ?_,
   hob5.grownR hg2 (mO hob5), ho.grownR hg2 (mO ho), fun p q hp hq' e => ?_, h.mb, by rw [List.map_append, h.mf]; rfl, fun y hy => ((h.okb y hy).grownR hg nB).grownR hg2 mB, fun y hy => ?_,
   (h.rdr.grownR hg (nO _ (by omega)) nA).grownR hg2 (fun e => by injection e with e; omega) mA, (h.lrd.grownR hg (nO _ (by omega)) nB).grownR hg2 (fun e => by injection e with e; omega) mB⟩
 · rw [List.length_append, List.length_singleton]
   exact hF5.set5 _
 · rcases hq q hq' with q1 | q1
   · have := (h.own.block p hp).2
     omega
   · exact h.nef p q hp (q1 ▸ hq') e
 · rcases List.mem_append.1 hy with h1 | h1
   · exact ((h.okf y h1).grownR hg nA).grownR hg2 mA
   · rw [List.mem_singleton.1 h1]
     exact (hx.grownR hg nA).grownR hg2 mA
end
theorem clone_any (A : Option Addr) (n c : Nat) (bs : List Nat) (w : World) (hx : Rd .u8 w A n bs) (hn : n ≤ 180000000000000) :
   Calls Tryz.prog 100 #[.slice A n c] w fun e w' => ∃ A' c', e = .returned (.slice A' n c') ∧ Own .u8 5 w' w.heap.size A' c' bs ∧ Ext w w' := by
 have Hl := Lib.hid hx.len
 cases A with
 | none =>
   have h0 : n = 0 := by
     rcases Nat.eq_zero_or_pos n with h | h
     · exact h
     · obtain ⟨b, o, he, _⟩ := hx.2 h
       cases he
   subst h0
   have hb : bs = [] := List.eq_nil_of_length_eq_zero Hl.out
   subst hb
   have hq := fun w => Lib.run_eql_slice_nil (P := Tryz.prog) w 22 5 none 0 c 0 0 Tryz.underlying22
   go_enter Tryz.func100, Tryz.ntmps100
   go_wp2
   go_ret
   exact ⟨_, _, rfl, Own.nil .., Ext.refl w⟩
 | some a =>
   have hq := fun w => Lib.run_eql_slice_nil (P := Tryz.prog) w 22 5 (some a) n c 0 0 Tryz.underlying22
   have hown := Own.made (base := w.heap.size) .u8 5 w (Nat.le_refl _)
   have hrd := hx.ext ((Ext.refl w).alloc (.cells #[] 5))
   go_enter Tryz.func100, Tryz.ntmps100
   go_wp2_with (at_builtin; refine wpList_pushes (w0 := w) .u8 5 rfl _ _ 22 rfl _ 1 Tryz.underlying22 Tryz.infoU8 rfl hown 0 rfl rfl rfl hrd (by omega) (by omega) ((Ext.refl w).alloc _) (by simp) ?_; intro A1 c1 w1 hown1 hb1 hz1)
   go_ret
   exact ⟨_, _, rfl, by simpa using hown1, hb1⟩
open Go Go.RowKit
section
variable {P : Program} {ops : Array Oper} {Q : Exit → Act → World → Prop} {md : Region.Mode} {S : World → Prop} {late : Nat → Bool}
def wpAnyT (P : Program) (md : Region.Mode) (ops : Array Oper) (Q : Exit → Act → World → Prop) (S : World → Prop) (late : Nat → Bool) : Nat → Array Bool → Act → World → Prop
 | 0, listed, a, w => Region.ready md ops listed = [] ∧ Q .normal a w
 | fuel + 1, listed, a, w =>
   (Region.ready md ops listed = [] → Q .normal a w) ∧
   ∀ i ∈ Region.ready md ops listed, wpOp P ops Q i (fun a' w' => (late i = false → S w') ∧ wpAnyT P md ops Q S late fuel (listed.setIfInBounds i true) a' w') a w
theorem wpAny_of_T : ∀ (fuel : Nat) (listed : Array Bool) (a : Act) (w : World), wpAnyT P md ops Q S late fuel listed a w → wpAny P md ops Q fuel listed a w
 | 0, _, _, _, h => h
 | fuel + 1, _, _, _, h => ⟨h.1, fun i hi => wpOp_mono (fun a' w' h' => wpAny_of_T fuel _ a' w' h'.2) (h.2 i hi)⟩
theorem wp_region_T {id : Nat} {a : Act} {w : World} (hm : P.follows .mixedOrders = true)
   (h : wpAnyT P .any ops Q S late ops.size (Array.replicate ops.size false) a w.drew) : (Code.region id ops true).wp P Q a w :=
 wp_region_any hm (wpAny_of_T _ _ _ _ h)
theorem wpAnyT_done {listed : Array Bool} {a : Act} {w : World} (hr : Region.ready md ops listed = []) (h : Q .normal a w) :
   ∀ fuel, wpAnyT P md ops Q S late fuel listed a w
 | 0 => ⟨hr, h⟩
 | _ + 1 => ⟨fun _ => h, by rw [hr]; simp⟩
theorem wpAnyT_one {i : Nat} {fuel : Nat} {listed : Array Bool} {a : Act} {w : World} (hr : Region.ready md ops listed = [i])
   (h : wpOp P ops Q i (fun a' w' => (late i = false → S w') ∧ wpAnyT P md ops Q S late fuel (listed.setIfInBounds i true) a' w') a w) : wpAnyT P md ops Q S late (fuel + 1) listed a w :=
 ⟨fun h0 => absurd (hr ▸ h0) (by simp), fun j hj => by rw [hr] at hj; rw [List.mem_singleton.1 hj]; exact h⟩
theorem getD_none_false {listed : Array Bool} {i : Nat} (h : listed.getD i true = false) : listed.getD i false = false := by
 rw [Array.getD_eq_getD_getElem?] at h ⊢
 cases hi : listed[i]? with
 | none => rfl
 | some b => rw [hi] at h; exact h
def lateOk (md : Region.Mode) (ops : Array Oper) (late : Nat → Bool) (i : Nat) : Bool :=
 !(late i) && (List.range ops.size).all fun j => !(late j) || (match ops[j]? with
   | some o => o.after.any fun e => Region.binds md e && e.on == i
   | none => true)
theorem lateOk_at {i : Nat} (h : lateOk md ops late i = true) : late i = false ∧ ∀ j o, ops[j]? = some o → late j = true → ∃ e ∈ o.after, Region.binds md e = true ∧ e.on = i := by
 unfold lateOk at h
 rw [Bool.and_eq_true] at h
 refine ⟨by simpa using h.1, fun j o hj hl => ?_⟩
 have hlt : j < ops.size := (Array.getElem?_eq_some_iff.1 hj).1
 have h1 := List.all_eq_true.1 h.2 j (List.mem_range.2 hlt)
 rw [hl, hj] at h1
 simp only [Bool.not_true, Bool.false_or] at h1
 obtain ⟨n, hn, h5⟩ := Array.any_eq_true.1 h1
 rw [Bool.and_eq_true] at h5
 exact ⟨o.after[n], Array.getElem_mem hn, h5.1, by simpa using h5.2⟩
theorem wpAnyT_first {i : Nat} {oi : Oper} {v : Value} (hi : ops[i]? = some oi) (hsel : ∀ (j : Nat) (o : Oper) cs b, ops[j]? = some o → o.op ≠ .select cs b)
   (hQ : ∀ c a w, Q (.panic c) (a.put oi.dst v) w → Q (.panic c) a w) (hlate : lateOk md ops late i = true) :
   ∀ (fuel : Nat) (listed : Array Bool) (a : Act) (w : World),
     (∀ j oj, ops[j]? = some oj → j ≠ i → listed.getD j true = false → (∀ e ∈ oj.after, Region.binds md e = true → e.on ≠ i) → oi.apart ops oj = true) →
     i ∈ Region.ready md ops listed → YieldsIf P ops S oi v a → S w →
     wpAnyT P md ops Q S late fuel (listed.setIfInBounds i true) (a.put oi.dst v) w → wpAnyT P md ops Q S late (fuel + 1) listed a w := by
 obtain ⟨hl0, hl1⟩ := lateOk_at hlate
 intro fuel
 induction fuel with
 | zero =>
   intro listed a w _ hr hy hS H
   refine ⟨fun h => absurd (h ▸ hr) (by simp), fun j hj => ?_⟩
   by_cases hji : j = i
   · subst hji
     exact hy.wpOp hi hS ⟨fun _ => hS, H⟩
   · have := ready_mono hj hji
     rw [H.1] at this
     cases this
 | succ fuel ih =>
   intro listed a w hfree hr hy hS H
   refine ⟨fun h => absurd (h ▸ hr) (by simp), fun j hj => ?_⟩
   by_cases hji : j = i
   · subst hji
     exact hy.wpOp hi hS ⟨fun _ => hS, H⟩
   · have h1 := H.2 j (ready_mono hj hji)
     obtain ⟨hjun, oj, hoj, hall⟩ := mem_ready.1 hj
     have hiu := (mem_ready.1 hr).1
     have hnot : ∀ e ∈ oj.after, Region.binds md e = true → e.on ≠ i := fun e he hb heq => by
       have h2 := hall e he hb
       rw [heq] at h2
       have h3 := getD_none_false hiu
       rw [h3] at h2
       cases h2
     have hlj : late j = false := by
       cases h : late j with
       | false => rfl
       | true =>
         obtain ⟨e, he, hb, hon⟩ := hl1 j oj hoj h
         exact absurd hon (hnot e he hb)
     have h2 := wpOp_putIf hoj (hfree j oj hoj hji hjun hnot) (fun cs b => hsel i oi cs b hi) (fun cs b => hsel j oj cs b hoj) hQ hy h1
     refine wpOp_mono (fun a' w' h3 => ⟨h3.2.1, ih (listed.setIfInBounds j true) a' w' (fun k ok hk hki hun hno => ?_) (ready_mono hr (Ne.symm hji)) h3.1 (h3.2.1 hlj) ?_⟩) h2
     · refine hfree k ok hk hki ?_ hno
       by_cases hjk : j = k
       · subst hjk
         exact hjun
       · rw [getD_set_ne true hjk] at hun
         exact hun
     · rw [Array.setIfInBounds_comm _ _ hji]
       exact h3.2.2
theorem wpAnyT_take {i : Nat} {oi : Oper} {v : Value} {fuel : Nat} {listed : Array Bool} {a : Act} {w : World} (hi : ops[i]? = some oi)
   (hs : Region.noSelect ops = true) (hf : Region.free md ops listed i = true) (hr : (Region.ready md ops listed).contains i = true) (hl : lateOk md ops late i = true)
   (hQ : ∀ c a w, Q (.panic c) (a.put oi.dst v) w → Q (.panic c) a w) (hy : YieldsIf P ops S oi v a) (hS : S w)
   (h : wpAnyT P md ops Q S late fuel (listed.setIfInBounds i true) (a.put oi.dst v) w) : wpAnyT P md ops Q S late (fuel + 1) listed a w :=
 wpAnyT_first hi (Region.noSelect_spec hs) hQ hl fuel listed a w (Region.free_spec hi hf) (by simpa using hr) hy hS h
theorem wpAnyT_step {i : Nat} {oi : Oper} {fuel : Nat} {listed : Array Bool} {a : Act} {w : World} (hr : Region.ready md ops listed = [i]) (hi : ops[i]? = some oi) (hg : oi.guard = none)
   (h : Oper.wp P oi a w (fun a' w' => (late i = false → S w') ∧ wpAnyT P md ops Q S late fuel (listed.setIfInBounds i true) a' w') Q) : wpAnyT P md ops Q S late (fuel + 1) listed a w := by
 refine wpAnyT_one hr ?_
 unfold wpOp
 simp only [hi]
 rw [if_pos (by simp [Region.wanted, hg])]
 exact .inl h
end
end Go.Proofs.YthibbgmicmfkfaaGreat
