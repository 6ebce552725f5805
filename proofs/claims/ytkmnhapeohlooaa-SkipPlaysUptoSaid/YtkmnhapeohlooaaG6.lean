import Derived.Test.YtkmnhapeohlooaaG5
import Derived.OrdersIn
import Derived.RangeFuncCalls
import Derived.RangeFuncNested
import Derived.RangeFuncBound
import Derived.RangeFuncLeaves
import Derived.Shelf.Abstract
import Derived.Shelf.RegionOpen
import Derived.WalkKit
import Derived.OwnWalkIn
import Derived.TacticsInMore
import Derived.LoopNIn
import Derived.LoopIn

/-
  Layer 18: a list as keys in order with their values; Put.
-/
namespace Go.Proofs.Ytkmnhapeohlooaa
open Go.RowKit
set_option maxRecDepth 100000

/-- The greatest of the first k heights that are taken, again and again from the first on. -/
def Hm (hs : List Int) : Nat → Nat
  | 0 => 0
  | k + 1 => max (Hm hs k) (hs.getD (k % hs.length) 0).toNat

/-- The list at sb holds the keys L with the values V. -/
def LS (w : World) (X : Nat → Prop) (base sb : Nat) (hs : List Int) (L : List (List Nat)) (V : List Int) : Prop :=
  ∃ ns, SL w X base sb ns hs (Hm hs L.length) ∧ Rep ns.length (kb ns) (vl ns) L V

def putV (L : List (List Nat)) (V : List Int) (t : List Nat) (v : Int) : List Int := if L[skN t L]? = some t then V.set (skN t L) v else V.take (skN t L) ++ v :: V.drop (skN t L)

/-- The blocks of a list behind a call that makes blocks of its own. -/
abbrev XN (X : Nat → Prop) (w w' : World) : Nat → Prop := fun q => X q ∨ (w.heap.size ≤ q ∧ q < w'.heap.size)

theorem SL.wide {w : World} {X Y : Nat → Prop} {base sb H : Nat} {ns : List Nd} {hs : List Int} (h : SL w X base sb ns hs H) (hXY : ∀ q, X q → Y q) (hY : ∀ q, Y q → base ≤ q ∧ q < w.heap.size) : SL w Y base sb ns hs H := by
  obtain ⟨An, cn, Ah, ch, h1, h2, h3, h4, h5⟩ := h.ex
  exact ⟨⟨An, cn, Ah, ch, h1, h2, h3, fun a ha => hXY _ (h4 a ha), fun a ha => hXY _ (h5 a ha)⟩, hXY _ h.sbX, hY, fun i i1 i2 => (h.keys i i1 i2).wide hXY, h.sk, h.hok⟩
theorem SL.base_le {w : World} {X : Nat → Prop} {base sb H : Nat} {ns : List Nd} {hs : List Int} (h : SL w X base sb ns hs H) : base ≤ w.heap.size := by
  have := h.bd sb h.sbX; omega

/-- A node's value set anew. -/
theorem SL.setV {w : World} {X : Nat → Prop} {base sb H b cn : Nat} {ns : List Nd} {hs : List Int} {Ah : Option Addr} {ch : Nat} (h : SL w X base sb ns hs H) (hsb : w.heap[sb]? = some (.cells #[.slice (some ⟨b, 0, none⟩) ns.length cn, .slice Ah hs.length ch, .int .i64 (H : Int)] 95 (0, 0))) (hrow : OwnG shN 110 w base (some ⟨b, 0, none⟩) cn ns) (hhs : OwnG shZ 3 w base Ah ch hs) (hXb : X b) (hXh : ∀ a, Ah = some a → X a.block) (hbs : b ≠ sb) {j : Nat} (hj : j < ns.length) (v : Int) :
    SL (w.setCell ⟨b, j * 14 + 1, none⟩ (.int .i64 v)) X base sb (ns.set j { nat_ ns j with v := v }) hs H := by
  obtain ⟨b', x, hA, _, _, hx, hc, hfr, hst⟩ := hrow.at_ hj
  injection hA with hA
  injection hA with hA
  subst hA
  rw [nat_at hj] at hx
  injection hx with hx
  subst hx
  obtain ⟨row', hgw⟩ := hst 1 { nat_ ns j with v := v } (.int .i64 v) (by show 1 < 14; omega) rfl
  rw [show shN.sz = 14 from rfl] at row' hgw
  obtain ⟨curb, hb2⟩ : ∃ cur, w.heap[b]? = some (.cells cur 110 (0, 0)) := by
    rcases hrow.2 with ⟨hv, _⟩ | ⟨q, cap, cur, hv, _, hh, _⟩
    · cases hv
    · injection hv with hA _ _
      injection hA with hA
      injection hA with hA
      subst hA
      exact ⟨cur, hh⟩
  have hq : ∀ q, q < w.heap.size → q ≠ b → (w.setCell ⟨b, j * 14 + 1, none⟩ (.int .i64 v)).heap[q]? = w.heap[q]? := fun q h1 h2 => Below.heap_setCell w _ _ q h2
  have hkey : ∀ i, (nat_ (ns.set j { nat_ ns j with v := v }) i).key = (nat_ ns i).key ∧ (nat_ (ns.set j { nat_ ns j with v := v }) i).h = (nat_ ns i).h ∧ (nat_ (ns.set j { nat_ ns j with v := v }) i).nx = (nat_ ns i).nx := fun i => by
    by_cases e : i = j
    · subst e; rw [nat_set_eq hj]; exact ⟨rfl, rfl, rfl⟩
    · rw [nat_set_ne e]; exact ⟨rfl, rfl, rfl⟩
  have ekb : kb (ns.set j { nat_ ns j with v := v }) = kb ns := by funext i; unfold kb; rw [(hkey i).1]
  have ehg : hg (ns.set j { nat_ ns j with v := v }) = hg ns := by funext i; unfold hg; rw [(hkey i).2.1]
  have enx : nxt (ns.set j { nat_ ns j with v := v }) = nxt ns := by funext i l; unfold nxt; rw [(hkey i).2.2]
  refine ⟨⟨_, cn, Ah, ch, ?_, row', ?_, fun a ha => by injection ha with ha; rw [← ha]; exact hXb, hXh⟩, h.sbX, fun q hx => ⟨(h.bd q hx).1, Nat.lt_of_lt_of_le (h.bd q hx).2 hgw.size⟩, fun i i1 i2 => ?_, ?_, h.hok⟩
  · rw [List.length_set, hq sb (h.bd sb h.sbX).2 (fun e => hbs e.symm)]; exact hsb
  · exact hhs.blk (fun p hp => hq _ (h.bd _ (hXh p hp)).2 (own_ty hhs hb2 (by decide) p hp))
  · rw [List.length_set] at i2
    rw [(hkey i).1]
    have hk := h.keys i i1 i2
    have hblk : ∀ p, (nat_ ns i).key.A = some p → (w.setCell ⟨b, j * 14 + 1, none⟩ (.int .i64 v)).heap[p.block]? = w.heap[p.block]? := fun p hp => by
      obtain ⟨cur, fr, hc⟩ := hk.ty p hp
      refine hq _ (h.bd _ (hk.blk p hp)).2 (fun e => ?_)
      rw [e, hb2] at hc
      injection hc with hc
      injection hc with _ hc
      exact absurd hc (by decide)
    exact ⟨hk.rd.blk hblk hgw.size, hk.u8, hk.len, hk.cap, hk.blk, fun p hp => by obtain ⟨cur, fr, hc⟩ := hk.ty p hp; exact ⟨cur, fr, (hblk p hp).trans hc⟩⟩
  · rw [List.length_set, ekb, ehg, enx]; exact h.sk

section
variable {w : World} {X : Nat → Prop} {base sb : Nat} {hs : List Int} {L : List (List Nat)} {V : List Int}

theorem LS.ext {w' : World} (h : LS w X base sb hs L V) (he : Ext w w') : LS w' X base sb hs L V := by
  obtain ⟨ns, h1, h2⟩ := h
  exact ⟨ns, h1.ext he, h2⟩
theorem LS.vlen (h : LS w X base sb hs L V) : V.length = L.length ∧ Asc L := by
  obtain ⟨ns, _, h2⟩ := h
  exact ⟨h2.vlen, h2.asc⟩

set_option maxHeartbeats 3200000 in
theorem sput_any (h : LS w X base sb hs L V) (hb : L.length < 1099511627776) (A : Option Addr) (m c : Nat) (t : List Nat) (v : Int) (ht : Rd .u8 w A m t) (hu : U8 t) (hm : m ≤ 140737488355328) :
    Calls Try.prog 41 #[.pointer (some ⟨sb, 0, none⟩), .slice A m c, .int .i64 v] w fun e w' => e = .returned (.bool (decide (¬ L[skN t L]? = some t))) ∧ LS w' (XN X w w') base sb hs (insL L t) (putV L V t v) ∧ FrX X w w' := by
  obtain ⟨ns, hS, hR⟩ := h
  obtain ⟨D, hDD⟩ : ∃ D, D = decide (¬ L[skN t L]? = some t) := ⟨_, rfl⟩
  rw [← hDD]
  have HDD := Lib.hid hDD
  clear hDD
  have hnl := hR.len
  have hnb : ns.length ≤ 1099511627776 := by omega
  have CA := Lib.hid (sahead_any hS (by omega) A m c t ht hu)
  have CB := Lib.hid (fun W (hW : Ext w W) a ha => sbehind_any (hS.ext hW) (by omega) a ha)
  have CH := Lib.hid (fun W (hW : Ext w W) i hi => shas_any (hS.ext hW) (by omega) i hi A m c t (ht.ext hW) hu)
  have CI := Lib.hid (fun W (hW : Ext w W) a ha hn => sinsert_any (hS.ext hW) hnb A m c t v (ht.ext hW) hu hm a ha hn)
  have HS := Lib.hid hS
  have HR := Lib.hid hR
  have hbl := hS.base_le
  have Hsk := Lib.hid hS.sk
  clear hS hR ht hu
  go_enter Try.func41, Try.ntmps41
  go_wp2_with fail
  refine CA.out.mono ?_
  rintro e w1 ⟨⟨a, rfl, hA⟩, he1⟩
  have hE2 : Ext w ((w1.alloc (.cells z12 105)).setRow w1.heap.size (twr a).toArray) := (he1.alloc _).setRow he1.size _
  have hB2 : ((w1.alloc (.cells z12 105)).setRow w1.heap.size (twr a).toArray).heap[w1.heap.size]? = some (.cells (twr a).toArray 105 (0, 0)) := setRow_heap _ w1.heap.size _ _ 105 (0, 0) (heap_alloc_new w1 (.cells z12 105))
  have HB2 := Lib.hid hB2
  have HE2 := Lib.hid hE2
  have hA0 := hA 0 (by omega)
  have C2 := Lib.hid (CB.out _ hE2 a hA0.lt)
  have HA := Lib.hid hA
  have hF := fst_of Hsk.out hA0
  obtain ⟨j, hj⟩ : ∃ j, j = nxt ns (a 0) 0 := ⟨_, rfl⟩
  rw [← hj] at hF C2
  have hpos := fst_pos HR.out hF
  have hjl := hF.lt
  have Hpos := Lib.hid hpos
  clear hB2 hE2 hA hA0 hF hj hpos
  go_wp2_with (first
    | (refine wpList_store_row rfl 105 _ _ rfl w1.heap.size (twr a).toArray rfl rfl 105 z12 (heap_alloc_new w1 _) (by rw [twr_size]; kernel_rfl) (by rw [twr_size]; rfl) (twr_one a) ?_)
    | (refine wpList_load_row rfl 105 _ rfl w1.heap.size rfl 105 (twr a).toArray (0, 0) _ HB2.out Try.underlying105 rfl (by rw [twr_size]; kernel_rfl) ?_)
    | fail)
  refine C2.out.mono ?_
  rintro e w3 ⟨rfl, he3⟩
  have hE3 := HE2.out.trans he3
  have hB3 := (he3.block _ (Array.getElem?_eq_some_iff.1 HB2.out).1).trans HB2.out
  have HB3 := Lib.hid hB3
  have C3 := CH.out _ hE3 j hjl
  have HE3 := Lib.hid hE3
  have hiff := pos_has Hpos.out
  by_cases q : L[skN t L]? = some t
  · have hq := hiff.2 q
    have e1 : (decide (j ≠ 0) && decide (kb ns j = t)) = true := by rw [decide_eq_true hq.1, decide_eq_true hq.2]; rfl
    rw [e1] at C3
    have C3 := Lib.hid C3
    obtain ⟨b, cn, Ah, ch, hSee, hsb, hrow, hhs, hXb, hXh, hbs⟩ := (HS.out.ext hE3).see2
    have c0 := hSee.c0
    obtain ⟨cap1, cap2⟩ := hSee.cap
    have v0 := hSee.val j hjl
    have fr0 := hSee.fr.1 (j * 14 + 1)
    have hset := (HS.out.ext hE3).setV hsb hrow hhs hXb hXh hbs hjl v
    have hfr := FrX.trans (hE3.frX X) (grownBy_frX (X := X) (grown_setCellS w3 b (j * 14 + 1) (.int .i64 v)) (.inl hXb))
    have hrep := rep_set HR.out Hsk.out (v := v) (U' := vl (ns.set j { nat_ ns j with v := v })) Hpos.out hq.1 (by unfold vl; rw [nat_set_eq hjl]) (fun i hi => by unfold vl; rw [nat_set_ne hi])
    have hD : decide (¬ L[skN t L]? = some t) = false := decide_eq_false (fun h => h q)
    have hfin : LS (w3.setCell ⟨b, j * 14 + 1, none⟩ (.int .i64 v)) (XN X w (w3.setCell ⟨b, j * 14 + 1, none⟩ (.int .i64 v))) base sb hs (insL L t) (putV L V t v) := by
      rw [insL_yes q]
      unfold putV
      rw [if_pos q]
      refine ⟨ns.set j { nat_ ns j with v := v }, hset.wide (fun p hp => .inl hp) (fun p hp => ?_), ?_⟩
      · rcases hp with hp | hp
        · exact hset.bd p hp
        · exact ⟨by omega, hp.2⟩
      · rw [List.length_set]
        have ekb : kb (ns.set j { nat_ ns j with v := v }) = kb ns := by
          funext i
          unfold kb
          by_cases e : i = j
          · subst e; rw [nat_set_eq hjl]
          · rw [nat_set_ne e]
        rw [ekb]
        exact hrep
    have Hfin := Lib.hid hfin
    have Hfr := Lib.hid hfr
    obtain ⟨n, hn⟩ : ∃ n, n = ns.length := ⟨_, rfl⟩
    rw [← hn] at c0 hjl cap1
    obtain ⟨vv, hvv⟩ : ∃ vv, vv = vl ns j := ⟨_, rfl⟩
    rw [← hvv] at v0
    have HD := Lib.hid (HDD.out.trans hD)
    clear hSee hsb hrow hhs hset hfr hrep hD hfin hn hvv e1 q hq hiff hE3 hB3 he3
    go_wp2_with fail
    refine C3.out.mono ?_
    rintro e w4 ⟨rfl, rfl⟩
    go_wp2_with fail
    go_ret
    exact ⟨by rw [HD.out]; rfl, Hfin.out, Hfr.out⟩
  · have e1 : (decide (j ≠ 0) && decide (kb ns j = t)) = false := by
      rw [Bool.and_eq_false_iff]
      by_cases j0 : j ≠ 0
      · exact .inr (decide_eq_false (fun e => q (hiff.1 ⟨j0, e⟩)))
      · exact .inl (decide_eq_false j0)
    rw [e1] at C3
    have C3 := Lib.hid C3
    have hnew : ∀ i, 1 ≤ i → i < ns.length → kb ns i ≠ t := fun i i1 i2 e => skN_notMem q HR.out.asc ((rep_mem HR.out).1 ⟨i, i1, i2, e⟩)
    have C4 := Lib.hid (CI.out _ hE3 a HA.out hnew)
    have hD : decide (¬ L[skN t L]? = some t) = true := decide_eq_true q
    have HD := Lib.hid (HDD.out.trans hD)
    have Hq := Lib.hid q
    clear e1 q hiff hE3 hB3 he3 hnew hD
    go_wp2_with fail
    refine C3.out.mono ?_
    rintro e w4 ⟨rfl, rfl⟩
    go_wp2_with (first
      | (refine wpList_load_row rfl 105 _ rfl w1.heap.size rfl 105 (twr a).toArray (0, 0) _ HB3.out Try.underlying105 rfl (by rw [twr_size]; kernel_rfl) ?_)
      | fail)
    refine C4.out.mono ?_
    rintro e w5 ⟨rfl, ns', hS5, hP5, hF5⟩
    go_wp2_with fail
    go_ret
    refine ⟨by rw [HD.out]; rfl, ⟨ns', ?_, ?_⟩, (HE3.out.frX X).trans hF5⟩
    · have hl : (insL L t).length = L.length + 1 := by
        have := skN_le t L
        rw [insL_no Hq.out]
        simp
        omega
      rw [hl]
      show SL w5 _ base sb ns' hs (max (Hm hs L.length) (hs.getD (L.length % hs.length) 0).toNat)
      have e2 : ns.length - 1 = L.length := by omega
      rw [e2] at hS5
      exact hS5.wide (fun p hp => by
        rcases hp with hp | hp
        · exact .inl hp
        · exact .inr ⟨Nat.le_trans HE3.out.size hp.1, hp.2⟩) (fun p hp => by
        rcases hp with hp | hp
        · exact hS5.bd p (.inl hp)
        · exact ⟨by omega, hp.2⟩)
    · rw [hP5.len, insL_no Hq.out]
      unfold putV
      rw [if_neg Hq.out]
      exact rep_put HR.out Hq.out hP5.kn hP5.ko hP5.vn hP5.vo
end

end Go.Proofs.Ytkmnhapeohlooaa

/-
  Layer 18: New; what a list tells.
-/
namespace Go.Proofs.Ytkmnhapeohlooaa
open Go.RowKit
set_option maxRecDepth 100000

theorem Try.infoInt18 : (Try.prog.info? 3).map (fun i => (i.zero, i.size, i.bytes)) = some (some (.int .i64 0), 1, 8) := by kernel_rfl

section
variable {w : World} {X : Nat → Prop} {base sb : Nat} {hs : List Int} {L : List (List Nat)} {V : List Int} (h : LS w X base sb hs L V)
include h
theorem lslen_any (hb : L.length < 1099511627776) : Calls Try.prog 34 #[.pointer (some ⟨sb, 0, none⟩)] w fun e w' => e = .returned (.int .i64 (L.length : Int)) ∧ w = w' := by
  obtain ⟨ns, hS, hR⟩ := h
  have := hR.len
  refine (slen_any hS (by omega)).mono ?_
  rintro e w' ⟨rfl, rfl⟩
  exact ⟨by rw [show ((ns.length : Int) - 1) = (L.length : Int) by omega], rfl⟩
theorem lsheight_any : Calls Try.prog 35 #[.pointer (some ⟨sb, 0, none⟩)] w fun e w' => e = .returned (.int .i64 (Hm hs L.length : Int)) ∧ w = w' := by
  obtain ⟨ns, hS, hR⟩ := h
  exact sheight_any hS
theorem lsget_any (hb : L.length < 1099511627776) (A : Option Addr) (m c : Nat) (t : List Nat) (ht : Rd .u8 w A m t) (hu : U8 t) :
    Calls Try.prog 44 #[.pointer (some ⟨sb, 0, none⟩), .slice A m c] w fun e w' => e = .returned (.tuple #[.int .i64 (if L[skN t L]? = some t then V.getD (skN t L) 0 else 0), .bool (decide (L[skN t L]? = some t))]) ∧ Ext w w' := by
  obtain ⟨ns, hS, hR⟩ := h
  have := hR.len
  refine (sget_any hS (by omega) A m c t ht hu).mono ?_
  rintro e w' ⟨⟨j, hF, rfl⟩, he⟩
  have hp := fst_pos hR hF
  have hi := pos_has hp
  refine ⟨?_, he⟩
  by_cases q : L[skN t L]? = some t
  · have hq := hi.2 q
    rw [if_pos q, decide_eq_true q, if_pos hq, decide_eq_true hq]
    rcases hp with ⟨e0, _⟩ | ⟨_, _, _, h4⟩
    · exact absurd e0 hq.1
    · rw [List.getD, h4]; rfl
  · have hq : ¬ (j ≠ 0 ∧ kb ns j = t) := fun h => q (hi.1 h)
    rw [if_neg q, decide_eq_false q, if_neg hq, decide_eq_false hq]
theorem lsseek_any (hb : L.length < 1099511627776) (A : Option Addr) (m c : Nat) (t : List Nat) (ht : Rd .u8 w A m t) (hu : U8 t) :
    Calls Try.prog 42 #[.pointer (some ⟨sb, 0, none⟩), .slice A m c] w fun e w' => ((skN t L = L.length ∧ e = .returned (.tuple #[.slice none 0 0, .int .i64 0, .bool false])) ∨
      (∃ x A' c', L[skN t L]? = some x ∧ e = .returned (.tuple #[.slice A' x.length c', .int .i64 (V.getD (skN t L) 0), .bool true]) ∧ Own .u8 5 w' w.heap.size A' c' x)) ∧ Ext w w' := by
  obtain ⟨ns, hS, hR⟩ := h
  have := hR.len
  refine (sseek_any hS (by omega) A m c t ht hu).mono ?_
  rintro e w' ⟨⟨j, hF, hr⟩, he⟩
  refine ⟨?_, he⟩
  have hp := fst_pos hR hF
  rcases hr with ⟨j0, rfl⟩ | ⟨j0, A', c', rfl, ho⟩
  · rcases hp with ⟨_, e2⟩ | ⟨e1, _⟩
    · exact .inl ⟨e2, rfl⟩
    · exact absurd j0 e1
  · rcases hp with ⟨e1, _⟩ | ⟨_, _, h3, h4⟩
    · exact absurd e1 j0
    · exact .inr ⟨_, A', c', h3, by rw [List.getD, h4]; rfl, ho⟩
end

def clampH (x : Int) : Int := min (max x 1) 12
def hts (xs : List Int) : List Int := if xs.length = 0 then [1] else xs.map clampH

theorem clamp_ok (x : Int) : 1 ≤ clampH x ∧ clampH x ≤ 12 := by unfold clampH; omega

abbrev z14 : Array Value := #[.slice none 0 0, .int .i64 0, .int .i64 0, .int .i64 0, .int .i64 0, .int .i64 0, .int .i64 0, .int .i64 0, .int .i64 0, .int .i64 0, .int .i64 0, .int .i64 0, .int .i64 0, .int .i64 0]
theorem z14_nd : z14 = (shN.cells nd0).toArray := rfl
theorem run_mkN (w : World) : (Instr.makeSlice 93 (.int .i64 1) (.int .i64 1)).run Try.prog w = .ok (.slice (some ⟨w.heap.size, 0, none⟩) 1 1) (w.alloc (.cells z14 110)) := by
  obtain ⟨i, hi0, hz, hsz, hbs⟩ := info_parts Try.infoNd
  have := run_make (P := Try.prog) w 93 110 i _ Try.underlying93 hi0 hz .i64 .i64 1 1 (by decide) (by decide) (by rw [hbs]; decide) (by decide)
  rw [hsz] at this
  rw [this]
  congr 2
  kernel_rfl

theorem new_end {w W : World} {Ah : Option Addr} {ch : Nat} {hs : List Int} (_he : Ext w W) (hsb : W.heap[w.heap.size + 1]? = some (.cells #[.slice (some ⟨w.heap.size, 0, none⟩) 1 1, .slice Ah hs.length ch, .int .i64 0] 95 (0, 0)))
    (hnd : W.heap[w.heap.size]? = some (.cells z14 110 (0, 0))) (hhs : OwnG shZ 3 W w.heap.size Ah ch hs) (hok : 0 < hs.length ∧ ∀ x ∈ hs, 1 ≤ x ∧ x ≤ 12) :
    LS W (fun q => w.heap.size ≤ q ∧ q < W.heap.size) w.heap.size (w.heap.size + 1) hs [] [] := by
  have h1 := (Array.getElem?_eq_some_iff.1 hsb).1
  have h2 := (Array.getElem?_eq_some_iff.1 hnd).1
  refine ⟨[nd0], ⟨⟨some ⟨w.heap.size, 0, none⟩, 1, Ah, ch, hsb, ?_, hhs, fun a ha => by injection ha with ha; rw [← ha]; exact ⟨Nat.le_refl _, h2⟩, fun a ha => hhs.block a ha⟩, ⟨Nat.le_succ _, h1⟩, fun q hq => hq, fun i i1 i2 => by simp at i2; omega, ?_, hok⟩, rep_new _ _⟩
  · refine ⟨rfl, .inr ⟨w.heap.size, 1, z14, rfl, Nat.le_refl _, hnd, Nat.le_refl _, by decide, rfl, rfl⟩⟩
  · exact sk_new _ _ _ (fun l => rfl)

set_option maxHeartbeats 1600000 in
theorem snew_any (A : Option Addr) (n c : Nat) (xs : List Int) (w : World) (hx : RdG shZ w A n xs) (hn : n ≤ 17592186044416) :
    Calls Try.prog 31 #[.slice A n c] w fun e w' => ∃ sb, e = .returned (.pointer (some ⟨sb, 0, none⟩)) ∧ LS w' (fun q => w.heap.size ≤ q ∧ q < w'.heap.size) w.heap.size sb (hts xs) [] [] ∧ Ext w w' := by
  have hl := hx.len
  have hmk := run_mkN
  have hE0 : Ext w ((w.alloc (.cells z14 110)).alloc (.cells #[.slice (some ⟨w.heap.size, 0, none⟩) 1 1, .slice none 0 0, .int .i64 0] 95)) := ((Ext.refl w).alloc _).alloc _
  have hs0 : ((w.alloc (.cells z14 110)).alloc (.cells #[.slice (some ⟨w.heap.size, 0, none⟩) 1 1, .slice none 0 0, .int .i64 0] 95)).heap[w.heap.size + 1]? = some (.cells #[.slice (some ⟨w.heap.size, 0, none⟩) 1 1, .slice none 0 0, .int .i64 0] 95 (0, 0)) := by
    have := heap_alloc_new (w.alloc (.cells z14 110)) (.cells #[.slice (some ⟨w.heap.size, 0, none⟩) 1 1, .slice none 0 0, .int .i64 0] 95)
    simpa using this
  have hn0 : ((w.alloc (.cells z14 110)).alloc (.cells #[.slice (some ⟨w.heap.size, 0, none⟩) 1 1, .slice none 0 0, .int .i64 0] 95)).heap[w.heap.size]? = some (.cells z14 110 (0, 0)) := (Below.heap_alloc _ _ _ (by simp)).trans (heap_alloc_new w _)
  go_enter Try.func31, Try.ntmps31
  go_wp2_with fail
  clear hmk
  go_loopw [11] (fun i wr => ∃ (j : Nat) (Ah : Option Addr) (ch : Nat), j ≤ n ∧ i = .int .i64 (j : Int) ∧ Hid (wr.heap[w.heap.size + 1]? = some (.cells #[.slice (some ⟨w.heap.size, 0, none⟩) 1 1, .slice Ah j ch, .int .i64 0] 95 (0, 0))) ∧ Hid (wr.heap[w.heap.size]? = some (.cells z14 110 (0, 0))) ∧ Hid (OwnG shZ 3 wr w.heap.size Ah ch ((xs.take j).map clampH)) ∧ Ext w wr) (fun i _ => n - (intOf i).toNat)
  case atStart => exact ⟨0, none, 0, Nat.zero_le _, rfl, Lib.hid hs0, Lib.hid hn0, Lib.hid (OwnG.nil _ _ _ _), hE0⟩
  case round =>
    clear hs0 hn0 hE0
    obtain ⟨j, Ah, ch, hj, rfl, Hs, Hn, Ho, hE⟩ := hrel
    have HE := Lib.hid hE
    have hsl := (Array.getElem?_eq_some_iff.1 Hs.out).1
    by_cases hlt : j < n
    · obtain ⟨b, o, rfl, hbl, hc⟩ := (hx.ext hE).atZ hlt
      obtain ⟨x, hxx⟩ : ∃ x, x = xs.getD j 0 := ⟨_, rfl⟩
      rw [← hxx] at hc
      have htk := take_nextG xs j (x := x) (by rw [hxx, List.getD, List.getElem?_eq_getElem (by omega)]; rfl)
      have Htk := Lib.hid htk
      have Hlen : Hid (((xs.take j).map clampH).length = j) := Lib.hid (by rw [List.length_map, List.length_take]; omega)
      have c1 : wr.cell? ⟨w.heap.size + 1, 1, none⟩ = some (.slice Ah j ch) := by rw [cell_of_row wr (w.heap.size + 1) 1 _ _ (0, 0) Hs.out]; rfl
      have HwB : Hid (∀ w7 : World, wr.grownBy w7 (Value.slice Ah j ch).ownBlock → (w7.heap[w.heap.size + 1]? = some (.cells #[.slice (some ⟨w.heap.size, 0, none⟩) 1 1, .slice Ah j ch, .int .i64 0] 95 (0, 0))) ∧ w7.heap[w.heap.size]? = some (.cells z14 110 (0, 0))) := Lib.hid fun w7 hg7 => by
        have n1 : some (w.heap.size + 1) ≠ (Value.slice Ah j ch).ownBlock := fun e => by
          cases Ah with
          | none => simp [Value.ownBlock] at e
          | some p => exact own_ty Ho.out Hs.out (by decide) p rfl (by simp only [Value.ownBlock] at e; injection e with e; exact e.symm)
        have n2 : some w.heap.size ≠ (Value.slice Ah j ch).ownBlock := fun e => by
          cases Ah with
          | none => simp [Value.ownBlock] at e
          | some p => exact own_ty Ho.out Hn.out (by decide) p rfl (by simp only [Value.ownBlock] at e; injection e with e; exact e.symm)
        exact ⟨(hg7.block _ hsl n1).trans Hs.out, (hg7.block _ (by omega) n2).trans Hn.out⟩
      have Hal : Hid (∀ w7 : World, (wr.alloc (.cells #[.int .i64 (clampH x)] 3)).grownBy w7 (Value.slice Ah j ch).ownBlock → wr.grownBy w7 (Value.slice Ah j ch).ownBlock) := Lib.hid fun w7 hg7 => (World.grownBy_alloc wr _ _).trans hg7
      have hxc : min (max x 1) 12 = clampH x := rfl
      have Hlo := Lib.hid hl
      have Hxx := Lib.hid hxx
      have Hbound : Hid (((j + 1) + (j + 1) / 4 + 192) * 8 ≤ 281474976710656) := Lib.hid (by omega)
      have Hsz := Lib.hid hE.size
      clear htk hl hsl hE hxx hbl
      go_wp2_with (at_builtin; (try rw [hxc]); refine wpList_pushG (w0 := _) (base := w.heap.size) shZ (clampH x) 3 rfl _ _ 45 rfl _ 8 Try.underlying45 Try.infoInt18 rfl (by decide) (Ho.out.ext ((Ext.refl _).alloc _)) j Hlen.out rfl rfl (heap_alloc_new _ _) Hbound.out (by omega) (Below.alloc HE.out Hsz.out _) (by simp; have := Hsz.out; omega) ?_; intro A7 c7 w7 hown7 hg7 hb7 hz7; obtain ⟨s7, n7⟩ := HwB.out w7 (Hal.out w7 hg7); have c17 : w7.cell? ⟨w.heap.size + 1, 1, none⟩ = some (.slice Ah j ch) := (by rw [cell_of_row w7 (w.heap.size + 1) 1 _ _ (0, 0) s7]; rfl); have f17 : w7.frozen? ⟨w.heap.size + 1, 1, none⟩ = false := (by simp [World.frozen?, s7]))
      have s8 := heap_setCell_same w7 (w.heap.size + 1) 1 _ _ (.slice A7 (j + 1) c7) s7
      have n8 := (Below.heap_setCell w7 ⟨w.heap.size + 1, 1, none⟩ (.slice A7 (j + 1) c7) w.heap.size (by simp)).trans n7
      have o8 := hown7.grown (grown_setCellS w7 (w.heap.size + 1) 1 (.slice A7 (j + 1) c7)) (fun p hp e => own_ty hown7 s7 (by decide) p hp (by injection e))
      have e8 : Ext w (w7.setCell ⟨w.heap.size + 1, 1, none⟩ (.slice A7 (j + 1) c7)) := Ext.setCell hb7 (by simp) _
      go_roundw
      case rel => exact ⟨j + 1, A7, c7, by omega, by go_num, Lib.hid s8, Lib.hid n8, Lib.hid (by rw [Htk.out, List.map_append]; exact o8), e8⟩
      case measure => simp [intOf]; omega
    · obtain rfl : j = n := by omega
      have htl : xs.take j = xs := List.take_of_length_le (by omega)
      rw [htl] at Ho
      have c1 : wr.cell? ⟨w.heap.size + 1, 1, none⟩ = some (.slice Ah j ch) := by rw [cell_of_row wr (w.heap.size + 1) 1 _ _ (0, 0) Hs.out]; rfl
      by_cases n0 : j = 0
      · have hx0 : xs = [] := List.eq_nil_of_length_eq_zero (by omega)
        subst hx0 n0
        have HA1 : Hid (Ext w ((wr.setCell ⟨w.heap.size + 1, 1, none⟩ (.slice (some ⟨wr.heap.size, 0, none⟩) 1 1)).alloc (.cells #[.int .i64 1] 3))) := Lib.hid ((hE.setCell (by simp) _).alloc _)
        have hsz8 : (wr.setCell ⟨w.heap.size + 1, 1, none⟩ (.slice (some ⟨wr.heap.size, 0, none⟩) 1 1)).heap.size = wr.heap.size := by simp [World.setCell]
        have s8 := (Below.heap_alloc (wr.setCell ⟨w.heap.size + 1, 1, none⟩ (.slice (some ⟨wr.heap.size, 0, none⟩) 1 1)) (.cells #[.int .i64 1] 3) (w.heap.size + 1) (by omega)).trans (heap_setCell_same wr (w.heap.size + 1) 1 _ _ (.slice (some ⟨wr.heap.size, 0, none⟩) 1 1) Hs.out)
        have n8 := ((Below.heap_alloc (wr.setCell ⟨w.heap.size + 1, 1, none⟩ (.slice (some ⟨wr.heap.size, 0, none⟩) 1 1)) (.cells #[.int .i64 1] 3) w.heap.size (by omega)).trans (Below.heap_setCell wr _ _ w.heap.size (by simp))).trans Hn.out
        have hnw := heap_alloc_new (wr.setCell ⟨w.heap.size + 1, 1, none⟩ (.slice (some ⟨wr.heap.size, 0, none⟩) 1 1)) (.cells #[.int .i64 1] 3)
        rw [hsz8] at hnw
        have o8 : OwnG shZ 3 ((wr.setCell ⟨w.heap.size + 1, 1, none⟩ (.slice (some ⟨wr.heap.size, 0, none⟩) 1 1)).alloc (.cells #[.int .i64 1] 3)) w.heap.size (some ⟨wr.heap.size, 0, none⟩) 1 [1] := ⟨rfl, .inr ⟨wr.heap.size, 1, #[.int .i64 1], rfl, hE.size, hnw, Nat.le_refl _, by decide, rfl, rfl⟩⟩
        have f1 : wr.frozen? ⟨w.heap.size + 1, 1, none⟩ = false := by simp [World.frozen?, Hs.out]
        have HF := Lib.hid (new_end (hs := [1]) HA1.out s8 n8 o8 ⟨by decide, by intro x hx; simp at hx; omega⟩)
        clear s8 n8 o8 hE hx hl htl hsz8 hnw
        go_wp2_with fail
        go_ret
        exact ⟨_, rfl, HF.out, HA1.out⟩
      · have hm : hts xs = xs.map clampH := by unfold hts; rw [if_neg (by omega)]
        have hle : (xs.map clampH).length = j := by rw [List.length_map]; exact hl
        have b0 : ((j : Int) == 0) = false := by simp; omega
        have HF := Lib.hid (new_end (hs := xs.map clampH) hE (by rw [hle]; exact Hs.out) Hn.out Ho.out ⟨by omega, fun y hy => by obtain ⟨x, _, rfl⟩ := List.mem_map.1 hy; exact clamp_ok x⟩)
        have Hm := Lib.hid hm
        clear hE hx hl htl hm hle
        go_wp2_with fail
        go_ret
        rw [Hm.out]
        exact ⟨_, rfl, HF.out, HE.out⟩

end Go.Proofs.Ytkmnhapeohlooaa

/-
  A region that draws its order and holds a round's call, inside a fence: what is loaded ahead of the call is taken first.
-/
namespace Go.Proofs.Ytkmnhapeohlooaa
open Go Go.RowKit

section
variable {F : Fence} {n : Nat} {P : Program} {ops : Array Oper} {Q : Exit → Act → World → Prop} {md : Region.Mode} {S : World → Prop} {late : Nat → Bool}

/-- In every world with S it leaves v, and it is about to call nothing. -/
def YieldsC (P : Program) (ops : Array Oper) (S : World → Prop) (o : Oper) (v : Value) (a : Act) : Prop := YieldsIf P ops S o v a ∧ ∀ w, o.about P w a.eval = none

theorem YieldsC.go (hro : F.round = none) {i : Nat} {o : Oper} {v : Value} {a : Act} (hi : ops[i]? = some o) (hy : YieldsC P ops S o v a) {K : Act → World → Prop} {w : World} (hS : S w) (h : K (a.put o.dst v) w) : wpOpIn F n P ops Q i K a w := by
  have hab : ∀ f, o.about P w a.eval = some f → F.fn f := fun f hf => by rw [hy.2 w] at hf; cases hf
  unfold wpOpIn
  rw [hi]
  rcases hy.1 with ⟨hw, hv⟩ | ⟨hw, rfl⟩
  · simp only [hw, if_true]
    refine ⟨hab, ?_⟩
    rw [hro, Oper.semAt_none, hv w hS]
    exact h
  · simp only [hw, Bool.false_eq_true, if_false]
    exact ⟨hab, h⟩

theorem YieldsC.kept {o : Oper} {v : Value} {a : Act} (hy : YieldsC P ops S o v a) (hs : ∀ cs b, o.op ≠ .select cs b) {dst : Option Tmp} {u : Value} (hd : ∀ d, dst = some d → d ∉ o.looksAt ops) : YieldsC P ops S o v (a.put dst u) :=
  ⟨hy.1.of_same (execOp_put o hs a dst u hd) (wanted_put o a dst u hd), fun w => by rw [about_put o w a dst u hd]; exact hy.2 w⟩

theorem wpOpIn_putC (hro : F.round = none) {j : Nat} {oi oj : Oper} {v : Value} (hj : ops[j]? = some oj) (hap : oi.apart ops oj = true) (hsi : ∀ cs b, oi.op ≠ .select cs b) (hsj : ∀ cs b, oj.op ≠ .select cs b)
    (hQ : ∀ c a w, Q (.panic c) (a.put oi.dst v) w → Q (.panic c) a w) {K : Act → World → Prop} {a : Act} {w : World} (hy : YieldsC P ops S oi v a) (h : wpOpIn F n P ops Q j K (a.put oi.dst v) w) :
    wpOpIn F n P ops Q j (fun a' w' => YieldsC P ops S oi v a' ∧ K (a'.put oi.dst v) w') a w := by
  obtain ⟨h1, h2, h3⟩ := Oper.apart_spec hap
  have back : ∀ u w', K ((a.put oi.dst v).put oj.dst u) w' → YieldsC P ops S oi v (a.put oj.dst u) ∧ K ((a.put oj.dst u).put oi.dst v) w' := fun u w' hk => ⟨hy.kept hsi h3, by rw [← Act.put_comm a v u h2]; exact hk⟩
  unfold wpOpIn at h ⊢
  rw [hj] at h ⊢
  simp only at h ⊢
  rw [wanted_put oj a oi.dst v h1, about_put oj w a oi.dst v h1] at h
  by_cases hw : Region.wanted oj (yielded ops a.tmps) = true
  · rw [if_pos hw] at h ⊢
    unfold Oper.wpIn at h ⊢
    rw [about_put oj w a oi.dst v h1, hro, Oper.semAt_none, execOp_put oj hsj a oi.dst v h1] at h
    rw [hro, Oper.semAt_none]
    refine ⟨h.1, ?_⟩
    have h := h.2
    generalize (execOp a.eval oj).run P w = r at h ⊢
    rcases r with ⟨x, w'⟩ | ⟨x, w'⟩
    · cases x with
      | value u => exact back u _ h
      | skip => exact back _ _ h
      | defer d =>
        simp only [Oper.uponIn] at h ⊢
        refine ⟨YieldsC.kept (a := { a with defers := d :: a.defers }) ⟨hy.1.of_same rfl rfl, hy.2⟩ hsi h3, ?_⟩
        rw [← Act.put_comm _ v undef h2, ← Act.put_defers]
        exact h
      | enter f args =>
        refine ⟨h.1, CallsIn.mono h.2 fun e w'' he => ?_⟩
        cases e with
        | returned u => exact back u _ he
        | panicked c => exact hQ _ _ _ he
        | outgrown => exact he
      | row row args => exact ⟨h.1, RowsIn.mono h.2 fun u w'' he => back u _ he⟩
      | round l f tmps assign body =>
        refine ⟨h.1, RoundIn.mono h.2 fun e w'' he => ?_⟩
        cases e with
        | returned u => exact back u _ he
        | panicked c => exact hQ _ _ _ he
        | outgrown => exact he
      | _ => exact h.elim
    · cases x with
      | panic u => exact hQ _ _ _ h
      | _ => exact h.elim
  · rw [if_neg hw] at h ⊢
    exact ⟨h.1, back _ _ h.2⟩

def wpAnyC (F : Fence) (n : Nat) (P : Program) (md : Region.Mode) (ops : Array Oper) (Q : Exit → Act → World → Prop) (S : World → Prop) (late : Nat → Bool) : Nat → Array Bool → Act → World → Prop
  | 0, listed, a, w => Region.ready md ops listed = [] ∧ Q .normal a w
  | fuel + 1, listed, a, w =>
    (Region.ready md ops listed = [] → Q .normal a w) ∧
    ∀ i ∈ Region.ready md ops listed, wpOpIn F n P ops Q i (fun a' w' => (late i = false → S w') ∧ wpAnyC F n P md ops Q S late fuel (listed.setIfInBounds i true) a' w') a w

theorem wpAnyIn_of_C : ∀ (fuel : Nat) (listed : Array Bool) (a : Act) (w : World), wpAnyC F n P md ops Q S late fuel listed a w → wpAnyIn F n P md ops Q fuel listed a w
  | 0, _, _, _, h => h
  | fuel + 1, _, _, _, h => ⟨h.1, fun i hi => wpOpIn_mono (fun a' w' h' => wpAnyIn_of_C fuel _ a' w' h'.2) (h.2 i hi)⟩

theorem wpIn_region_C {id : Nat} {a : Act} {w : World} (hm : P.follows .mixedOrders = true) (h : wpAnyC F n P .any ops Q S late ops.size (Array.replicate ops.size false) a w.drew) : (Code.region id ops true).wpIn F n P Q a w :=
  wpIn_region_any hm (wpAnyIn_of_C _ _ _ _ h)

/-- What is listed has what it waits for listed. -/
def dcB (md : Region.Mode) (ops : Array Oper) (listed : Array Bool) : Bool :=
  (List.range ops.size).all fun j => !(listed.getD j false) || (match ops[j]? with
    | some o => o.after.all fun e => !(Region.binds md e) || listed.getD e.on false
    | none => true)
def DC (md : Region.Mode) (ops : Array Oper) (listed : Array Bool) : Prop :=
  ∀ j o, ops[j]? = some o → listed.getD j false = true → ∀ e ∈ o.after, Region.binds md e = true → listed.getD e.on false = true
theorem dc_of {listed : Array Bool} (h : dcB md ops listed = true) : DC md ops listed := by
  intro j o hj hl e he hb
  have h1 := List.all_eq_true.1 h j (List.mem_range.2 (Array.getElem?_eq_some_iff.1 hj).1)
  rw [hl, hj] at h1
  simp only [Bool.not_true, Bool.false_or] at h1
  obtain ⟨k, hk, rfl⟩ := Array.mem_iff_getElem.1 he
  have h2 := Array.all_eq_true.1 h1 k hk
  rw [hb] at h2
  simpa using h2
/-- Number j waits for number i, directly or not. -/
def waits (md : Region.Mode) (ops : Array Oper) (i : Nat) : Nat → Nat → Bool
  | 0, _ => false
  | f + 1, j => match ops[j]? with
    | some o => o.after.any fun e => Region.binds md e && (e.on == i || waits md ops i f e.on)
    | none => false
theorem waits_listed {listed : Array Bool} {i : Nat} (hd : DC md ops listed) : ∀ (f j : Nat) (o : Oper), ops[j]? = some o → (∀ e ∈ o.after, Region.binds md e = true → listed.getD e.on false = true) → waits md ops i f j = true → listed.getD i false = true
  | 0, _, _, _, _, h => by cases h
  | f + 1, j, o, hj, ha, h => by
    unfold waits at h
    rw [hj] at h
    obtain ⟨k, hk, h2⟩ := Array.any_eq_true.1 h
    rw [Bool.and_eq_true, Bool.or_eq_true] at h2
    have hl := ha o.after[k] (Array.getElem_mem hk) h2.1
    rcases h2.2 with h3 | h3
    · rw [← (by simpa using h3 : o.after[k].on = i)]; exact hl
    · cases ho : ops[o.after[k].on]? with
      | none =>
        cases f with
        | zero => cases h3
        | succ f => unfold waits at h3; rw [ho] at h3; cases h3
      | some o2 => exact waits_listed hd f _ o2 ho (hd _ _ ho hl) h3
def lateW (md : Region.Mode) (ops : Array Oper) (late : Nat → Bool) (i : Nat) : Bool := !(late i) && (List.range ops.size).all fun j => !(late j) || waits md ops i ops.size j

theorem getD_of_true {listed : Array Bool} {i : Nat} (h : listed.getD i false = true) (j : Nat) : (listed.setIfInBounds j true).getD i false = true := by
  rw [Array.getD_eq_getD_getElem?] at h ⊢
  rw [Array.getElem?_setIfInBounds]
  split
  · split
    · rfl
    · rename_i h1 h2; subst h1; rw [Array.getElem?_eq_none (by omega)] at h; cases h
  · exact h
theorem DC.set {listed : Array Bool} (h : DC md ops listed) {j : Nat} {o : Oper} (hj : ops[j]? = some o) (ha : ∀ e ∈ o.after, Region.binds md e = true → listed.getD e.on false = true) : DC md ops (listed.setIfInBounds j true) := by
  intro k ok hk hl e he hb
  by_cases hjk : j = k
  · subst hjk
    rw [hj] at hk
    injection hk with hk
    subst hk
    exact getD_of_true (ha e he hb) _
  · rw [getD_set_ne false hjk] at hl
    exact getD_of_true (h k ok hk hl e he hb) _

theorem wpAnyC_first (hro : F.round = none) {i : Nat} {oi : Oper} {v : Value} (hi : ops[i]? = some oi) (hsel : ∀ (j : Nat) (o : Oper) cs b, ops[j]? = some o → o.op ≠ .select cs b)
    (hQ : ∀ c a w, Q (.panic c) (a.put oi.dst v) w → Q (.panic c) a w) (hlate : lateW md ops late i = true) :
    ∀ (fuel : Nat) (listed : Array Bool) (a : Act) (w : World), DC md ops listed →
      (∀ j oj, ops[j]? = some oj → j ≠ i → listed.getD j true = false → (∀ e ∈ oj.after, Region.binds md e = true → e.on ≠ i) → oi.apart ops oj = true) →
      i ∈ Region.ready md ops listed → YieldsC P ops S oi v a → S w →
      wpAnyC F n P md ops Q S late fuel (listed.setIfInBounds i true) (a.put oi.dst v) w → wpAnyC F n P md ops Q S late (fuel + 1) listed a w := by
  unfold lateW at hlate
  rw [Bool.and_eq_true] at hlate
  have hl1 := List.all_eq_true.1 hlate.2
  intro fuel
  induction fuel with
  | zero =>
    intro listed a w _ _ hr hy hS H
    refine ⟨fun h => absurd (h ▸ hr) (by simp), fun j hj => ?_⟩
    by_cases hji : j = i
    · subst hji
      exact hy.go hro hi hS ⟨fun _ => hS, H⟩
    · have := ready_mono hj hji
      rw [H.1] at this
      cases this
  | succ fuel ih =>
    intro listed a w hdc hfree hr hy hS H
    refine ⟨fun h => absurd (h ▸ hr) (by simp), fun j hj => ?_⟩
    by_cases hji : j = i
    · subst hji
      exact hy.go hro hi hS ⟨fun _ => hS, H⟩
    · have h1 := H.2 j (ready_mono hj hji)
      obtain ⟨hjun, oj, hoj, hall⟩ := mem_ready.1 hj
      have hiu := getD_none_false (mem_ready.1 hr).1
      have hnot : ∀ e ∈ oj.after, Region.binds md e = true → e.on ≠ i := fun e he hb heq => by
        have h2 := hall e he hb
        rw [heq, hiu] at h2
        cases h2
      have hlj : late j = false := by
        cases h : late j with
        | false => rfl
        | true =>
          have h5 := hl1 j (List.mem_range.2 (Array.getElem?_eq_some_iff.1 hoj).1)
          rw [h] at h5
          have := waits_listed hdc ops.size j oj hoj hall (by simpa using h5)
          rw [hiu] at this
          cases this
      have h2 := wpOpIn_putC hro hoj (hfree j oj hoj hji hjun hnot) (fun cs b => hsel i oi cs b hi) (fun cs b => hsel j oj cs b hoj) hQ hy h1
      refine wpOpIn_mono (fun a' w' h3 => ⟨h3.2.1, ih (listed.setIfInBounds j true) a' w' (hdc.set hoj hall) (fun k ok hk hki hun hno => ?_) (ready_mono hr (Ne.symm hji)) h3.1 (h3.2.1 hlj) ?_⟩) h2
      · refine hfree k ok hk hki ?_ hno
        by_cases hjk : j = k
        · subst hjk
          exact hjun
        · rw [getD_set_ne true hjk] at hun
          exact hun
      · rw [Array.setIfInBounds_comm _ _ hji]
        exact h3.2.2

theorem wpAnyC_take {i : Nat} {oi : Oper} {v : Value} {fuel : Nat} {listed : Array Bool} {a : Act} {w : World} (hro : F.round = none) (hi : ops[i]? = some oi) (hs : Region.noSelect ops = true) (hd : dcB md ops listed = true) (hf : Region.free md ops listed i = true)
    (hr : (Region.ready md ops listed).contains i = true) (hl : lateW md ops late i = true) (hQ : ∀ c a w, Q (.panic c) (a.put oi.dst v) w → Q (.panic c) a w) (hy : YieldsC P ops S oi v a) (hS : S w)
    (h : wpAnyC F n P md ops Q S late fuel (listed.setIfInBounds i true) (a.put oi.dst v) w) : wpAnyC F n P md ops Q S late (fuel + 1) listed a w :=
  wpAnyC_first hro hi (Region.noSelect_spec hs) hQ hl fuel listed a w (dc_of hd) (Region.free_spec hi hf) (by simpa using hr) hy hS h

theorem wpAnyC_done {listed : Array Bool} {a : Act} {w : World} (hr : Region.ready md ops listed = []) (h : Q .normal a w) : ∀ fuel, wpAnyC F n P md ops Q S late fuel listed a w
  | 0 => ⟨hr, h⟩
  | _ + 1 => ⟨fun _ => h, by rw [hr]; simp⟩

/-- The one that may come up, a late one. -/
theorem wpAnyC_step {i : Nat} {oi : Oper} {fuel : Nat} {listed : Array Bool} {a : Act} {w : World} (hr : Region.ready md ops listed = [i]) (hi : ops[i]? = some oi) (hg : oi.guard = none) (hlt : late i = true)
    (h : Oper.wpIn F n P oi a w (fun a' w' => wpAnyC F n P md ops Q S late fuel (listed.setIfInBounds i true) a' w') Q) : wpAnyC F n P md ops Q S late (fuel + 1) listed a w := by
  refine ⟨fun h0 => absurd (hr ▸ h0) (by simp), fun j hj => ?_⟩
  rw [hr] at hj
  rw [List.mem_singleton.1 hj]
  unfold wpOpIn
  simp only [hi]
  rw [if_pos (by simp [Region.wanted, hg])]
  exact Oper.wpIn_mono (fun a' w' hk => ⟨fun hf => absurd (hlt.symm.trans hf) (by decide), hk⟩) h

end
end Go.Proofs.Ytkmnhapeohlooaa

/-
  Layer 18: the iterator that Each hands back.
-/
namespace Go.Proofs.Ytkmnhapeohlooaa
open Go.RowKit
set_option maxRecDepth 100000

/-- A key that is handed out: its place, its node. -/
structure It (ns : List Nd) (L : List (List Nat)) (V : List Int) where
  p : Nat
  i : Nat
  i0 : i ≠ 0
  lt : i < ns.length
  hL : L[p]? = some (kb ns i)
  hV : V[p]? = some (vl ns i)

/-- The blocks of Y lie as they lay. -/
def KeepY (Y : Nat → Prop) (W W' : World) : Prop := (∀ q, Y q → W'.heap[q]? = W.heap[q]?) ∧ W.heap.size ≤ W'.heap.size
theorem keepY_t {Y : Nat → Prop} {A B C : World} (h : KeepY Y A B) (k : KeepY Y B C) : KeepY Y A C := ⟨fun q hq => (k.1 q hq).trans (h.1 q hq), Nat.le_trans h.2 k.2⟩
theorem keepY_b {Y : Nat → Prop} {w : World} (hY : ∀ q, Y q → q < w.heap.size) (W : World) (l : Nat) (o o' : Obj) (hl : w.heap.size ≤ l) (_ : W.heap[l]? = some o) (_ : o.isCells = false) (_ : o.isWalk = false) : KeepY Y W (W.putObj l o') :=
  ⟨fun q hq => World.putObj_heap_other (by have := hY q hq; omega), by simp [World.putObj]⟩

abbrev encK (ns : List Nd) {L : List (List Nat)} {V : List Int} (x : It ns L V) : Array Value := #[(nat_ ns x.i).key.v, .int .i64 (vl ns x.i)]
/-- The places from c on, as many as there are. -/
def FromC {ns : List Nd} {L : List (List Nat)} {V : List Int} (c : Nat) (ys : List (It ns L V)) : Prop := ys.map It.p = List.range' c ys.length
theorem fromC_snoc {ns : List Nd} {L : List (List Nat)} {V : List Int} {c : Nat} {ys : List (It ns L V)} (h : FromC c ys) (x : It ns L V) (hx : x.p = c + ys.length) : FromC c (ys ++ [x]) := by
  unfold FromC at h ⊢
  rw [List.map_append, h, List.length_append, List.length_singleton, List.range'_concat, List.map_singleton, hx]
  simp

theorem bf_next {n : Nat} {K : Nat → List Nat} {G : Nat → Nat} {X : Nat → Nat → Nat} {H : Nat} (h : Sk n K G X H) {j : Nat} (hj : j < n) (j0 : j ≠ 0) : X j 0 < n ∧ (X j 0 ≠ 0 → Bf K j (X j 0)) := by
  have hk := h.lk 0 j (by omega) hj (.inr (by have := (h.gr j (by omega) hj).1; omega))
  exact ⟨hk.lt, fun h0 => (hk.bf h0).2⟩

def eachM (n : Nat) (K : Nat → List Nat) (j : Nat) : Nat := if j = 0 then 0 else restN n K j + 1

set_option maxHeartbeats 6400000 in
theorem iterK_in (l Bl Bw : Nat) (X : Nat → Prop) (base sb H : Nat) (ns : List Nd) (hs : List Int) (L : List (List Nat)) (V : List Int) (hR : Rep ns.length (kb ns) (vl ns) L V) (hb : ns.length ≤ 17592186044417) (A : Option Addr) (m c : Nat) (t : List Nat) (hu : U8 t) (J Jx : List (It ns L V) → World → Prop)
    (hJa : ∀ s W W', J s W → Ext W W' → J s W')
    (hY : ∀ pre x W, J pre W → pre.length < L.length → YieldAt Fence.wide 3 Try.prog l (encK ns x) W fun e W' =>
      (e = .returned (.bool true) ∧ J (pre ++ [x]) W' ∧ KeepY (fun q => X q ∨ q = Bl) W W') ∨ (e = .returned (.bool false) ∧ Jx (pre ++ [x]) W'))
    (W : World) (hS : SL W X base sb ns hs H) (h1 : W.cell? ⟨Bl, 0, none⟩ = some (.pointer (some ⟨sb, 0, none⟩))) (h2 : W.cell? ⟨Bw, 0, none⟩ = some (.slice A m c)) (ht : Rd .u8 W A m t) (h0 : J [] W) :
    CallsIn Fence.wide 4 Try.prog 83 #[.func (.yield l) #[] #[], .pointer (some ⟨Bl, 0, none⟩), .pointer (some ⟨Bw, 0, none⟩)] W fun e W' => (∃ v, e = .returned v) ∧
      ((∃ ys, (FromC (skN t L) ys ∧ skN t L + ys.length = L.length) ∧ J ys W') ∨ (∃ pre, FromC (skN t L) pre ∧ Jx pre W')) := by
  have CF := Lib.hid (fun W' (hW : Ext W W') => sfirst_any (hS.ext hW) hb A m c t (ht.ext hW) hu)
  have HS := Lib.hid hS
  have HR := Lib.hid hR
  have HJa := Lib.hid hJa
  have HY := Lib.hid hY
  have hl1 := World.block_lt_of_cell? W _ h1
  obtain ⟨s, hs0⟩ : ∃ s, s = skN t L := ⟨_, rfl⟩
  rw [← hs0]
  have Hs0 := Lib.hid hs0
  clear hS hR hJa hY ht hu hs0
  refine callsIn_of_wp Try.func83 rfl trivial ?_ rfl
  simp only [Try.ntmps83, List.size_toArray, List.length_cons, List.length_nil, Nat.reduceAdd, Nat.reduceSub, Array.replicate_succ, Array.replicate_zero, List.push_toArray, List.append_toArray, List.nil_append, List.cons_append]
  gi_wp2_with (refine ⟨trivial, ?_⟩; gi_at_call 82; refine (callsIn_wide.2 (CF.out _ (Ext.refl _))).mono ?_; rintro e w1 ⟨⟨j, rfl, hF⟩, he1⟩)
  have hpos := fst_pos HR.out hF
  have hjl := hF.lt
  rw [← Hs0.out] at hpos
  have hS1 := HS.out.ext he1
  have h11 := (Below.cell he1 (p := ⟨Bl, 0, none⟩) hl1).trans h1
  gi_loopw [4] (fun v wr => ∃ (j : Nat) (ys : List (It ns L V)), v = .int .i64 (j : Int) ∧ j < ns.length ∧ Hid (Pos ns.length (kb ns) (vl ns) L V (s + ys.length) j) ∧ Hid (FromC s ys) ∧ Hid (J ys wr) ∧ Hid (SL wr X base sb ns hs H) ∧ wr.cell? ⟨Bl, 0, none⟩ = some (.pointer (some ⟨sb, 0, none⟩)))
    (fun v _ => eachM ns.length (kb ns) (intOf v).toNat)
  case atStart => exact ⟨j, [], rfl, hjl, Lib.hid (by simpa using hpos), Lib.hid rfl, Lib.hid (HJa.out _ _ _ h0 he1), Lib.hid hS1, h11⟩
  case round =>
    clear h1 h2 h0 hF hpos hS1 h11 he1 hjl
    obtain ⟨j, ys, rfl, hj, Hp, Hys, HJ, HSr, hcl⟩ := hrel
    by_cases j0 : j = 0
    · subst j0
      gi_wp2
      go_end0
      refine ⟨⟨_, rfl⟩, .inl ⟨ys, ⟨Hys.out, ?_⟩, HJ.out⟩⟩
      rcases Hp.out with ⟨_, e⟩ | ⟨e, _⟩
      · exact e
      · exact absurd rfl e
    · have b0 : ((j : Int) != 0) = true := by simp; omega
      obtain ⟨_, _, pL, pV⟩ : j ≠ 0 ∧ j < ns.length ∧ L[s + ys.length]? = some (kb ns j) ∧ V[s + ys.length]? = some (vl ns j) := by
        rcases Hp.out with ⟨e, _⟩ | e
        · exact absurd e j0
        · exact e
      have hlen : s + ys.length < L.length := (List.getElem?_eq_some_iff.1 pL).1
      obtain ⟨x, hxp, hxi⟩ : ∃ x : It ns L V, x.p = s + ys.length ∧ x.i = j := ⟨⟨s + ys.length, j, j0, hj, pL, pV⟩, rfl, rfl⟩
      have HYy := Lib.hid (HY.out ys x wr.drew (HJa.out _ _ _ HJ.out (Ext.refl _).drew) (by omega))
      have Hsn := Lib.hid (fromC_snoc Hys.out x hxp)
      have Hnp := Lib.hid (next_pos HR.out HSr.out.sk Hp.out j0)
      have Hbn := Lib.hid (bf_next HSr.out.sk hj j0)
      have hSd := HSr.out.ext ((Ext.refl wr).drew)
      obtain ⟨b, cn, Ah, ch, hSee, hsbq, _, _, hXb, _, _⟩ := hSd.see2
      have c0 := hSee.c0
      obtain ⟨cap1, cap2⟩ := hSee.cap
      have k0 := hSee.key j hj
      have v0 := hSee.val j hj
      have hcl2 : wr.drew.cell? ⟨Bl, 0, none⟩ = some (.pointer (some ⟨sb, 0, none⟩)) := hcl
      have Hblk := Lib.hid (show X sb ∧ X b from ⟨hSd.sbX, hXb⟩)
      have HSd := Lib.hid hSd
      have Hnx := Lib.hid (hSee.nx j 0 hj (by omega))
      unfold encK at HYy
      rw [hxi] at HYy
      obtain ⟨kv, hkv⟩ : ∃ kv, kv = (nat_ ns j).key.v := ⟨_, rfl⟩
      obtain ⟨xv, hxv⟩ : ∃ xv, xv = vl ns j := ⟨_, rfl⟩
      obtain ⟨n, hn⟩ : ∃ n, n = ns.length := ⟨_, rfl⟩
      rw [← hkv] at k0 HYy
      rw [← hxv] at v0 HYy
      rw [← hn] at c0 cap1 hj
      have Hn := Lib.hid hn
      obtain ⟨fn, tmps, assign, body, hy, hRd⟩ := HYy.out
      have hS0 : wr.drew.cell? ⟨Bl, 0, none⟩ = some (.pointer (some ⟨sb, 0, none⟩)) ∧ wr.drew.cell? ⟨sb, 0, none⟩ = some (.slice (some ⟨b, 0, none⟩) n cn) ∧ wr.drew.cell? ⟨b, j * 14, none⟩ = some kv ∧ wr.drew.cell? ⟨b, j * 14 + 1, none⟩ = some (.int .i64 xv) := ⟨hcl2, c0, k0, v0⟩
      clear hsbq hSee hSd hkv hxv hn pL pV hXb hxp hxi
      gi_wp2_with fail
      refine wpIn_region_C (S := fun W9 => W9.cell? ⟨Bl, 0, none⟩ = some (.pointer (some ⟨sb, 0, none⟩)) ∧ W9.cell? ⟨sb, 0, none⟩ = some (.slice (some ⟨b, 0, none⟩) n cn) ∧ W9.cell? ⟨b, j * 14, none⟩ = some kv ∧ W9.cell? ⟨b, j * 14 + 1, none⟩ = some (.int .i64 xv)) (late := fun k => k == 17 || k == 18) (by kernel_rfl) ?_
      refine wpAnyC_take (i := 0) (v := ?_) rfl rfl (by kernel_rfl) (by kernel_rfl) (by kernel_rfl) (by kernel_rfl) (by kernel_rfl) (fun _ _ _ h => h) ⟨Or.inl ⟨by rfl, ?_⟩, fun _ => rfl⟩ (by exact hS0) ?_
      rotate_left
      · (intro w hSw; (try dsimp only at hSw); (try (obtain ⟨hS1, hS2, hS3, hS4⟩ := hSw)); go_simp; (try with_reducible rfl))
      (try (simp only [Act.put, List.getElem_toArray, List.getElem_cons_zero, List.setIfInBounds_toArray, List.set_cons_zero, List.set_cons_succ]))
      refine wpAnyC_take (i := 1) (v := ?_) rfl rfl (by kernel_rfl) (by kernel_rfl) (by kernel_rfl) (by kernel_rfl) (by kernel_rfl) (fun _ _ _ h => h) ⟨Or.inl ⟨by rfl, ?_⟩, fun _ => rfl⟩ (by exact hS0) ?_
      rotate_left
      · (intro w hSw; (try dsimp only at hSw); (try (obtain ⟨hS1, hS2, hS3, hS4⟩ := hSw)); go_simp; (try with_reducible rfl))
      (try (simp only [Act.put, List.getElem_toArray, List.getElem_cons_zero, List.getElem_cons_succ, List.setIfInBounds_toArray, List.set_cons_zero, List.set_cons_succ]))
      refine wpAnyC_take (i := 2) (v := ?_) rfl rfl (by kernel_rfl) (by kernel_rfl) (by kernel_rfl) (by kernel_rfl) (by kernel_rfl) (fun _ _ _ h => h) ⟨Or.inl ⟨by rfl, ?_⟩, fun _ => rfl⟩ (by exact hS0) ?_
      rotate_left
      · (intro w hSw; (try dsimp only at hSw); (try (obtain ⟨hS1, hS2, hS3, hS4⟩ := hSw)); go_simp; (try with_reducible rfl))
      (try (simp only [Act.put, List.getElem_toArray, List.getElem_cons_zero, List.getElem_cons_succ, List.setIfInBounds_toArray, List.set_cons_zero, List.set_cons_succ]))
      refine wpAnyC_take (i := 3) (v := ?_) rfl rfl (by kernel_rfl) (by kernel_rfl) (by kernel_rfl) (by kernel_rfl) (by kernel_rfl) (fun _ _ _ h => h) ⟨Or.inl ⟨by rfl, ?_⟩, fun _ => rfl⟩ (by exact hS0) ?_
      rotate_left
      · (intro w hSw; (try dsimp only at hSw); (try (obtain ⟨hS1, hS2, hS3, hS4⟩ := hSw)); go_simp; (try with_reducible rfl))
      (try (simp only [Act.put, List.getElem_toArray, List.getElem_cons_zero, List.getElem_cons_succ, List.setIfInBounds_toArray, List.set_cons_zero, List.set_cons_succ]))
      refine wpAnyC_take (i := 4) (v := ?_) rfl rfl (by kernel_rfl) (by kernel_rfl) (by kernel_rfl) (by kernel_rfl) (by kernel_rfl) (fun _ _ _ h => h) ⟨Or.inl ⟨by rfl, ?_⟩, fun _ => rfl⟩ (by exact hS0) ?_
      rotate_left
      · (intro w hSw; (try dsimp only at hSw); (try (obtain ⟨hS1, hS2, hS3, hS4⟩ := hSw)); go_simp; (try with_reducible rfl))
      (try (simp only [Act.put, List.getElem_toArray, List.getElem_cons_zero, List.getElem_cons_succ, List.setIfInBounds_toArray, List.set_cons_zero, List.set_cons_succ]))
      refine wpAnyC_take (i := 5) (v := ?_) rfl rfl (by kernel_rfl) (by kernel_rfl) (by kernel_rfl) (by kernel_rfl) (by kernel_rfl) (fun _ _ _ h => h) ⟨Or.inl ⟨by rfl, ?_⟩, fun _ => rfl⟩ (by exact hS0) ?_
      rotate_left
      · (intro w hSw; (try dsimp only at hSw); (try (obtain ⟨hS1, hS2, hS3, hS4⟩ := hSw)); go_simp; (try with_reducible rfl))
      (try (simp only [Act.put, List.getElem_toArray, List.getElem_cons_zero, List.getElem_cons_succ, List.setIfInBounds_toArray, List.set_cons_zero, List.set_cons_succ]))
      refine wpAnyC_take (i := 6) (v := ?_) rfl rfl (by kernel_rfl) (by kernel_rfl) (by kernel_rfl) (by kernel_rfl) (by kernel_rfl) (fun _ _ _ h => h) ⟨Or.inl ⟨by rfl, ?_⟩, fun _ => rfl⟩ (by exact hS0) ?_
      rotate_left
      · (intro w hSw; (try dsimp only at hSw); (try (obtain ⟨hS1, hS2, hS3, hS4⟩ := hSw)); go_simp; (try with_reducible rfl))
      (try (simp only [Act.put, List.getElem_toArray, List.getElem_cons_zero, List.getElem_cons_succ, List.setIfInBounds_toArray, List.set_cons_zero, List.set_cons_succ]))
      refine wpAnyC_take (i := 7) (v := ?_) rfl rfl (by kernel_rfl) (by kernel_rfl) (by kernel_rfl) (by kernel_rfl) (by kernel_rfl) (fun _ _ _ h => h) ⟨Or.inl ⟨by rfl, ?_⟩, fun _ => rfl⟩ (by exact hS0) ?_
      rotate_left
      · (intro w hSw; (try dsimp only at hSw); (try (obtain ⟨hS1, hS2, hS3, hS4⟩ := hSw)); go_simp; (try with_reducible rfl))
      (try (simp only [Act.put, List.getElem_toArray, List.getElem_cons_zero, List.getElem_cons_succ, List.setIfInBounds_toArray, List.set_cons_zero, List.set_cons_succ]))
      refine wpAnyC_take (i := 8) (v := ?_) rfl rfl (by kernel_rfl) (by kernel_rfl) (by kernel_rfl) (by kernel_rfl) (by kernel_rfl) (fun _ _ _ h => h) ⟨Or.inl ⟨by rfl, ?_⟩, fun _ => rfl⟩ (by exact hS0) ?_
      rotate_left
      · (intro w hSw; (try dsimp only at hSw); (try (obtain ⟨hS1, hS2, hS3, hS4⟩ := hSw)); go_simp; (try with_reducible rfl))
      (try (simp only [Act.put, List.getElem_toArray, List.getElem_cons_zero, List.getElem_cons_succ, List.setIfInBounds_toArray, List.set_cons_zero, List.set_cons_succ]))
      refine wpAnyC_take (i := 9) (v := ?_) rfl rfl (by kernel_rfl) (by kernel_rfl) (by kernel_rfl) (by kernel_rfl) (by kernel_rfl) (fun _ _ _ h => h) ⟨Or.inl ⟨by rfl, ?_⟩, fun _ => rfl⟩ (by exact hS0) ?_
      rotate_left
      · (intro w hSw; (try dsimp only at hSw); (try (obtain ⟨hS1, hS2, hS3, hS4⟩ := hSw)); go_simp; (try with_reducible rfl))
      (try (simp only [Act.put, List.getElem_toArray, List.getElem_cons_zero, List.getElem_cons_succ, List.setIfInBounds_toArray, List.set_cons_zero, List.set_cons_succ]))
      refine wpAnyC_take (i := 10) (v := ?_) rfl rfl (by kernel_rfl) (by kernel_rfl) (by kernel_rfl) (by kernel_rfl) (by kernel_rfl) (fun _ _ _ h => h) ⟨Or.inl ⟨by rfl, ?_⟩, fun _ => rfl⟩ (by exact hS0) ?_
      rotate_left
      · (intro w hSw; (try dsimp only at hSw); (try (obtain ⟨hS1, hS2, hS3, hS4⟩ := hSw)); go_simp; (try with_reducible rfl))
      (try (simp only [Act.put, List.getElem_toArray, List.getElem_cons_zero, List.getElem_cons_succ, List.setIfInBounds_toArray, List.set_cons_zero, List.set_cons_succ]))
      refine wpAnyC_take (i := 11) (v := ?_) rfl rfl (by kernel_rfl) (by kernel_rfl) (by kernel_rfl) (by kernel_rfl) (by kernel_rfl) (fun _ _ _ h => h) ⟨Or.inl ⟨by rfl, ?_⟩, fun _ => rfl⟩ (by exact hS0) ?_
      rotate_left
      · (intro w hSw; (try dsimp only at hSw); (try (obtain ⟨hS1, hS2, hS3, hS4⟩ := hSw)); go_simp; (try with_reducible rfl))
      (try (simp only [Act.put, List.getElem_toArray, List.getElem_cons_zero, List.getElem_cons_succ, List.setIfInBounds_toArray, List.set_cons_zero, List.set_cons_succ]))
      refine wpAnyC_take (i := 12) (v := ?_) rfl rfl (by kernel_rfl) (by kernel_rfl) (by kernel_rfl) (by kernel_rfl) (by kernel_rfl) (fun _ _ _ h => h) ⟨Or.inl ⟨by rfl, ?_⟩, fun _ => rfl⟩ (by exact hS0) ?_
      rotate_left
      · (intro w hSw; (try dsimp only at hSw); (try (obtain ⟨hS1, hS2, hS3, hS4⟩ := hSw)); go_simp; (try with_reducible rfl))
      (try (simp only [Act.put, List.getElem_toArray, List.getElem_cons_zero, List.getElem_cons_succ, List.setIfInBounds_toArray, List.set_cons_zero, List.set_cons_succ]))
      refine wpAnyC_take (i := 13) (v := ?_) rfl rfl (by kernel_rfl) (by kernel_rfl) (by kernel_rfl) (by kernel_rfl) (by kernel_rfl) (fun _ _ _ h => h) ⟨Or.inl ⟨by rfl, ?_⟩, fun _ => rfl⟩ (by exact hS0) ?_
      rotate_left
      · (intro w hSw; (try dsimp only at hSw); (try (obtain ⟨hS1, hS2, hS3, hS4⟩ := hSw)); go_simp; (try with_reducible rfl))
      (try (simp only [Act.put, List.getElem_toArray, List.getElem_cons_zero, List.getElem_cons_succ, List.setIfInBounds_toArray, List.set_cons_zero, List.set_cons_succ]))
      refine wpAnyC_take (i := 14) (v := ?_) rfl rfl (by kernel_rfl) (by kernel_rfl) (by kernel_rfl) (by kernel_rfl) (by kernel_rfl) (fun _ _ _ h => h) ⟨Or.inl ⟨by rfl, ?_⟩, fun _ => rfl⟩ (by exact hS0) ?_
      rotate_left
      · (intro w hSw; (try dsimp only at hSw); (try (obtain ⟨hS1, hS2, hS3, hS4⟩ := hSw)); go_simp; (try with_reducible rfl))
      (try (simp only [Act.put, List.getElem_toArray, List.getElem_cons_zero, List.getElem_cons_succ, List.setIfInBounds_toArray, List.set_cons_zero, List.set_cons_succ]))
      refine wpAnyC_take (i := 15) (v := ?_) rfl rfl (by kernel_rfl) (by kernel_rfl) (by kernel_rfl) (by kernel_rfl) (by kernel_rfl) (fun _ _ _ h => h) ⟨Or.inl ⟨by rfl, ?_⟩, fun _ => rfl⟩ (by exact hS0) ?_
      rotate_left
      · (intro w hSw; (try dsimp only at hSw); (try (obtain ⟨hS1, hS2, hS3, hS4⟩ := hSw)); go_simp; (try with_reducible rfl))
      (try (simp only [Act.put, List.getElem_toArray, List.getElem_cons_zero, List.getElem_cons_succ, List.setIfInBounds_toArray, List.set_cons_zero, List.set_cons_succ]))
      refine wpAnyC_take (i := 16) (v := ?_) rfl rfl (by kernel_rfl) (by kernel_rfl) (by kernel_rfl) (by kernel_rfl) (by kernel_rfl) (fun _ _ _ h => h) ⟨Or.inl ⟨by rfl, ?_⟩, fun _ => rfl⟩ (by exact hS0) ?_
      rotate_left
      · (intro w hSw; (try dsimp only at hSw); (try (obtain ⟨hS1, hS2, hS3, hS4⟩ := hSw)); go_simp; (try with_reducible rfl))
      (try (simp only [Act.put, List.getElem_toArray, List.getElem_cons_zero, List.getElem_cons_succ, List.setIfInBounds_toArray, List.set_cons_zero, List.set_cons_succ]))
      refine wpAnyC_step (i := 17) (by kernel_rfl) rfl rfl rfl ?_
      refine ⟨fun _ _ => trivial, ?_⟩
      rw [Oper.semAt_eq _ _ _ (fun c h => by cases h)]
      go_simp
      refine hRd.mono ?_
      rintro e W3 (⟨rfl, hJ3, hk3⟩ | ⟨rfl, hJx3⟩)
      · (try dsimp only)
        (try (simp only [Act.put, List.getElem_toArray, List.getElem_cons_zero, List.getElem_cons_succ, List.setIfInBounds_toArray, List.set_cons_zero, List.set_cons_succ]))
        refine wpAnyC_step (i := 18) (by kernel_rfl) rfl rfl rfl ?_
        refine ⟨fun _ _ => trivial, ?_⟩
        rw [Oper.semAt_eq _ _ _ (fun c h => by cases h)]
        go_simp
        (try (simp only [Act.put, List.getElem_toArray, List.getElem_cons_zero, List.getElem_cons_succ, List.setIfInBounds_toArray, List.set_cons_zero, List.set_cons_succ]))
        refine wpAnyC_done (by kernel_rfl) ?_ _
        have hS3 := HSd.out.kept (fun q hq => hk3.1 q (.inl hq)) hk3.2
        obtain ⟨b3, cn3, Ah3, ch3, hSee3, _⟩ := hS3.see2
        have hcl3 : W3.cell? ⟨Bl, 0, none⟩ = some (.pointer (some ⟨sb, 0, none⟩)) := (World.cell?_of_block (a := ⟨Bl, 0, none⟩) (hk3.1 Bl (.inr rfl))).trans hcl2
        have c03 := hSee3.c0
        have n03 := hSee3.nx j 0 (by rw [← Hn.out]; exact hj) (by omega)
        obtain ⟨cap31, cap32⟩ := hSee3.cap
        rw [← Hn.out] at c03 cap31
        rw [Nat.add_zero] at n03
        obtain ⟨y, hyy⟩ : ∃ y, y = nxt ns j 0 := ⟨_, rfl⟩
        rw [← hyy] at n03
        have Hyy := Lib.hid hyy
        have HS3 := Lib.hid hS3
        clear hS3 hSee3 hyy c0 k0 v0 hcl2 hS0 hcl cap1
        gi_wp2
        refine ⟨⟨y, ys ++ [x], rfl, by rw [Hyy.out]; exact Hbn.out.1, Lib.hid ?_, Hsn, Lib.hid hJ3, HS3, hcl3⟩, ?_⟩
        · rw [Hyy.out, List.length_append, List.length_singleton, ← Nat.add_assoc]
          exact Hnp.out
        · show eachM ns.length (kb ns) y < eachM ns.length (kb ns) j
          unfold eachM
          rw [if_neg j0]
          by_cases y0 : y = 0
          · rw [if_pos y0]; omega
          · rw [if_neg y0]
            have h7 := Hbn.out
            rw [← Hyy.out] at h7
            have := rest_lt h7.1 y0 (h7.2 y0)
            omega
      · (try dsimp only)
        (try (simp only [Act.put, List.getElem_toArray, List.getElem_cons_zero, List.getElem_cons_succ, List.setIfInBounds_toArray, List.set_cons_zero, List.set_cons_succ]))
        refine wpAnyC_step (i := 18) (by kernel_rfl) rfl rfl rfl ?_
        refine ⟨fun _ _ => trivial, ?_⟩
        rw [Oper.semAt_eq _ _ _ (fun c h => by cases h)]
        go_simp
        (try (simp only [Act.put, List.getElem_toArray, List.getElem_cons_zero, List.getElem_cons_succ, List.setIfInBounds_toArray, List.set_cons_zero, List.set_cons_succ]))
        refine wpAnyC_done (by kernel_rfl) ?_ _
        gi_wp2
        refine bodyPost_ret (results_none rfl _ _ _) rfl ?_
        exact ⟨⟨_, rfl⟩, .inr ⟨ys ++ [x], Hsn.out, hJx3⟩⟩

theorem seqK_any (Bl Bw : Nat) (X : Nat → Prop) (base sb H : Nat) (ns : List Nd) (hs : List Int) (L : List (List Nat)) (V : List Int) (hR : Rep ns.length (kb ns) (vl ns) L V) (hb : ns.length ≤ 17592186044417) (A : Option Addr) (m c : Nat) (t : List Nat) (hu : U8 t)
    (w : World) (hS : SL w X base sb ns hs H) (b1 : Bl < w.heap.size) (b2 : Bw < w.heap.size) (h1 : w.cell? ⟨Bl, 0, none⟩ = some (.pointer (some ⟨sb, 0, none⟩))) (h2 : w.cell? ⟨Bw, 0, none⟩ = some (.slice A m c)) (ht : Rd .u8 w A m t) :
    SeqStopsK Fence.wide 4 Try.prog 83 #[.pointer (some ⟨Bl, 0, none⟩), .pointer (some ⟨Bw, 0, none⟩)] (fun x : It ns L V => encK ns x) (KeepY (fun q => X q ∨ q = Bl)) (fun ys => FromC (skN t L) ys ∧ skN t L + ys.length = L.length) (fun pre => FromC (skN t L) pre) L.length w := fun l J Jx W hW hJ _ hY h0 =>
  iterK_in l Bl Bw X base sb H ns hs L V hR hb A m c t hu J Jx (fun s W W' hs he => hJ s W W' none hs ⟨he.os, he.tape, he.output, he.size, fun i hi _ => he.block i hi⟩ (fun r e => by cases e)) hY W (hS.kept (fun q hq => hW.block q (hS.bd q hq).2) hW.size) ((hW.cell (p := ⟨Bl, 0, none⟩) b1).trans h1) ((hW.cell (p := ⟨Bw, 0, none⟩) b2).trans h2) (ht.ext hW) h0

end Go.Proofs.Ytkmnhapeohlooaa
