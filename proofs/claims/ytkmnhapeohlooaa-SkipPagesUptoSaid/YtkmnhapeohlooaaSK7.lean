/-
  Layer 18: a list as keys in order with their values; Put.
-/
import Derived.Test.YtkmnhapeohlooaaSK6
namespace Go.Proofs.Ytkmnhapeohlooaa
open Go.RowKit
set_option maxRecDepth 100000

/-- The greatest of the first k heights that are taken, again and again from the first on. -/
def Hm (hs : List Int) : Nat → Nat
  | 0 => 0
  | k + 1 => max (Hm hs k) (hs.getD (k % hs.length) 0).toNat

/-- The list at sb holds the keys L with the values V. -/
def LS (w : World) (X : Nat → Prop) (base sb : Nat) (hs : List Int) (L : List (List Nat)) (V : List Int) : Prop :=
  ∃ ns, SL w X base sb ns hs (Hm hs L.length) ∧ Rep ns.length (kb ns) (vl ns) L V

def putV (L : List (List Nat)) (V : List Int) (t : List Nat) (v : Int) : List Int := if L[skN t L]? = some t then V.set (skN t L) v else V.take (skN t L) ++ v :: V.drop (skN t L)

/-- The blocks of a list behind a call that makes blocks of its own. -/
abbrev XN (X : Nat → Prop) (w w' : World) : Nat → Prop := fun q => X q ∨ (w.heap.size ≤ q ∧ q < w'.heap.size)

theorem SL.wide {w : World} {X Y : Nat → Prop} {base sb H : Nat} {ns : List Nd} {hs : List Int} (h : SL w X base sb ns hs H) (hXY : ∀ q, X q → Y q) (hY : ∀ q, Y q → base ≤ q ∧ q < w.heap.size) : SL w Y base sb ns hs H := by
  obtain ⟨An, cn, Ah, ch, h1, h2, h3, h4, h5⟩ := h.ex
  exact ⟨⟨An, cn, Ah, ch, h1, h2, h3, fun a ha => hXY _ (h4 a ha), fun a ha => hXY _ (h5 a ha)⟩, hXY _ h.sbX, hY, fun i i1 i2 => (h.keys i i1 i2).wide hXY, h.sk, h.hok⟩
theorem SL.base_le {w : World} {X : Nat → Prop} {base sb H : Nat} {ns : List Nd} {hs : List Int} (h : SL w X base sb ns hs H) : base ≤ w.heap.size := by
  have := h.bd sb h.sbX; omega

/-- A node's value set anew. -/
theorem SL.setV {w : World} {X : Nat → Prop} {base sb H b cn : Nat} {ns : List Nd} {hs : List Int} {Ah : Option Addr} {ch : Nat} (h : SL w X base sb ns hs H) (hsb : w.heap[sb]? = some (.cells #[.slice (some ⟨b, 0, none⟩) ns.length cn, .slice Ah hs.length ch, .int .i64 (H : Int)] 95 (0, 0))) (hrow : OwnG shN 110 w base (some ⟨b, 0, none⟩) cn ns) (hhs : OwnG shZ 3 w base Ah ch hs) (hXb : X b) (hXh : ∀ a, Ah = some a → X a.block) (hbs : b ≠ sb) {j : Nat} (hj : j < ns.length) (v : Int) :
    SL (w.setCell ⟨b, j * 14 + 1, none⟩ (.int .i64 v)) X base sb (ns.set j { nat_ ns j with v := v }) hs H := by
  obtain ⟨b', x, hA, _, _, hx, hc, hfr, hst⟩ := hrow.at_ hj
  injection hA with hA
  injection hA with hA
  subst hA
  rw [nat_at hj] at hx
  injection hx with hx
  subst hx
  obtain ⟨row', hgw⟩ := hst 1 { nat_ ns j with v := v } (.int .i64 v) (by show 1 < 14; omega) rfl
  rw [show shN.sz = 14 from rfl] at row' hgw
  obtain ⟨curb, hb2⟩ : ∃ cur, w.heap[b]? = some (.cells cur 110 (0, 0)) := by
    rcases hrow.2 with ⟨hv, _⟩ | ⟨q, cap, cur, hv, _, hh, _⟩
    · cases hv
    · injection hv with hA _ _
      injection hA with hA
      injection hA with hA
      subst hA
      exact ⟨cur, hh⟩
  have hq : ∀ q, q < w.heap.size → q ≠ b → (w.setCell ⟨b, j * 14 + 1, none⟩ (.int .i64 v)).heap[q]? = w.heap[q]? := fun q h1 h2 => Below.heap_setCell w _ _ q h2
  have hkey : ∀ i, (nat_ (ns.set j { nat_ ns j with v := v }) i).key = (nat_ ns i).key ∧ (nat_ (ns.set j { nat_ ns j with v := v }) i).h = (nat_ ns i).h ∧ (nat_ (ns.set j { nat_ ns j with v := v }) i).nx = (nat_ ns i).nx := fun i => by
    by_cases e : i = j
    · subst e; rw [nat_set_eq hj]; exact ⟨rfl, rfl, rfl⟩
    · rw [nat_set_ne e]; exact ⟨rfl, rfl, rfl⟩
  have ekb : kb (ns.set j { nat_ ns j with v := v }) = kb ns := by funext i; unfold kb; rw [(hkey i).1]
  have ehg : hg (ns.set j { nat_ ns j with v := v }) = hg ns := by funext i; unfold hg; rw [(hkey i).2.1]
  have enx : nxt (ns.set j { nat_ ns j with v := v }) = nxt ns := by funext i l; unfold nxt; rw [(hkey i).2.2]
  refine ⟨⟨_, cn, Ah, ch, ?_, row', ?_, fun a ha => by injection ha with ha; rw [← ha]; exact hXb, hXh⟩, h.sbX, fun q hx => ⟨(h.bd q hx).1, Nat.lt_of_lt_of_le (h.bd q hx).2 hgw.size⟩, fun i i1 i2 => ?_, ?_, h.hok⟩
  · rw [List.length_set, hq sb (h.bd sb h.sbX).2 (fun e => hbs e.symm)]; exact hsb
  · exact hhs.blk (fun p hp => hq _ (h.bd _ (hXh p hp)).2 (own_ty hhs hb2 (by decide) p hp))
  · rw [List.length_set] at i2
    rw [(hkey i).1]
    have hk := h.keys i i1 i2
    have hblk : ∀ p, (nat_ ns i).key.A = some p → (w.setCell ⟨b, j * 14 + 1, none⟩ (.int .i64 v)).heap[p.block]? = w.heap[p.block]? := fun p hp => by
      obtain ⟨cur, fr, hc⟩ := hk.ty p hp
      refine hq _ (h.bd _ (hk.blk p hp)).2 (fun e => ?_)
      rw [e, hb2] at hc
      injection hc with hc
      injection hc with _ hc
      exact absurd hc (by decide)
    exact ⟨hk.rd.blk hblk hgw.size, hk.u8, hk.len, hk.cap, hk.blk, fun p hp => by obtain ⟨cur, fr, hc⟩ := hk.ty p hp; exact ⟨cur, fr, (hblk p hp).trans hc⟩⟩
  · rw [List.length_set, ekb, ehg, enx]; exact h.sk

section
variable {w : World} {X : Nat → Prop} {base sb : Nat} {hs : List Int} {L : List (List Nat)} {V : List Int}

theorem LS.ext {w' : World} (h : LS w X base sb hs L V) (he : Ext w w') : LS w' X base sb hs L V := by
  obtain ⟨ns, h1, h2⟩ := h
  exact ⟨ns, h1.ext he, h2⟩
theorem LS.vlen (h : LS w X base sb hs L V) : V.length = L.length ∧ Asc L := by
  obtain ⟨ns, _, h2⟩ := h
  exact ⟨h2.vlen, h2.asc⟩

set_option maxHeartbeats 3200000 in
theorem sput_any (h : LS w X base sb hs L V) (hb : L.length < 1099511627776) (A : Option Addr) (m c : Nat) (t : List Nat) (v : Int) (ht : Rd .u8 w A m t) (hu : U8 t) (hm : m ≤ 140737488355328) :
    Calls Try.prog 41 #[.pointer (some ⟨sb, 0, none⟩), .slice A m c, .int .i64 v] w fun e w' => e = .returned (.bool (decide (¬ L[skN t L]? = some t))) ∧ LS w' (XN X w w') base sb hs (insL L t) (putV L V t v) ∧ FrX X w w' := by
  obtain ⟨ns, hS, hR⟩ := h
  obtain ⟨D, hDD⟩ : ∃ D, D = decide (¬ L[skN t L]? = some t) := ⟨_, rfl⟩
  rw [← hDD]
  have HDD := Lib.hid hDD
  clear hDD
  have hnl := hR.len
  have hnb : ns.length ≤ 1099511627776 := by omega
  have CA := Lib.hid (sahead_any hS (by omega) A m c t ht hu)
  have CB := Lib.hid (fun W (hW : Ext w W) a ha => sbehind_any (hS.ext hW) (by omega) a ha)
  have CH := Lib.hid (fun W (hW : Ext w W) i hi => shas_any (hS.ext hW) (by omega) i hi A m c t (ht.ext hW) hu)
  have CI := Lib.hid (fun W (hW : Ext w W) a ha hn => sinsert_any (hS.ext hW) hnb A m c t v (ht.ext hW) hu hm a ha hn)
  have HS := Lib.hid hS
  have HR := Lib.hid hR
  have hbl := hS.base_le
  have Hsk := Lib.hid hS.sk
  clear hS hR ht hu
  go_enter Try.func41, Try.ntmps41
  go_wp2_with fail
  refine CA.out.mono ?_
  rintro e w1 ⟨⟨a, rfl, hA⟩, he1⟩
  have hE2 : Ext w ((w1.alloc (.cells z12 105)).setRow w1.heap.size (twr a).toArray) := (he1.alloc _).setRow he1.size _
  have hB2 : ((w1.alloc (.cells z12 105)).setRow w1.heap.size (twr a).toArray).heap[w1.heap.size]? = some (.cells (twr a).toArray 105 (0, 0)) := setRow_heap _ w1.heap.size _ _ 105 (0, 0) (heap_alloc_new w1 (.cells z12 105))
  have HB2 := Lib.hid hB2
  have HE2 := Lib.hid hE2
  have hA0 := hA 0 (by omega)
  have C2 := Lib.hid (CB.out _ hE2 a hA0.lt)
  have HA := Lib.hid hA
  have hF := fst_of Hsk.out hA0
  obtain ⟨j, hj⟩ : ∃ j, j = nxt ns (a 0) 0 := ⟨_, rfl⟩
  rw [← hj] at hF C2
  have hpos := fst_pos HR.out hF
  have hjl := hF.lt
  have Hpos := Lib.hid hpos
  clear hB2 hE2 hA hA0 hF hj hpos
  go_wp2_with (first
    | (refine wpList_store_row rfl 105 _ _ rfl w1.heap.size (twr a).toArray rfl rfl 105 z12 (heap_alloc_new w1 _) (by rw [twr_size]; kernel_rfl) (by rw [twr_size]; rfl) (twr_one a) ?_)
    | (refine wpList_load_row rfl 105 _ rfl w1.heap.size rfl 105 (twr a).toArray (0, 0) _ HB2.out Try.underlying105 rfl (by rw [twr_size]; kernel_rfl) ?_)
    | fail)
  refine C2.out.mono ?_
  rintro e w3 ⟨rfl, he3⟩
  have hE3 := HE2.out.trans he3
  have hB3 := (he3.block _ (Array.getElem?_eq_some_iff.1 HB2.out).1).trans HB2.out
  have HB3 := Lib.hid hB3
  have C3 := CH.out _ hE3 j hjl
  have HE3 := Lib.hid hE3
  have hiff := pos_has Hpos.out
  by_cases q : L[skN t L]? = some t
  · have hq := hiff.2 q
    have e1 : (decide (j ≠ 0) && decide (kb ns j = t)) = true := by rw [decide_eq_true hq.1, decide_eq_true hq.2]; rfl
    rw [e1] at C3
    have C3 := Lib.hid C3
    obtain ⟨b, cn, Ah, ch, hSee, hsb, hrow, hhs, hXb, hXh, hbs⟩ := (HS.out.ext hE3).see2
    have c0 := hSee.c0
    obtain ⟨cap1, cap2⟩ := hSee.cap
    have v0 := hSee.val j hjl
    have fr0 := hSee.fr.1 (j * 14 + 1)
    have hset := (HS.out.ext hE3).setV hsb hrow hhs hXb hXh hbs hjl v
    have hfr := FrX.trans (hE3.frX X) (grownBy_frX (X := X) (grown_setCellS w3 b (j * 14 + 1) (.int .i64 v)) (.inl hXb))
    have hrep := rep_set HR.out Hsk.out (v := v) (U' := vl (ns.set j { nat_ ns j with v := v })) Hpos.out hq.1 (by unfold vl; rw [nat_set_eq hjl]) (fun i hi => by unfold vl; rw [nat_set_ne hi])
    have hD : decide (¬ L[skN t L]? = some t) = false := decide_eq_false (fun h => h q)
    have hfin : LS (w3.setCell ⟨b, j * 14 + 1, none⟩ (.int .i64 v)) (XN X w (w3.setCell ⟨b, j * 14 + 1, none⟩ (.int .i64 v))) base sb hs (insL L t) (putV L V t v) := by
      rw [insL_yes q]
      unfold putV
      rw [if_pos q]
      refine ⟨ns.set j { nat_ ns j with v := v }, hset.wide (fun p hp => .inl hp) (fun p hp => ?_), ?_⟩
      · rcases hp with hp | hp
        · exact hset.bd p hp
        · exact ⟨by omega, hp.2⟩
      · rw [List.length_set]
        have ekb : kb (ns.set j { nat_ ns j with v := v }) = kb ns := by
          funext i
          unfold kb
          by_cases e : i = j
          · subst e; rw [nat_set_eq hjl]
          · rw [nat_set_ne e]
        rw [ekb]
        exact hrep
    have Hfin := Lib.hid hfin
    have Hfr := Lib.hid hfr
    obtain ⟨n, hn⟩ : ∃ n, n = ns.length := ⟨_, rfl⟩
    rw [← hn] at c0 hjl cap1
    obtain ⟨vv, hvv⟩ : ∃ vv, vv = vl ns j := ⟨_, rfl⟩
    rw [← hvv] at v0
    have HD := Lib.hid (HDD.out.trans hD)
    clear hSee hsb hrow hhs hset hfr hrep hD hfin hn hvv e1 q hq hiff hE3 hB3 he3
    go_wp2_with fail
    refine C3.out.mono ?_
    rintro e w4 ⟨rfl, rfl⟩
    go_wp2_with fail
    go_ret
    exact ⟨by rw [HD.out]; rfl, Hfin.out, Hfr.out⟩
  · have e1 : (decide (j ≠ 0) && decide (kb ns j = t)) = false := by
      rw [Bool.and_eq_false_iff]
      by_cases j0 : j ≠ 0
      · exact .inr (decide_eq_false (fun e => q (hiff.1 ⟨j0, e⟩)))
      · exact .inl (decide_eq_false j0)
    rw [e1] at C3
    have C3 := Lib.hid C3
    have hnew : ∀ i, 1 ≤ i → i < ns.length → kb ns i ≠ t := fun i i1 i2 e => skN_notMem q HR.out.asc ((rep_mem HR.out).1 ⟨i, i1, i2, e⟩)
    have C4 := Lib.hid (CI.out _ hE3 a HA.out hnew)
    have hD : decide (¬ L[skN t L]? = some t) = true := decide_eq_true q
    have HD := Lib.hid (HDD.out.trans hD)
    have Hq := Lib.hid q
    clear e1 q hiff hE3 hB3 he3 hnew hD
    go_wp2_with fail
    refine C3.out.mono ?_
    rintro e w4 ⟨rfl, rfl⟩
    go_wp2_with (first
      | (refine wpList_load_row rfl 105 _ rfl w1.heap.size rfl 105 (twr a).toArray (0, 0) _ HB3.out Try.underlying105 rfl (by rw [twr_size]; kernel_rfl) ?_)
      | fail)
    refine C4.out.mono ?_
    rintro e w5 ⟨rfl, ns', hS5, hP5, hF5⟩
    go_wp2_with fail
    go_ret
    refine ⟨by rw [HD.out]; rfl, ⟨ns', ?_, ?_⟩, (HE3.out.frX X).trans hF5⟩
    · have hl : (insL L t).length = L.length + 1 := by
        have := skN_le t L
        rw [insL_no Hq.out]
        simp
        omega
      rw [hl]
      show SL w5 _ base sb ns' hs (max (Hm hs L.length) (hs.getD (L.length % hs.length) 0).toNat)
      have e2 : ns.length - 1 = L.length := by omega
      rw [e2] at hS5
      exact hS5.wide (fun p hp => by
        rcases hp with hp | hp
        · exact .inl hp
        · exact .inr ⟨Nat.le_trans HE3.out.size hp.1, hp.2⟩) (fun p hp => by
        rcases hp with hp | hp
        · exact hS5.bd p (.inl hp)
        · exact ⟨by omega, hp.2⟩)
    · rw [hP5.len, insL_no Hq.out]
      unfold putV
      rw [if_neg Hq.out]
      exact rep_put HR.out Hq.out hP5.kn hP5.ko hP5.vn hP5.vo
end

end Go.Proofs.Ytkmnhapeohlooaa
