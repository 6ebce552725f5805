/-
  Layer 13: the program's Add, walked.
-/
import Derived.Test.YtgmjpilinhmjoaaQ5
namespace Go.Proofs.Ytgmjpilinhmjoaa
open Go.RowKit
set_option maxRecDepth 100000

theorem or8 {v e : Nat} (hv : v < 256) (he : e < 8) : bits .or .u8 (v : Int) ((2 : Int) ^ e % 256) = ((v ||| 2 ^ e : Nat) : Int) := by
  have h1 := one_shl he
  rw [IntKind.wrap_u8'] at h1
  have h2 : 2 ^ e < 256 := Nat.lt_of_lt_of_le (Nat.pow_lt_pow_right (by decide) he) (by decide)
  rw [h1, u8_or_nat _ _ hv h2]

def AddTmps (p : Value) (A : Option Addr) (n c B : Nat) (j : Nat) (u5 u10 u11 u12 u13 u14 u15 u30 : Value) : Array Value :=
  #[p, .slice A n c, .pointer (some ⟨B, 0, none⟩), undef, undef, u5, undef, .slice A n c, .int .i64 (n : Int), .int .i64 (j : Int), u10, u11, u12, u13, u14, u15, undef, undef, undef, undef, undef, undef, undef, undef, undef, undef, undef, undef, undef, undef, u30]

set_option maxHeartbeats 4000000 in
theorem add_in (base g r : Nat) (fs : List Nat) (A : Option Addr) (n c : Nat) (keys : List (List Nat)) (w : World) (hf : Fil w base g r fs) (hx : ∀ W, w.grownBy W (some r) → RdSS W A n keys) (hu : U8s keys) (hn : ∀ xs ∈ keys, xs.length ≤ 281474976710656) (hnn : n ≤ 281474976710656) :
    CallsIn Fence.wide 6 Try.prog 11 #[.pointer (some ⟨g, 0, none⟩), .slice A n c] w fun e w' => e = .returned (.tuple #[]) ∧ Fil w' base g r (addAll fs keys) ∧ w.grownBy w' (some r) := by
  have hlo := hf.lo
  have hhi := hf.hi
  have hlen := (hx w (gb_refl w _)).len
  have hrw := hf.rlt.2
  have hgw := hf.glt
  have hgr := hf.ne
  refine callsIn_of_wp_marks Try.func11 rfl trivial ?_ rfl
  simp only [Try.ntmps11, List.size_toArray, List.length_cons, List.length_nil, Nat.reduceAdd, Nat.reduceSub, Array.replicate_succ, Array.replicate_zero, List.push_toArray, List.append_toArray, List.nil_append, List.cons_append]
  gi_wp2
  refine wpIn_loop (fun a wr => ∃ (j : Nat) (u5 u10 u11 u12 u13 u14 u15 u30 : Value) (ds : List Nat), a = { tmps := AddTmps (.pointer (some ⟨g, 0, none⟩)) A n c w.heap.size j u5 u10 u11 u12 u13 u14 u15 u30, defers := ds.map mk } ∧ j ≤ n ∧ Fil wr base g r (addAll fs (keys.take j)) ∧ w.grownBy wr (some r) ∧
      wr.cell? ⟨w.heap.size, 0, none⟩ = some (.pointer (some ⟨g, 0, none⟩)) ∧ w.heap.size < wr.heap.size ∧ ds.Nodup ∧ (∀ D ∈ ds, w.heap.size ≤ D ∧ wr.heap[D]? = some (.deferred (some []))))
    (fun a _ => n - (intOf (a.tmps.getD 9 undef)).toNat) ?atStart ?round
  case atStart =>
    refine ⟨0, _, _, _, _, _, _, _, _, [], rfl, by omega, ?_, gb_ext _ ((Ext.refl _).alloc _), ?_, by simp, List.nodup_nil, by simp⟩
    · rw [List.take_zero]; exact hf.ext ((Ext.refl _).alloc _)
    · exact cell_of_row _ w.heap.size 0 _ _ (0, 0) (heap_alloc_new w _)
  case round =>
    rintro a wr ⟨j, u5, u10, u11, u12, u13, u14, u15, u30, ds, rfl, hj, hF, hg, hbox, hsz, hnd, hm⟩
    unfold AddTmps
    by_cases hlt : j < n
    · have hwj : wrap64 ((j : Int) + 1) = (j : Int) + 1 := IntWalk.wrap64_in _ (by omega)
      obtain ⟨b, o, A2, n2, c2, rfl, hb, hcell, hkey⟩ := (hx wr hg).at_ hlt
      have hkn : (keys.getD j []).length ≤ 281474976710656 := by
        have : keys.getD j [] ∈ keys := by
          rw [List.getD, List.getElem?_eq_getElem (by omega)]; exact List.getElem_mem (by omega)
        exact hn _ this
      have hn2 : n2 ≤ 281474976710656 := by have := hkey.len; omega
      obtain ⟨F0, hF0⟩ : ∃ F0, F0 = addAll fs (keys.take j) := ⟨_, rfl⟩
      have hl0 : F0.length = fs.length := by rw [hF0]; exact addAll_len _ _
      obtain ⟨M, hM⟩ : ∃ M, M = 8 * F0.length := ⟨_, rfl⟩
      have hM1 : 64 ≤ M := by omega
      have hM2 : M ≤ 40960 := by omega
      rw [← hF0] at hF
      obtain ⟨key, hkey'⟩ : ∃ key, key = keys.getD j [] := ⟨_, rfl⟩
      have huk : U8 key := by rw [hkey']; exact hu.at_ j
      rw [← hkey'] at hkey hkn
      have hnext : addAll fs (keys.take (j + 1)) = addF F0 key := by rw [take_nextL _ _ (by omega), addAll_snoc, ← hF0, ← hkey']
      rw [addF, ← hM] at hnext
      have hh := fnv_lt key
      have hcall := bitsOf_any base g r F0 A2 n2 c2 key wr hF hkey huk hn2
      rw [← hM] at hcall
      have hk : ∀ i, kk (fnv key) M i < M := fun i => kk_lt (by omega)
      have HM := Lib.hid hM
      have Hnext := Lib.hid hnext
      have HF := Lib.hid hF
      have Hg := Lib.hid hg
      have Hm := Lib.hid hm
      have Hnd := Lib.hid hnd
      have Hcall := Lib.hid hcall
      clear hnext hF hg hm hM hl0 hF0 hkey' hkey huk hcall hx hu hn hf hnd
      gi_wp2_with (refine ⟨trivial, ?_⟩; gi_at_call 32; refine (callsIn_wide.2 Hcall.out).mono ?_; rintro e w1 ⟨Ba, Bb, Bm, rfl, he1, l1, l2, l3, m1, m2, m3, ca, cb, cm⟩)
      have hsz1 : wr.heap.size ≤ w1.heap.size := he1.size
      have hbox1 : w1.cell? ⟨w.heap.size, 0, none⟩ = some (.pointer (some ⟨g, 0, none⟩)) := (Below.cell he1 (p := ⟨w.heap.size, 0, none⟩) hsz).trans hbox
      have hF1 := HF.out.ext he1
      have hg1 : w.grownBy w1 (some r) := gb_trans Hg.out (gb_ext _ he1)
      have hm1 : ∀ D ∈ ds, w.heap.size ≤ D ∧ D < wr.heap.size ∧ w1.heap[D]? = some (.deferred (some [])) := fun D hD => by
        have h := Hm.out D hD
        have hlt := (Array.getElem?_eq_some_iff.1 h.2).1
        exact ⟨h.1, hlt, (he1.block D hlt).trans h.2⟩
      refine wpIn_rangeFunc_ownG rfl (by decide) (gf := 48) (lb := #[.pointer (some ⟨Ba, 0, none⟩), .pointer (some ⟨Bb, 0, none⟩), .pointer (some ⟨Bm, 0, none⟩)]) rfl trivial (enters_of Try.func48 (by kernel_rfl) rfl)
        (seq_any Fence.wide 5 trivial rfl (by decide) Ba Bb Bm _ _ _ (Nat.mod_lt _ (by decide)) (hb_lt hh) (by omega) (by omega) w1 m1 m2 m3 ca cb cm) keep3_t (keep3_b m1 m2 m3) (Below.refl _ _) (fun _ => rfl)
        (fun pre W => Fil W base g r (addK F0 (fnv key) M pre) ∧ w.grownBy W (some r) ∧ W.cell? ⟨w.heap.size, 0, none⟩ = some (.pointer (some ⟨g, 0, none⟩)) ∧ w1.heap.size ≤ W.heap.size ∧ (∀ D ∈ ds, W.heap[D]? = some (.deferred (some []))))
        (fun _ _ _ => False)
        (fun s A B row hs hg hr => ?own)
        (fun c s A B row hs hg hr => hs.elim)
        ⟨hF1, hg1, hbox1, Nat.le_refl _, fun D hD => (hm1 D hD).2.2⟩
        (fun x => { tmps := #[.pointer (some ⟨g, 0, none⟩), .slice (some ⟨b, o, none⟩) n c, .pointer (some ⟨w.heap.size, 0, none⟩), undef, undef, .slice A2 n2 c2, .int .u64 (kk (fnv key) M x : Nat), .slice (some ⟨b, o, none⟩) n c, .int .i64 (n : Int), .int .i64 (j : Int), .bool true, .pointer (some ⟨b, o + j, none⟩), .slice A2 n2 c2, .pointer (some ⟨g, 0, none⟩), .slice A2 n2 c2, .func (.func 48) #[] #[.pointer (some ⟨Ba, 0, none⟩), .pointer (some ⟨Bb, 0, none⟩), .pointer (some ⟨Bm, 0, none⟩)], .int .u64 (kk (fnv key) M x : Nat), undef, undef, undef, undef, undef, undef, undef, undef, undef, undef, undef, undef, undef, u30], defers := [] }) ?assign ?body ?done ?stop
      case own =>
        refine ⟨hs.1.grown hg (fun e => ?_) (fun e => ?_), gb_new hs.2.1 hg (fun x e => ?_), cell_kept hs.2.2.1 hg (fun r e => (hr r e).2), Nat.le_trans hs.2.2.2.1 hg.size, fun D hD => (hg.block D ?_ (fun e => ?_)).trans (hs.2.2.2.2 D hD)⟩
        · have := (hr g e.symm).1; omega
        · have := (hr r e.symm).1; omega
        · have := (hr x e).1; omega
        · have := (hm1 D hD).2.1; have := hs.2.2.2.1; omega
        · have := (hr D e.symm).1; have := (hm1 D hD).2.1; omega
      case assign =>
        intro l x W K hK
        gi_wp2_with (rw [Oper.semAt_eq _ _ _ (fun c h => by cases h)]; go_simp; try go_bits)
        exact hK
      case body =>
        rintro l pre x W ⟨hFp, hgp, hcb, hszp, hmp⟩ _
        have hlp : 8 * (addK F0 (fnv key) M pre).length = M := by rw [addK_len, HM.out]
        have hkx := hk x
        have hsn := addK_snoc F0 (fnv key) M pre x
        obtain ⟨K, hK⟩ : ∃ K, K = kk (fnv key) M x := ⟨_, rfl⟩
        rw [← hK] at hkx hsn ⊢
        obtain ⟨Fp, hFp'⟩ : ∃ Fp, Fp = addK F0 (fnv key) M pre := ⟨_, rfl⟩
        rw [← hFp'] at hFp hlp hsn
        obtain ⟨cf, hcf1, hcf2, hcg, hown, hrd⟩ := hFp.cell
        obtain ⟨b', o', e', hb', hcell'⟩ := hrd.at_ (j := K / 8) (by omega)
        injection e' with e'
        injection e' with e1 e2
        subst e1 e2
        have hv := hFp.u8.at_ (K / 8)
        rw [setB] at hsn
        obtain ⟨v, hv'⟩ : ∃ v, v = Fp.getD (K / 8) 0 := ⟨_, rfl⟩
        rw [← hv', Nat.zero_add] at hcell'
        rw [← hv'] at hv hsn
        have he8 : K % 8 < 8 := by omega
        have hor := or8 hv he8
        have hy : v ||| 2 ^ (K % 8) < 256 := Nat.or_lt_two_pow (n := 8) hv (Nat.lt_of_lt_of_le (Nat.pow_lt_pow_right (by decide) he8) (by decide))
        obtain ⟨y, hy'⟩ : ∃ y, y = v ||| 2 ^ (K % 8) := ⟨_, rfl⟩
        rw [← hy'] at hor hy hsn
        obtain ⟨hfz, hF2, hg2⟩ := hFp.set (j := K / 8) (by omega) y hy
        rw [← hsn] at hF2
        have hq1 : (K : Int) / 8 < (Fp.length : Int) := by omega
        have hq2 : (0 : Int) ≤ (K : Int) / 8 := by omega
        have hq3 : ((K : Int) / 8).toNat = K / 8 := by omega
        have hq4 : ((K : Int) % 8).toNat = K % 8 := by omega
        have HK := Lib.hid hK
        have Hv := Lib.hid hv'
        have Hy := Lib.hid hy'
        have HFp := Lib.hid hFp'
        have HF2 := Lib.hid hF2
        have Hg2 := Lib.hid hg2
        have Hgp := Lib.hid hgp
        have Hmp := Lib.hid hmp
        have hrW := hFp.rlt.2
        clear hK hv' hy' hFp' hF2 hg2 hgp hmp hsn hFp hown hrd hF1 hg1 hm1
        gi_wp2_with (rw [Oper.semAt_eq _ _ _ (fun c h => by cases h)]; go_simp; try go_bits)
        have hrr : r < wr.heap.size := by omega
        refine ⟨(KeepsOthers.setCell _ _ _).from _, keep3_grown Hg2.out (by omega) (by omega) (by omega) (by omega) (by omega) (by omega), HF2.out, gb_trans Hgp.out Hg2.out, (World.cell?_of_block (a := ⟨w.heap.size, 0, none⟩) (Hg2.out.block _ (by show w.heap.size < _; omega) (fun e => by have e2 : w.heap.size = r := Option.some.inj e; omega))).trans hcb, Nat.le_trans hszp Hg2.out.size, fun D hD => (Hg2.out.block D (Array.getElem?_eq_some_iff.1 (Hmp.out D hD)).1 (fun e => ?_)).trans (Hmp.out D hD)⟩
        injection e with e
        have := (Hm.out D hD).1
        omega
      case done =>
        rintro D ys W hD rfl ⟨hFd, hgd, hcb, hszd, hmd⟩ hKd
        gi_wp2
        refine ⟨⟨j + 1, .slice A2 n2 c2, .bool true, .pointer (some ⟨b, o + j, none⟩), .slice A2 n2 c2, .pointer (some ⟨g, 0, none⟩), .slice A2 n2 c2, .func (.func 48) #[] #[.pointer (some ⟨Ba, 0, none⟩), .pointer (some ⟨Bb, 0, none⟩), .pointer (some ⟨Bm, 0, none⟩)], .int .i64 ((j : Int) + 1), D :: ds, ?_, hlt, ?_, hgd, hcb, Nat.lt_of_lt_of_le hsz (Nat.le_trans hsz1 hszd), List.nodup_cons.2 ⟨fun h => ?_, Hnd.out⟩, fun D' hD' => ?_⟩, ?_⟩
        · rfl
        · rw [Hnext.out]; exact hFd
        · have := (Hm.out D h).2
          have h3 := (Array.getElem?_eq_some_iff.1 this).1
          exact absurd (Nat.lt_of_lt_of_le h3 (Nat.le_trans hsz1 hD)) (Nat.lt_irrefl _)
        · rcases List.mem_cons.1 hD' with rfl | h
          · exact ⟨Nat.le_trans (Nat.le_of_lt hsz) (Nat.le_trans hsz1 hD), hKd⟩
          · exact ⟨(Hm.out D' h).1, hmd D' h⟩
        · show n - (intOf (Value.int .i64 ((j : Int) + 1))).toNat < n - (intOf (Value.int .i64 (j : Int))).toNat
          have e1 : (intOf (Value.int .i64 ((j : Int) + 1))).toNat = j + 1 := rfl
          have e2 : (intOf (Value.int .i64 (j : Int))).toNat = j := rfl
          rw [e1, e2]
          exact Nat.sub_lt_sub_left hlt (Nat.lt_succ_self j)
      case stop =>
        rintro D c pre W hD hpre h hKd
        exact h.elim
    · obtain rfl : j = n := by omega
      rw [← hlen, List.take_of_length_le (Nat.le_refl _)] at hF
      gi_wp2
      refine leaves_marks (fun W => Fil W base g r (addAll fs keys) ∧ w.grownBy W (some r)) ds hnd (fun W D hZ hD hW => ?_) (fun W hZ => ⟨_, results_none rfl _ _ _, rfl, hZ⟩) wr ⟨hF, hg⟩ (fun D hD => (hm D hD).2)
      have hd := (hm D hD).1
      exact ⟨hZ.1.grown (grownBy_putObj' W D _) (fun e => by have e2 : g = D := Option.some.inj e; omega) (fun e => by have e2 : r = D := Option.some.inj e; omega), gb_new hZ.2 (grownBy_putObj' W D _) (fun x e => by have e2 : D = x := Option.some.inj e; omega)⟩

theorem fadd_any (base g r : Nat) (fs : List Nat) (A : Option Addr) (n c : Nat) (keys : List (List Nat)) (w : World) (hf : Fil w base g r fs) (hx : ∀ W, w.grownBy W (some r) → RdSS W A n keys) (hu : U8s keys) (hn : ∀ xs ∈ keys, xs.length ≤ 281474976710656) (hnn : n ≤ 281474976710656) :
    Calls Try.prog 11 #[.pointer (some ⟨g, 0, none⟩), .slice A n c] w fun e w' => e = .returned (.tuple #[]) ∧ Fil w' base g r (addAll fs keys) ∧ w.grownBy w' (some r) :=
  callsIn_wide.1 (add_in base g r fs A n c keys w hf hx hu hn hnn)

end Go.Proofs.Ytgmjpilinhmjoaa
