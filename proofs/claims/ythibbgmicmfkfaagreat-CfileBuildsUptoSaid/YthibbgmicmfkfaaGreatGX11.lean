import Derived.Test.YthibbgmicmfkfaaGreatGX10
import Derived.Deep.RegionHeld3
import Derived.Lib.SliceRun
namespace Go.Proofs.YthibbgmicmfkfaaGreat
open Go.RowKit
set_option maxRecDepth 100000
def PTxPost (R : List Nat × Int × Int) (w : World) (e : Ending) (w' : World) : Prop :=
  ∃ A' c', e = .returned (.tuple #[.slice A' R.1.length c', .int .i64 R.2.1, .int .i64 R.2.2]) ∧ Own .u8 5 w' w.heap.size A' c' R.1 ∧ Ext w w'
theorem PTxPost.bad {w w' : World} (R : List Nat × Int × Int) {E : Int} (h : R = ([], 0, E)) (he : Ext w w') : PTxPost R w (.returned (.tuple #[.slice none 0 0, .int .i64 0, .int .i64 E])) w' := by
  subst h
  exact ⟨none, 0, rfl, Own.nil .., he⟩
theorem PTxPost.good {w w' : World} (R : List Nat × Int × Int) {xs : List Nat} {A : Option Addr} {m c : Nat} {z Z : Int} (h : R = (xs, z, 0)) (hm : xs.length = m) (hz : Z = z) (ho : Own .u8 5 w' w.heap.size A c xs) (he : Ext w w') : PTxPost R w (.returned (.tuple #[.slice A m c, .int .i64 Z, .int .i64 0])) w' := by
  subst h
  subst hm
  subst hz
  exact ⟨A, c, rfl, ho, he⟩
theorem RdSS.two_at {V : World} {b n c n2 c2 : Nat} {e : TypeId} {A A2 : Option Addr} {xs ys : List Nat} (hb : V.heap[b]? = some (.cells #[.slice A n c, .slice A2 n2 c2] e)) (h : Rd .u8 V A n xs) (h2 : Rd .u8 V A2 n2 ys) :
    RdSS V (some ⟨b, 0, none⟩) 2 [xs, ys] := by
  refine ⟨rfl, fun _ => ⟨b, 0, rfl, (Array.getElem?_eq_some_iff.1 hb).1, fun j hj => ?_⟩⟩
  rcases (show j = 0 ∨ j = 1 by omega) with rfl | rfl
  · exact ⟨A, n, c, cell_of_row V b 0 _ e (0, 0) hb, h⟩
  · exact ⟨A2, n2, c2, cell_of_row V b 1 _ e (0, 0) hb, h2⟩
theorem get_is {A : Option Addr} {n c : Nat} {at_ : Int} {bs : List Nat} {w : World} (hx : Rd .u8 w A n bs) (hu : U8 bs) (hn : n ≤ 140737488355328) (hcap : n ≤ c) (hcm : c ≤ 9223372036854775807) {k : Nat} {n1 e1 : Int} (h : vget bs at_ = (k, n1, e1)) :
    Calls Tryz.prog 77 #[.slice A n c, .int .i64 at_] w fun e w' => e = .returned (.tuple #[.int .u64 k, .int .i64 n1, .int .i64 e1]) ∧ w' = w :=
  (get_any A n c at_ bs w hx hu hn hcap hcm).mono fun e w' ⟨q1, q2⟩ => ⟨by rw [q1, h], q2.symm⟩
set_option maxHeartbeats 1600000 in
set_option maxRecDepth 100000 in
theorem pgetText_any (A : Option Addr) (n c : Nat) (at_ : Int) (A2 : Option Addr) (n2 c2 : Nat) (bs last : List Nat) (w : World) (hx : Rd .u8 w A n bs) (hu : U8 bs) (hn : n ≤ 140737488355328) (hcap : n ≤ c) (hcm : c ≤ 9223372036854775807)
    (hl : Rd .u8 w A2 n2 last) (h2 : n2 ≤ 200) (hcap2 : n2 ≤ c2) :
    Calls Tryz.prog 195 #[.slice A n c, .int .i64 at_, .slice A2 n2 c2] w (PTxPost (ptx bs at_ last) w) := by
  have hbl := hx.len
  have hll := hl.len
  rcases g1 : vget bs at_ with ⟨k, n1, e1⟩
  have G1 := Lib.hid (get_is hx hu hn hcap hcm g1)
  by_cases z1 : e1 = 0
  · subst z1
    obtain ⟨a1, a2, a3, a4, _⟩ := vget_at hu g1
    rw [hbl] at a3
    obtain ⟨m1, rfl⟩ := Int.eq_ofNat_of_zero_le (show 0 ≤ n1 by omega)
    rcases g2 : vget bs ((m1 : Nat) : Int) with ⟨r, n3, e2⟩
    have G2 := Lib.hid (get_is hx hu hn hcap hcm g2)
    by_cases z2 : e2 = 0
    · subst z2
      obtain ⟨b1, b2, b3, b4, _⟩ := vget_at hu g2
      rw [hbl] at b3
      obtain ⟨m2, rfl⟩ := Int.eq_ofNat_of_zero_le (show 0 ≤ n3 by omega)
      have hm2 : m2 ≤ n := by omega
      have hrlt : r < 18446744073709551616 := b4
      have hklt : k < 18446744073709551616 := a4
      by_cases hk : n2 < k
      · have HR := Lib.hid (ptx_form g1 g2 (by rw [hll]; exact hk))
        clear hx hu hbl hll g1 g2 a1 a2 a3 b1 b2 b3 hl
        go_enter Tryz.func195, Tryz.ntmps195
        go_wp2_with fail
        refine G1.out.mono ?_
        rintro e w1 ⟨rfl, rfl⟩
        go_wp2_with fail
        refine G2.out.mono ?_
        rintro e w2 ⟨rfl, rfl⟩
        go_wp2_with fail
        go_ret3
        exact PTxPost.bad _ HR.out (Ext.refl _)
      · have hk2 : k ≤ n2 := by omega
        have hk200 : k ≤ 200 := by omega
        have hsub : IntKind.u64.wrap (200 - (k : Int)) = 200 - (k : Int) := IntWalk.u64_in _ (by omega)
        by_cases hr : 200 < r + k
        · have HR := Lib.hid (ptx_long g1 g2 (by rw [hll]; exact hk2) hr)
          have hgt : 200 - (k : Int) < (r : Int) := by omega
          clear hx hu hbl hll g1 g2 a1 a2 a3 b1 b2 b3 hl
          go_enter Tryz.func195, Tryz.ntmps195
          go_wp2_with fail
          refine G1.out.mono ?_
          rintro e w1 ⟨rfl, rfl⟩
          go_wp2_with fail
          refine G2.out.mono ?_
          rintro e w2 ⟨rfl, rfl⟩
          go_wp2_with fail
          go_ret3
          exact PTxPost.bad _ HR.out (Ext.refl _)
        · have hr2 : r ≤ 200 := by omega
          have hle : ¬ 200 - (k : Int) < (r : Int) := by omega
          have hri : IntKind.i64.wrap (r : Int) = (r : Int) := IntWalk.i64_in _ (by omega)
          by_cases hs : n < m2 + r
          · have HR := Lib.hid (ptx_short g1 g2 (by rw [hll]; exact hk2) (by omega) (by rw [hbl]; omega))
            have hgt : (n : Int) - (m2 : Int) < (r : Int) := by omega
            clear hx hu hbl hll g1 g2 a1 a2 a3 b1 b2 b3 hl
            go_enter Tryz.func195, Tryz.ntmps195
            go_wp2_with fail
            refine G1.out.mono ?_
            rintro e w1 ⟨rfl, rfl⟩
            go_wp2_with fail
            refine G2.out.mono ?_
            rintro e w2 ⟨rfl, rfl⟩
            go_wp2_with fail
            go_ret3
            exact PTxPost.bad _ HR.out (Ext.refl _)
          · obtain ⟨E, hE⟩ : ∃ E, E = m2 + r := ⟨_, rfl⟩
            have hEn : E ≤ n := by omega
            have hle3 : ¬ (n : Int) - (m2 : Int) < (r : Int) := by omega
            have hrE : E - m2 = r := by omega
            have su := run_upto .u64 A2 n2 c2 k (by omega)
            have sc := run_cut A n c m2 E (by omega) (by omega)
            rw [hrE, show ((E : Nat) : Int) = (m2 : Int) + (r : Int) by omega] at sc
            have hmr : (m2 : Int) + (r : Int) ≤ 140737488355328 := by omega
            have hcr : Rd .u8 w (offA A m2 c) r (cut bs m2 r) := by
              have := hx.cut (l := m2) (h := E) (c := c) (by omega) hEn hcap
              rw [hrE] at this
              exact this
            obtain ⟨A9, hA9⟩ : ∃ A9, A9 = offA A m2 c := ⟨_, rfl⟩
            rw [← hA9] at sc hcr
            have hlr := hl.upto hk2
            obtain ⟨X, hX⟩ : ∃ X, X = last.take k ++ cut bs m2 r := ⟨_, rfl⟩
            have hXf : [last.take k, cut bs m2 r].flatten = X := by rw [hX]; simp
            have hXl : X.length = k + r := by rw [hX, List.length_append, hlr.len, hcr.len]
            have hcp := (cp_le last X).1
            have Hcon := Lib.hid (fun (W : World) (b cc : Nat) (ee : TypeId) (hb : W.heap[b]? = some (.cells #[.slice A2 k c2, .slice A9 r cc] ee)) (hW : Ext w W) => concat_any (some ⟨b, 0, none⟩) 2 2 [last.take k, cut bs m2 r] W (RdSS.two_at hb (hlr.ext hW) (hcr.ext hW)) (by rw [hXf, hXl]; omega) (by omega))
            rw [hXf, hXl] at Hcon
            have Hl := Lib.hid hl
            have HXl := Lib.hid hXl
            have Hal := Lib.hid (fun (W : World) (B : Option Addr) (cb : Nat) (hW : Ext w W) (hB : Rd .u8 W B (k + r) X) => palike_any A2 B n2 c2 (k + r) cb last X W (hl.ext hW) hB (by omega) (by omega))
            by_cases hc : k < cp last X
            · have HR := Lib.hid (ptx_more g1 g2 (by rw [hll]; exact hk2) (by omega) (by rw [hbl]; omega) (by rw [Int.toNat_natCast, ← hX]; exact hc))
              clear hx hu hbl hll g1 g2 a1 a2 a3 b1 b2 b3 hl hA9 hX hXf hXl hlr hcr
              obtain ⟨C, hC⟩ : ∃ C, C = cp last X := ⟨_, rfl⟩
              rw [← hC] at Hal hc hcp
              clear hC
              have hki : IntKind.i64.wrap (k : Int) = (k : Int) := IntWalk.i64_in _ (by omega)
              have hdc : decide (k < C) = true := decide_eq_true hc
              go_enter Tryz.func195, Tryz.ntmps195
              go_wp2_with fail
              refine G1.out.mono ?_
              rintro e w1 ⟨rfl, rfl⟩
              go_wp2_with fail
              refine G2.out.mono ?_
              rintro e w2 ⟨rfl, rfl⟩
              go_wp2_with fail
              clear hm2 hEn hE hs
              go_region_held3 (fun _ => True) (exact trivial) (first
                | (go_at_call 109; refine (Hcon.out _ w2.heap.size (c - m2) 22 (by first | exact heap_alloc_new w2 _ | (simp; done) | fail) (by (repeat (first | (with_reducible exact Ext.refl _) | (with_reducible apply Ext.drew) | (with_reducible apply Ext.alloc) | fail)))).mono ?_; rintro e w3 ⟨A3, c3, rfl, hown3, he3⟩)
                | fail)
              have hE3 : Ext w2 w3 := Ext.trans (by (repeat (first | (with_reducible exact Ext.refl _) | (with_reducible apply Ext.drew) | (with_reducible apply Ext.alloc) | fail))) he3
              have hown4 := hown3.mono (base' := w2.heap.size) (by simp)
              go_wp2_with fail
              refine (Hal.out _ _ _ hE3 (hown3.rd' HXl.out)).mono ?_
              rintro e w4 ⟨rfl, q4, rfl⟩
              go_wp2_with fail
              go_ret3
              exact PTxPost.bad _ HR.out (hE3.drewN _)
            · have HR := Lib.hid (ptx_yes g1 g2 (by rw [hll]; exact hk2) (by omega) (by rw [hbl]; omega) (by rw [Int.toNat_natCast, ← hX]; omega))
              rw [Int.toNat_natCast, ← hX] at HR
              clear hx hu hbl hll g1 g2 a1 a2 a3 b1 b2 b3 hl hA9 hX hXf hXl hlr hcr
              obtain ⟨C, hC⟩ : ∃ C, C = cp last X := ⟨_, rfl⟩
              rw [← hC] at Hal hc hcp
              clear hC
              have hki : IntKind.i64.wrap (k : Int) = (k : Int) := IntWalk.i64_in _ (by omega)
              have hdc : decide (k < C) = false := decide_eq_false hc
              go_enter Tryz.func195, Tryz.ntmps195
              go_wp2_with fail
              refine G1.out.mono ?_
              rintro e w1 ⟨rfl, rfl⟩
              go_wp2_with fail
              refine G2.out.mono ?_
              rintro e w2 ⟨rfl, rfl⟩
              go_wp2_with fail
              clear hm2 hEn hE hs
              go_region_held3 (fun _ => True) (exact trivial) (first
                | (go_at_call 109; refine (Hcon.out _ w2.heap.size (c - m2) 22 (by first | exact heap_alloc_new w2 _ | (simp; done) | fail) (by (repeat (first | (with_reducible exact Ext.refl _) | (with_reducible apply Ext.drew) | (with_reducible apply Ext.alloc) | fail)))).mono ?_; rintro e w3 ⟨A3, c3, rfl, hown3, he3⟩)
                | fail)
              have hE3 : Ext w2 w3 := Ext.trans (by (repeat (first | (with_reducible exact Ext.refl _) | (with_reducible apply Ext.drew) | (with_reducible apply Ext.alloc) | fail))) he3
              have hown4 := hown3.mono (base' := w2.heap.size) (by simp)
              go_wp2_with fail
              refine (Hal.out _ _ _ hE3 (hown3.rd' HXl.out)).mono ?_
              rintro e w4 ⟨rfl, q4, rfl⟩
              go_wp2_with fail
              go_ret3
              exact PTxPost.good _ HR.out HXl.out rfl (hown4.ext (Ext.of_drewN _ _)) (hE3.drewN _)
    · have HR := Lib.hid (ptx_e2 (last := last) g1 g2 z2)
      have hb2 : (e2 != 0) = true := by rw [bne_iff_ne]; exact z2
      clear hx hu hbl hll g1 g2 a1 a2 a3 hl
      go_enter Tryz.func195, Tryz.ntmps195
      go_wp2_with fail
      refine G1.out.mono ?_
      rintro e w1 ⟨rfl, rfl⟩
      go_wp2_with fail
      refine G2.out.mono ?_
      rintro e w2 ⟨rfl, rfl⟩
      go_wp2_with fail
      go_ret3
      exact PTxPost.bad _ HR.out (Ext.refl _)
  · have HR := Lib.hid (ptx_e1 (last := last) g1 z1)
    have hb1 : (e1 != 0) = true := by rw [bne_iff_ne]; exact z1
    clear hx hu hbl hll g1 hl
    go_enter Tryz.func195, Tryz.ntmps195
    go_wp2_with fail
    refine G1.out.mono ?_
    rintro e w1 ⟨rfl, rfl⟩
    go_wp2_with fail
    go_ret3
    exact PTxPost.bad _ HR.out (Ext.refl _)
set_option maxRecDepth 100000 in
theorem compareT_any (A A2 : Option Addr) (n c n2 c2 : Nat) (xs ys : List Nat) (w : World) (hx : Rd .u8 w A n xs) (hy : Rd .u8 w A2 n2 ys) (hu : U8 xs) (hu2 : U8 ys) :
    Calls Tryz.prog 64 #[.slice A n c, .slice A2 n2 c2] w fun e w' => e = .returned (.int .i64 (ordT xs ys)) ∧ w = w' := by
  have Hx := Lib.hid hx
  have Hy := Lib.hid hy
  go_enter Tryz.func64, Tryz.ntmps64
  go_wp2
  rw [run_callFunc_extern Tryz.func103 (by kernel_rfl) (by kernel_rfl) (by kernel_rfl) (e := Extern.BytealgCompare.compare) (by kernel_rfl), run_compare Hx.out Hy.out hu hu2]
  simp only [Result.andThen]
  rw [Oper.upon_value]
  go_wp2
  go_ret
  exact ⟨rfl, rfl⟩
theorem clone10_any (A : Option Addr) (n c : Nat) (bs : List Nat) (w : World) (hx : Rd .u8 w A n bs) (hn : n ≤ 180000000000000) :
    Calls Tryz.prog 100 #[.slice A n c] w fun e w' => ∃ A' c', e = .returned (.slice A' n c') ∧ Own .u8 5 w' w.heap.size A' c' bs ∧ Ext w w' := by
  have Hl := Lib.hid hx.len
  cases A with
  | none =>
    have h0 : n = 0 := by
      rcases Nat.eq_zero_or_pos n with h | h
      · exact h
      · obtain ⟨b, o, he, _⟩ := hx.2 h
        cases he
    subst h0
    have hb : bs = [] := List.eq_nil_of_length_eq_zero Hl.out
    subst hb
    have hq := fun w => Lib.run_eql_slice_nil (P := Tryz.prog) w 22 5 none 0 c 0 0 Tryz.underlying22
    go_enter Tryz.func100, Tryz.ntmps100
    go_wp2
    go_ret
    exact ⟨_, _, rfl, Own.nil .., Ext.refl w⟩
  | some a =>
    have hq := fun w => Lib.run_eql_slice_nil (P := Tryz.prog) w 22 5 (some a) n c 0 0 Tryz.underlying22
    have hown := Own.made (base := w.heap.size) .u8 5 w (Nat.le_refl _)
    have hrd := hx.ext ((Ext.refl w).alloc (.cells #[] 5))
    go_enter Tryz.func100, Tryz.ntmps100
    go_wp2_with (at_builtin; refine wpList_pushes (w0 := w) .u8 5 rfl _ _ 22 rfl _ 1 Tryz.underlying22 Tryz.infoU8 rfl hown 0 rfl rfl rfl hrd (by omega) (by omega) ((Ext.refl w).alloc _) (by simp) ?_; intro A1 c1 w1 hown1 hb1 hz1)
    go_ret
    exact ⟨_, _, rfl, by simpa using hown1, hb1⟩
def cntR (bs : List Nat) (a : Int) : Nat × Int × Int := if (vget bs a).2.2 ≠ 0 then (0, 0, (vget bs a).2.2) else if 4096 < (vget bs a).1 then (0, 0, 4) else ((vget bs a).1, (vget bs a).2.1, 0)
theorem cntR_err {bs : List Nat} {a n e : Int} {k : Nat} (h : vget bs a = (k, n, e)) (he : e ≠ 0) : cntR bs a = (0, 0, e) := by unfold cntR; rw [h]; exact if_pos he
theorem cntR_long {bs : List Nat} {a n : Int} {k : Nat} (h : vget bs a = (k, n, 0)) (hk : 4096 < k) : cntR bs a = (0, 0, 4) := by unfold cntR; rw [h, if_neg (fun q => q rfl), if_pos hk]
theorem cntR_yes {bs : List Nat} {a n : Int} {k : Nat} (h : vget bs a = (k, n, 0)) (hk : k ≤ 4096) : cntR bs a = (k, n, 0) := by unfold cntR; rw [h, if_neg (fun q => q rfl), if_neg (by simp only; omega)]
theorem getCount_any (A : Option Addr) (n c : Nat) (at_ : Int) (bs : List Nat) (w : World) (hx : Rd .u8 w A n bs) (hu : U8 bs) (hn : n ≤ 140737488355328) (hcap : n ≤ c) (hcm : c ≤ 9223372036854775807) :
    Calls Tryz.prog 193 #[.slice A n c, .int .i64 at_] w fun e w' => e = .returned (.tuple #[.int .i64 (cntR bs at_).1, .int .i64 (cntR bs at_).2.1, .int .i64 (cntR bs at_).2.2]) ∧ w' = w := by
  rcases g1 : vget bs at_ with ⟨k, n1, e1⟩
  have G1 := Lib.hid (get_is hx hu hn hcap hcm g1)
  by_cases z1 : e1 = 0
  · subst z1
    obtain ⟨_, _, _, hklt, _⟩ := vget_at hu g1
    by_cases hk : 4096 < k
    · have HR := Lib.hid (cntR_long g1 hk)
      clear hx hu g1
      go_enter Tryz.func193, Tryz.ntmps193
      go_wp2_with fail
      refine G1.out.mono ?_
      rintro e w1 ⟨rfl, rfl⟩
      go_wp2_with fail
      go_ret3
      exact ⟨by rw [HR.out]; rfl, by first | rfl | trivial⟩
    · have HR := Lib.hid (cntR_yes g1 (by omega))
      have hki : IntKind.i64.wrap (k : Int) = (k : Int) := IntWalk.i64_in _ (by omega)
      have hk2 : k ≤ 4096 := by omega
      clear hx hu g1
      go_enter Tryz.func193, Tryz.ntmps193
      go_wp2_with fail
      refine G1.out.mono ?_
      rintro e w1 ⟨rfl, rfl⟩
      go_wp2_with fail
      go_ret3
      exact ⟨by rw [HR.out]; rfl, by first | rfl | trivial⟩
  · have HR := Lib.hid (cntR_err g1 z1)
    have hb1 : (e1 != 0) = true := by rw [bne_iff_ne]; exact z1
    clear hx hu g1
    go_enter Tryz.func193, Tryz.ntmps193
    go_wp2_with fail
    refine G1.out.mono ?_
    rintro e w1 ⟨rfl, rfl⟩
    go_wp2_with fail
    go_ret3
    exact ⟨by rw [HR.out]; rfl, by first | rfl | trivial⟩
def EntPost (R : List Nat × Int × Int) (w0 w : World) (e : Ending) (w' : World) : Prop :=
  ∃ A' c', e = .returned (.tuple #[.slice A' R.1.length c', .int .i64 R.2.1, .int .i64 R.2.2]) ∧ Rd .u8 w0 A' R.1.length R.1 ∧ R.1.length ≤ c' ∧ c' ≤ 9223372036854775807 ∧ w' = w
set_option maxHeartbeats 800000 in
theorem getEntry_any (A : Option Addr) (n c : Nat) (at_ : Int) (bs : List Nat) (w0 w : World) (hx : Rd .u8 w0 A n bs) (hE0 : Ext w0 w) (hu : U8 bs) (hn : n ≤ 140737488355328) (hcap : n ≤ c) (hcm : c ≤ 9223372036854775807) :
    Calls Tryz.prog 209 #[.slice A n c, .int .i64 at_] w (EntPost (dtx bs at_) w0 w) := by
  have hbl := hx.len
  rcases g1 : vget bs at_ with ⟨k, n1, e1⟩
  have G1 := Lib.hid (get_is (hx.ext hE0) hu hn hcap hcm g1)
  by_cases z1 : e1 = 0
  · subst z1
    obtain ⟨a1, a2, a3, hklt, _⟩ := vget_at hu g1
    rw [hbl] at a3
    obtain ⟨m1, rfl⟩ := Int.eq_ofNat_of_zero_le (show 0 ≤ n1 by omega)
    by_cases hk : 200 < k
    · have HR := Lib.hid (dtx_long g1 hk)
      clear hE0 hx hu g1 hbl a1 a2 a3
      go_enter Tryz.func209, Tryz.ntmps209
      go_wp2_with fail
      refine G1.out.mono ?_
      rintro e w1 ⟨rfl, rfl⟩
      go_wp2_with fail
      go_ret3
      exact ⟨none, 0, by rw [HR.out]; rfl, by rw [HR.out]; exact Rd.nil .., by rw [HR.out]; simp, by omega, by first | rfl | trivial⟩
    · have hk2 : k ≤ 200 := by omega
      have hki : IntKind.i64.wrap (k : Int) = (k : Int) := IntWalk.i64_in _ (by omega)
      have hm1 : m1 ≤ n := by omega
      by_cases hs : n < m1 + k
      · have HR := Lib.hid (dtx_short g1 hk2 (by rw [hbl]; omega))
        have hgt : (n : Int) - (m1 : Int) < (k : Int) := by omega
        clear hE0 hx hu g1 hbl a1 a2 a3
        go_enter Tryz.func209, Tryz.ntmps209
        go_wp2_with fail
        refine G1.out.mono ?_
        rintro e w1 ⟨rfl, rfl⟩
        go_wp2_with fail
        go_ret3
        exact ⟨none, 0, by rw [HR.out]; rfl, by rw [HR.out]; exact Rd.nil .., by rw [HR.out]; simp, by omega, by first | rfl | trivial⟩
      · have HR := Lib.hid (dtx_yes g1 hk2 (by rw [hbl]; omega))
        rw [Int.toNat_natCast] at HR
        have hgt : ¬ (n : Int) - (m1 : Int) < (k : Int) := by omega
        obtain ⟨E, hE⟩ : ∃ E, E = m1 + k := ⟨_, rfl⟩
        have hrE : E - m1 = k := by omega
        have sc := run_cut A n c m1 E (by omega) (by omega)
        rw [hrE, show ((E : Nat) : Int) = (m1 : Int) + (k : Int) by omega] at sc
        have hmr : (m1 : Int) + (k : Int) ≤ 140737488355328 := by omega
        have hcr : Rd .u8 w0 (offA A m1 c) k (cut bs m1 k) := by
          have := hx.cut (l := m1) (h := E) (c := c) (by omega) (by omega) hcap
          rw [hrE] at this
          exact this
        have hcl : (cut bs m1 k).length = k := hcr.len
        have hc9 : k ≤ c - m1 := by omega
        obtain ⟨A9, hA9⟩ : ∃ A9, A9 = offA A m1 c := ⟨_, rfl⟩
        rw [← hA9] at sc hcr
        have Hcr := Lib.hid hcr
        have Hcl := Lib.hid hcl
        clear hE0 hx hu g1 hbl a1 a2 a3 hA9 hcr hcl hE hs hrE hm1
        go_enter Tryz.func209, Tryz.ntmps209
        go_wp2_with fail
        refine G1.out.mono ?_
        rintro e w1 ⟨rfl, rfl⟩
        go_wp2_with fail
        go_ret3
        exact ⟨A9, c - m1, by rw [HR.out]; simp only; rw [Hcl.out]; rfl, by rw [HR.out]; simp only; rw [Hcl.out]; exact Hcr.out, by rw [HR.out]; simp only; rw [Hcl.out]; exact hc9, by omega, by first | rfl | trivial⟩
  · have HR := Lib.hid (dtx_err g1 z1)
    have hb1 : (e1 != 0) = true := by rw [bne_iff_ne]; exact z1
    clear hE0 hx hu g1 hbl
    go_enter Tryz.func209, Tryz.ntmps209
    go_wp2_with fail
    refine G1.out.mono ?_
    rintro e w1 ⟨rfl, rfl⟩
    go_wp2_with fail
    go_ret3
    exact ⟨none, 0, by rw [HR.out]; rfl, by rw [HR.out]; exact Rd.nil .., by rw [HR.out]; simp, by omega, by first | rfl | trivial⟩
def entR (bs : List Nat) : List (List Nat) × Int × Int := if (cntR bs 0).2.2 ≠ 0 then ([], 0, (cntR bs 0).2.2) else dnA bs (cntR bs 0).1 (cntR bs 0).2.1 []
structure DEn (w wr : World) (A : Option Addr) (c : Nat) (us : List Sl) : Prop where
  row : OwnT wr w.heap.size A c us
  rd : ∀ s ∈ us, Rd .u8 w s.A s.body.length s.body
  u8 : ∀ s ∈ us, U8 s.body
  len : ∀ s ∈ us, s.body.length ≤ 200
  ext : Ext w wr
def EntsPost (R : List (List Nat) × Int × Int) (w : World) (e : Ending) (w' : World) : Prop :=
  ∃ A' c' us, e = .returned (.tuple #[.slice A' us.length c', .int .i64 R.2.1, .int .i64 R.2.2]) ∧ bodies us = R.1 ∧ DEn w w' A' c' us
theorem EntsPost.bad {w w' : World} (R : List (List Nat) × Int × Int) {E : Int} (h : R = ([], 0, E)) (he : Ext w w') : EntsPost R w (.returned (.tuple #[.slice none 0 0, .int .i64 0, .int .i64 E])) w' := by
  subst h
  exact ⟨none, 0, [], rfl, rfl, OwnG.nil .., fun s hs => (by cases hs), fun s hs => (by cases hs), fun s hs => (by cases hs), he⟩
theorem EntsPost.good {w w' : World} (R : List (List Nat) × Int × Int) {us : List Sl} {A : Option Addr} {m c : Nat} {a : Int} (h : R = (bodies us, a, 0)) (hm : us.length = m) (hd : DEn w w' A c us) : EntsPost R w (.returned (.tuple #[.slice A m c, .int .i64 a, .int .i64 0])) w' := by
  subst h
  subst hm
  exact ⟨A, c, us, rfl, rfl, hd⟩
set_option maxHeartbeats 1600000 in
set_option maxRecDepth 100000 in
theorem getEntries_any (A : Option Addr) (n c : Nat) (bs : List Nat) (w : World) (hx : Rd .u8 w A n bs) (hu : U8 bs) (hn : n ≤ 140737488355328) (hcap : n ≤ c) (hcm : c ≤ 9223372036854775807) :
    Calls Tryz.prog 192 #[.slice A n c] w (EntsPost (entR bs) w) := by
  have hbl := hx.len
  have G1 := getCount_any A n c 0 bs w hx hu hn hcap hcm
  rcases g1 : cntR bs 0 with ⟨k, n1, e1⟩
  rw [g1] at G1
  have HG1 := Lib.hid G1
  clear G1
  by_cases z1 : e1 = 0
  · subst z1
    have hv : vget bs 0 = (k, n1, 0) ∧ k ≤ 4096 := by
      rcases h1 : vget bs 0 with ⟨k', n', e'⟩
      by_cases he : e' = 0
      · subst he
        by_cases hk : 4096 < k'
        · rw [cntR_long h1 hk] at g1; injection g1 with _ g1; injection g1 with _ g1; exact absurd g1 (by decide)
        · rw [cntR_yes h1 (by omega)] at g1
          injection g1 with q1 g1; injection g1 with q2 _
          subst q1 q2
          exact ⟨rfl, by omega⟩
      · rw [cntR_err h1 he] at g1; injection g1 with _ g1; injection g1 with _ g1; exact absurd g1 he
    obtain ⟨a1, a2, a3, _, _⟩ := vget_at hu hv.1
    rw [hbl] at a3
    have hk2 := hv.2
    obtain ⟨m1, rfl⟩ := Int.eq_ofNat_of_zero_le (show 0 ≤ n1 by omega)
    obtain ⟨R, hR⟩ : ∃ R, R = entR bs := ⟨_, rfl⟩
    have HR := Lib.hid (show dnA bs (k - 0) (m1 : Int) (bodies []) = R by rw [hR]; unfold entR; rw [g1]; rfl)
    rw [← hR]
    have Hbl := Lib.hid hbl
    have Hx := Lib.hid hx
    have Hu := Lib.hid hu
    have hm1 : m1 ≤ n := by omega
    clear hR g1 hbl hx hu a1 a2 a3 hv
    go_enter Tryz.func192, Tryz.ntmps192
    go_wp2_with fail
    refine HG1.out.mono ?_
    rintro e w1 ⟨rfl, rfl⟩
    obtain ⟨w, hw⟩ : ∃ w, w = w1 := ⟨_, rfl⟩
    subst hw
    simp only
    go_wp2_with fail
    go_loopw [6, 8, 9, 10, 11, 12, 23] (fun at_ v _ _ _ _ i wr => ∃ (j a : Nat) (us : List Sl) (A' : Option Addr) (c' : Nat), j ≤ k ∧ i = .int .i64 j ∧ a ≤ n ∧ at_ = .int .i64 a ∧ v = .slice A' j c' ∧ Hid (us.length = j) ∧ Hid (dnA bs (k - j) a (bodies us) = R) ∧ Hid (DEn w wr A' c' us)) (fun _ _ _ _ _ _ i _ => k - (intOf i).toNat)
    case atStart => exact ⟨0, m1, [], none, 0, Nat.zero_le _, rfl, hm1, rfl, rfl, rfl, HR.out, ⟨OwnG.nil .., fun s hs => (by cases hs), fun s hs => (by cases hs), fun s hs => (by cases hs), Ext.refl _⟩⟩
    case round =>
      clear HR
      obtain ⟨j, a, us, A', c', hj, rfl, ha, rfl, rfl, Hl, HR, HD⟩ := hrel
      by_cases hlt : j < k
      · obtain ⟨q, hq⟩ : ∃ q, k - j = q + 1 := ⟨k - j - 1, by omega⟩
        have Hq2 := Lib.hid (show k - (j + 1) = q by omega)
        have Hq := Lib.hid hq
        clear hq
        have HG := getEntry_any A n c a bs w wr Hx.out HD.out.ext Hu.out hn hcap hcm
        rcases hg : dtx bs a with ⟨s, m, e⟩
        rw [hg] at HG
        have HGe := Lib.hid HG
        have Hg := Lib.hid hg
        clear HG hg
        by_cases he0 : e = 0
        · subst he0
          obtain ⟨b1, b2, b3, b4, b5, _⟩ := dtx_ok Hu.out Hg.out
          rw [Hbl.out] at b3
          obtain ⟨m', rfl⟩ := Int.eq_ofNat_of_zero_le (show 0 ≤ m by omega)
          have hm' : m' ≤ n := by omega
          have Hb4 := Lib.hid b4
          have Hb5 := Lib.hid b5
          have hbt : (bodies us).length = j := by rw [bodies_len, Hl.out]
          clear b1 b2 b3 b4 b5
          by_cases hj0 : j = 0
          · have Ho := Lib.hid (show ¬ (0 < (bodies us).length ∧ 0 ≤ ordT ((bodies us).getD ((bodies us).length - 1) []) s) from fun h => by have := h.1; omega)
            subst hj0
            go_wp2_with fail
            refine HGe.out.mono ?_
            rintro e' w3 ⟨A3, c3, rfl, hr3, _, _, rfl⟩
            simp only at hr3 ⊢
            have Hr3 := Lib.hid hr3
            clear hr3 hbt
            have HN := Lib.hid (show dnA bs (k - (0 + 1)) (m' : Int) (bodies (us ++ [⟨A3, c3, s⟩])) = R by
              rw [Hq2.out, ← HR.out, Hq.out, dnA_next Hg.out Ho.out]; unfold bodies; rw [List.map_append]; rfl)
            go_wp2_with (at_builtin; refine wpList_pushT (w0 := w) ⟨A3, c3, s⟩ rfl _ _ rfl (HD.out.row.ext ((Ext.refl _).alloc _)) (0) Hl.out rfl rfl (heap_alloc_new _ _) (by omega) (Ext.trans HD.out.ext ((Ext.refl _).alloc _)) (by have := HD.out.ext.size; simp; omega) ?_; intro A4 c4 w4 hown4 _ hb4 _)
            have HD4 := Lib.hid (show DEn w w4 A4 c4 (us ++ [⟨A3, c3, s⟩]) from by
              refine ⟨hown4, fun t ht => ?_, fun t ht => ?_, fun t ht => ?_, hb4⟩
              · rcases List.mem_append.1 ht with h1 | h1
                · exact HD.out.rd t h1
                · simp at h1; subst h1; exact Hr3.out
              · rcases List.mem_append.1 ht with h1 | h1
                · exact HD.out.u8 t h1
                · simp at h1; subst h1; exact Hb5.out
              · rcases List.mem_append.1 ht with h1 | h1
                · exact HD.out.len t h1
                · simp at h1; subst h1; exact Hb4.out)
            clear hown4 hb4
            go_wp2_with fail
            go_roundw
            case rel => exact ⟨0 + 1, m', _, A4, c4, by omega, by go_num, hm', rfl, by go_num, by rw [List.length_append, Hl.out]; rfl, HN.out, HD4.out⟩
            case measure => simp [intOf]; omega
          · obtain ⟨p, rfl⟩ : ∃ p, j = p + 1 := ⟨j - 1, by omega⟩
            obtain ⟨b, o, t, rfl, hf, hc⟩ := HD.out.row.rdL.at_ (j := p) (by rw [Hl.out]; omega)
            have hmt := List.mem_of_getElem? hf
            have hlast : (bodies us).getD ((bodies us).length - 1) [] = t.body := by rw [hbt, Nat.add_sub_cancel, bodies_get hf]
            have hrt := (HD.out.rd t hmt).ext HD.out.ext
            have hut := HD.out.u8 t hmt
            obtain ⟨tA, tc, tb⟩ := t
            simp only at hc hrt hut hlast
            have HC := Lib.hid (fun (A3 : Option Addr) (c3 : Nat) (h3 : Rd .u8 wr A3 s.length s) => compareT_any tA A3 tb.length tc s.length c3 tb s wr hrt h3 hut Hb5.out)
            obtain ⟨tl, htl⟩ : ∃ tl, tl = tb.length := ⟨_, rfl⟩
            rw [← htl] at hc HC
            have ho1 : 0 ≤ ordT tb s → dnA bs (q + 1) a (bodies us) = ([], 0, 5) := fun h => dnA_form Hg.out ⟨by omega, by rw [hlast]; exact h⟩
            have ho2 : ¬ 0 ≤ ordT tb s → ¬ (0 < (bodies us).length ∧ 0 ≤ ordT ((bodies us).getD ((bodies us).length - 1) []) s) := fun h h2 => h (by rw [← hlast]; exact h2.2)
            obtain ⟨r, hr⟩ : ∃ r, r = ordT tb s := ⟨_, rfl⟩
            rw [← hr] at HC ho1 ho2
            clear htl hr hf hmt hrt hut hlast hbt
            by_cases hneg : 0 ≤ r
            · have HE := Lib.hid (show R = ([], 0, 5) by rw [← HR.out, Hq.out, ho1 hneg])
              have d : decide (0 ≤ r) = true := decide_eq_true hneg
              clear ho1 ho2
              go_wp2_with fail
              refine HGe.out.mono ?_
              rintro e' w3 ⟨A3, c3, rfl, hr3, _, _, rfl⟩
              simp only at hr3 ⊢
              have Hr3 := Lib.hid hr3
              clear hr3
              go_wp2_with fail
              refine (HC.out A3 c3 (Hr3.out.ext HD.out.ext)).mono ?_
              rintro e' w4 ⟨rfl, rfl⟩
              go_wp2_with fail
              go_ret3
              exact EntsPost.bad _ HE.out HD.out.ext
            · have Ho := Lib.hid (ho2 hneg)
              have d : decide (0 ≤ r) = false := decide_eq_false hneg
              clear ho1 ho2
              go_wp2_with fail
              refine HGe.out.mono ?_
              rintro e' w3 ⟨A3, c3, rfl, hr3, _, _, rfl⟩
              simp only at hr3 ⊢
              have Hr3 := Lib.hid hr3
              clear hr3
              go_wp2_with fail
              refine (HC.out A3 c3 (Hr3.out.ext HD.out.ext)).mono ?_
              rintro e' w4 ⟨rfl, rfl⟩
              have HN := Lib.hid (show dnA bs (k - (p + 1 + 1)) (m' : Int) (bodies (us ++ [⟨A3, c3, s⟩])) = R by
                rw [Hq2.out, ← HR.out, Hq.out, dnA_next Hg.out Ho.out]; unfold bodies; rw [List.map_append]; rfl)
              go_wp2_with (at_builtin; refine wpList_pushT (w0 := w) ⟨A3, c3, s⟩ rfl _ _ rfl (HD.out.row.ext ((Ext.refl _).alloc _)) (p + 1) Hl.out rfl rfl (heap_alloc_new _ _) (by omega) (Ext.trans HD.out.ext ((Ext.refl _).alloc _)) (by have := HD.out.ext.size; simp; omega) ?_; intro A4 c4 w4 hown4 _ hb4 _)
              have HD4 := Lib.hid (show DEn w w4 A4 c4 (us ++ [⟨A3, c3, s⟩]) from by
                refine ⟨hown4, fun t ht => ?_, fun t ht => ?_, fun t ht => ?_, hb4⟩
                · rcases List.mem_append.1 ht with h1 | h1
                  · exact HD.out.rd t h1
                  · simp at h1; subst h1; exact Hr3.out
                · rcases List.mem_append.1 ht with h1 | h1
                  · exact HD.out.u8 t h1
                  · simp at h1; subst h1; exact Hb5.out
                · rcases List.mem_append.1 ht with h1 | h1
                  · exact HD.out.len t h1
                  · simp at h1; subst h1; exact Hb4.out)
              clear hown4 hb4
              go_wp2_with fail
              go_roundw
              case rel => exact ⟨p + 1 + 1, m', _, A4, c4, by omega, by go_num, hm', rfl, by go_num, by rw [List.length_append, Hl.out]; rfl, HN.out, HD4.out⟩
              case measure => simp [intOf]; omega
        · have hb1 : (e != 0) = true := by rw [bne_iff_ne]; exact he0
          have HE := Lib.hid (show R = ([], 0, e) by rw [← HR.out, Hq.out, dnA_err Hg.out he0])
          go_wp2_with fail
          refine HGe.out.mono ?_
          rintro e' w3 ⟨A3, c3, rfl, _, _, _, rfl⟩
          simp only
          go_wp2_with fail
          go_ret3
          exact EntsPost.bad _ HE.out HD.out.ext
      · obtain rfl : j = k := by omega
        have hR := HR.out
        rw [Nat.sub_self] at hR
        have HE := Lib.hid (show R = (bodies us, (a : Int), 0) by rw [← hR]; rfl)
        clear hR
        go_wp2_with fail
        go_ret3
        exact EntsPost.good _ HE.out Hl.out HD.out
  · have HE := Lib.hid (show entR bs = ([], 0, e1) by unfold entR; rw [g1]; exact if_pos z1)
    have hb1 : (e1 != 0) = true := by rw [bne_iff_ne]; exact z1
    clear hx hu g1 hbl
    go_enter Tryz.func192, Tryz.ntmps192
    go_wp2_with fail
    refine HG1.out.mono ?_
    rintro e w1 ⟨rfl, rfl⟩
    simp only
    go_wp2_with fail
    go_ret3
    exact EntsPost.bad _ HE.out (Ext.refl _)
def pcR (k : Int) (bs : List Nat) (a : Int) : (Int × List Nat) × Int × Int :=
  if numK k then (if (vget bs a).2.2 ≠ 0 then ((0, []), 0, (vget bs a).2.2) else ((unfS ((vget bs a).1 : Int), []), (vget bs a).2.1, 0)) else ((0, (dtx bs a).1), (dtx bs a).2.1, (dtx bs a).2.2)
def PcPost (R : (Int × List Nat) × Int × Int) (w : World) (e : Ending) (w' : World) : Prop :=
  ∃ A' c', e = .returned (.tuple #[.agg #[.bool false, .int .i64 R.1.1, .slice A' R.1.2.length c'], .int .i64 R.2.1, .int .i64 R.2.2]) ∧ Own .u8 5 w' w.heap.size A' c' R.1.2 ∧ Ext w w'
theorem PcPost.bad {w w' : World} (R : (Int × List Nat) × Int × Int) {v n E : Int} (h : R = ((v, []), n, E)) (he : Ext w w') : PcPost R w (.returned (.tuple #[.agg #[.bool false, .int .i64 v, .slice none 0 0], .int .i64 n, .int .i64 E])) w' := by
  subst h
  exact ⟨none, 0, rfl, Own.nil .., he⟩
set_option maxHeartbeats 4000000 in
theorem getPlainCell_any (k : Int) (A : Option Addr) (n c a : Nat) (bs : List Nat) (w : World) (hx : Rd .u8 w A n bs) (hu : U8 bs) (hn : n ≤ 140737488355328) (_ha : a ≤ n) (hcap : n ≤ c) (hcm : c ≤ 9223372036854775807) :
    Calls Tryz.prog 155 #[.int .i64 k, .slice A n c, .int .i64 (a : Int)] w (PcPost (pcR k bs a) w) := by
  have hbl := hx.len
  have hE : Ext w (w.alloc (.cells #[.bool false, .int .i64 0, .slice none 0 0] 61)) := (Ext.refl w).alloc _
  have hP := pcR.eq_1 k bs a
  obtain ⟨B, hB⟩ : ∃ B, B = numK k := ⟨_, rfl⟩
  have hnum := fun W => number_any k W
  rw [← hB] at hnum hP
  have HN := Lib.hid hnum
  rcases hg : vget bs (a : Int) with ⟨u, nx, e⟩
  have G1 := Lib.hid (get_is (hx.ext hE) hu hn hcap hcm hg)
  by_cases he0 : e = 0
  · subst he0
    obtain ⟨_, hv1, hv2, hu64, _⟩ := vget_at hu hg
    obtain ⟨m, rfl⟩ := Int.eq_ofNat_of_zero_le (show 0 ≤ nx by omega)
    have hmn : m ≤ n := by omega
    cases B with
    | true =>
      have hP2 : pcR k bs a = ((unfS (u : Int), []), (m : Int), 0) := by rw [hP, if_pos rfl, hg]; rfl
      have HP := Lib.hid hP2
      have HF := Lib.hid (fun W => unfold_any (u : Int) W (by omega) (by omega))
      obtain ⟨v, hv⟩ : ∃ v, v = unfS (u : Int) := ⟨_, rfl⟩
      rw [← hv] at HP HF
      clear hx hu hP hP2 hB hnum hg hbl hv hv1 hv2 hu64
      go_enter Tryz.func155, Tryz.ntmps155
      go_wp2_with fail
      refine G1.out.mono ?_
      rintro e w1 ⟨rfl, rfl⟩
      go_wp2_with fail
      refine (HN.out _).mono ?_
      rintro e w1 ⟨rfl, rfl⟩
      go_wp2_with fail
      refine (HF.out _).mono ?_
      rintro e w1 ⟨rfl, rfl⟩
      go_wp2
      refine bodyPost_ret (v := .tuple #[.agg #[.bool false, .int .i64 v, .slice none 0 0], .int .i64 (m : Int), .int .i64 0]) (by simp [results, Tryz.results155, go_sem]) rfl ?_
      exact PcPost.bad _ HP.out ((Ext.refl w).alloc _)
    | false =>
      have hP2 : pcR k bs a = ((0, (dtx bs a).1), (dtx bs a).2.1, (dtx bs a).2.2) := by rw [hP, if_neg (by decide)]
      by_cases hlong : 200 < u
      · have HP := Lib.hid (by rw [dtx_long hg hlong] at hP2; exact hP2)
        have hI : (200 : Int) < (u : Int) := by omega
        clear hx hu hP hP2 hB hnum hg hbl hv1 hv2 hu64
        go_enter Tryz.func155, Tryz.ntmps155
        go_wp2_with fail
        refine G1.out.mono ?_
        rintro e w1 ⟨rfl, rfl⟩
        go_wp2_with fail
        refine (HN.out _).mono ?_
        rintro e w1 ⟨rfl, rfl⟩
        go_wp2
        refine bodyPost_ret (v := .tuple #[.agg #[.bool false, .int .i64 0, .slice none 0 0], .int .i64 0, .int .i64 4]) (by simp [results, Tryz.results155, go_sem]) rfl ?_
        exact PcPost.bad _ HP.out ((Ext.refl w).alloc _)
      · have hki : IntKind.i64.wrap (u : Int) = (u : Int) := IntWalk.i64_in _ (by omega)
        have hu200 : u ≤ 200 := by omega
        have hI : ¬ (200 : Int) < (u : Int) := by omega
        by_cases hshort : n < m + u
        · have HP := Lib.hid (by rw [dtx_short hg hu200 (by rw [hbl]; omega)] at hP2; exact hP2)
          have hgt : (n : Int) - (m : Int) < (u : Int) := by omega
          clear hx hu hP hP2 hB hnum hg hbl hv1 hv2 hu64 hlong
          go_enter Tryz.func155, Tryz.ntmps155
          go_wp2_with fail
          refine G1.out.mono ?_
          rintro e w1 ⟨rfl, rfl⟩
          go_wp2_with fail
          refine (HN.out _).mono ?_
          rintro e w1 ⟨rfl, rfl⟩
          go_wp2
          refine bodyPost_ret (v := .tuple #[.agg #[.bool false, .int .i64 0, .slice none 0 0], .int .i64 0, .int .i64 2]) (by simp [results, Tryz.results155, go_sem]) rfl ?_
          exact PcPost.bad _ HP.out ((Ext.refl w).alloc _)
        · have HP := Lib.hid (by rw [dtx_yes hg hu200 (by rw [hbl]; omega)] at hP2; exact hP2)
          rw [Int.toNat_natCast] at HP
          have hgt : ¬ (n : Int) - (m : Int) < (u : Int) := by omega
          have sc := run_cut A n c m (m + u) (by omega) (by omega)
          rw [show m + u - m = u by omega] at sc
          have sc2 : ∀ W : World, (Instr.slice 22 (.slice A n c) (some (.int .i64 (m : Int))) (some (.int .i64 ((m : Int) + (u : Int)))) none).run Tryz.prog W = .ok (.slice (offA A m c) u (c - m : Nat)) W := sc
          have hcr : Rd .u8 w (offA A m c) u (cut bs m u) := by
            have := hx.cut (l := m) (h := m + u) (c := c) (by omega) (by omega) hcap
            rw [show m + u - m = u by omega] at this
            exact this
          have hcl : (cut bs m u).length = u := hcr.len
          obtain ⟨t, ht⟩ : ∃ t, t = cut bs m u := ⟨_, rfl⟩
          obtain ⟨A9, hA9⟩ : ∃ A9, A9 = offA A m c := ⟨_, rfl⟩
          rw [← ht] at hcr hcl HP
          rw [← hA9] at sc2 hcr
          have HC := Lib.hid (fun W (hW : Ext w W) => clone10_any A9 u (c - m) t W (hcr.ext hW) (by omega))
          have Hcl := Lib.hid hcl
          clear hx hu hP hP2 hB hnum hg hbl hv1 hv2 hu64 hlong hcr hcl ht hA9 sc
          go_enter Tryz.func155, Tryz.ntmps155
          go_wp2_with fail
          refine G1.out.mono ?_
          rintro e w1 ⟨rfl, rfl⟩
          go_wp2_with fail
          refine (HN.out _).mono ?_
          rintro e w1 ⟨rfl, rfl⟩
          go_wp2_with fail
          refine (HC.out _ hE).mono ?_
          rintro e w2 ⟨A2, c2, rfl, ho2, he2⟩
          have HK := Lib.hid (Ext.kept he2)
          have hE2 := hE.trans he2
          go_wp2_with (refine wpList_store_cell rfl (.tmp 6) (.tmp 49) rfl w.heap.size (.bool false) (.int .i64 0) (.slice A2 u c2) rfl rfl HK.out rfl rfl rfl ?_)
          apply bodyPost_ret
          · exact results_cell3 rfl _ _ w.heap.size 61 #[.bool false, .int .i64 0, .slice A2 u c2] (0, 0) _ rfl (setRow_heap w2 w.heap.size _ _ 61 (0, 0) HK.out) Tryz.underlying61 rfl (by kernel_rfl)
          · rfl
          rw [HP.out]
          refine ⟨A2, c2, by simp only; rw [Hcl.out]; rfl, ?_, hE2.setRow (Nat.le_refl _) _⟩
          exact (ho2.far (grown_setRow w2 w.heap.size #[.bool false, .int .i64 0, .slice A2 u c2]) (by simp)).mono (base' := w.heap.size) (by simp)
  · have HP := Lib.hid (show pcR k bs a = ((0, []), 0, e) by
      rw [hP]
      split
      · rw [hg]; simp only; rw [if_pos he0]
      · rw [dtx_err hg he0])
    have hb1 : (e != 0) = true := by rw [bne_iff_ne]; exact he0
    clear hx hu hP hB hnum hg hbl
    go_enter Tryz.func155, Tryz.ntmps155
    go_wp2_with fail
    refine G1.out.mono ?_
    rintro e w1 ⟨rfl, rfl⟩
    go_wp2
    refine bodyPost_ret (v := .tuple #[.agg #[.bool false, .int .i64 0, .slice none 0 0], .int .i64 0, .int .i64 e]) (by simp [results, Tryz.results155, go_sem]) rfl ?_
    exact PcPost.bad _ HP.out ((Ext.refl w).alloc _)
abbrev Cv := Bool × Int × List Nat
theorem pcR_at {k : Int} {bs : List Nat} {a : Int} (hu : U8 bs) (h : (pcR k bs a).2.2 = 0) : 0 ≤ (pcR k bs a).2.1 ∧ (pcR k bs a).2.1 ≤ bs.length := by
  unfold pcR at h ⊢
  split at h
  · rename_i hk
    rw [if_pos hk]
    split at h
    · rename_i h2; exact absurd h h2
    · rename_i h2
      rw [if_neg h2]
      rcases hg : vget bs a with ⟨u, nx, e⟩
      rw [hg] at h2
      obtain rfl : e = 0 := by simpa using h2
      obtain ⟨_, hv1, hv2, _, _⟩ := vget_at hu hg
      simp only
      omega
  · rename_i hk
    rw [if_neg hk]
    have := dtx_ok (s := (dtx bs a).1) (n := (dtx bs a).2.1) hu (by simp only at h; rw [← h])
    simp only
    omega
def plA (k : Int) (bs : List Nat) : Nat → Int → List Cv → List Cv × Int × Int
  | 0, a, acc => (acc, a, 0)
  | n + 1, a, acc => if (pcR k bs a).2.2 ≠ 0 then ([], 0, (pcR k bs a).2.2) else plA k bs n (pcR k bs a).2.1 (acc ++ [(false, (pcR k bs a).1.1, (pcR k bs a).1.2)])
def gplR (k : Int) (bs : List Nat) (n : Nat) : List Cv × Int :=
  if (plA k bs n 0 []).2.2 ≠ 0 then ([], (plA k bs n 0 []).2.2) else if (plA k bs n 0 []).2.1 < bs.length then ([], 3) else ((plA k bs n 0 []).1, 0)
def GcPost (R : List Cv × Int) (w : World) (e : Ending) (w' : World) : Prop :=
  ∃ fs A' c', e = .returned (.tuple #[.slice A' R.1.length c', .int .i64 R.2]) ∧ fs.map Ci.val = R.1 ∧ OwnX w' w.heap.size A' c' fs ∧ TxtX w' w.heap.size fs ∧ Ext w w'
theorem GcPost.bad {w w' : World} (R : List Cv × Int) {E : Int} (h : R = ([], E)) (he : Ext w w') : GcPost R w (.returned (.tuple #[.slice none 0 0, .int .i64 E])) w' := by
  subst h
  exact ⟨[], none, 0, rfl, rfl, OwnX.nil .., TxtX.nil .., he⟩
set_option maxHeartbeats 4000000 in
theorem getPlain_any (k : Int) (A : Option Addr) (l c n : Nat) (bs : List Nat) (w : World) (hx : Rd .u8 w A l bs) (hu : U8 bs) (hl : l ≤ 140737488355328) (hn : n ≤ 4096) (hcap : l ≤ c) (hcm : c ≤ 9223372036854775807) :
    Calls Tryz.prog 119 #[.int .i64 k, .slice A l c, .int .i64 (n : Int)] w (GcPost (gplR k bs n) w) := by
  have hP := Lib.hid (fun (a : Nat) (h : a ≤ l) W (hW : Ext w W) => getPlainCell_any k A l c a bs W (hx.ext hW) hu hl h hcap hcm)
  have HA := Lib.hid (fun (a : Nat) => pcR_at (k := k) (a := (a : Int)) hu)
  have hbl := hx.len
  rw [hbl] at HA
  have hR := gplR.eq_1 k bs n
  rw [hbl] at hR
  obtain ⟨R, hRR⟩ : ∃ R, R = plA k bs n 0 [] := ⟨_, rfl⟩
  rw [← hRR] at hR
  have HR := Lib.hid hR
  have HS : Hid (plA k bs (n - 0) ((0 : Nat) : Int) (([] : List Ci).map Ci.val) = R) := Lib.hid (by rw [hRR]; rfl)
  have Hst := Lib.hid (fun (q : Nat) (a : Int) (acc : List Cv) => plA.eq_2 k bs a acc q)
  clear hx hu hbl hR hRR
  go_enter Tryz.func119, Tryz.ntmps119
  go_wp2_with fail
  go_loopw [8, 9, 14] (fun v y i wr => ∃ (j a : Nat) (A' : Option Addr) (c' : Nat) (fs : List Ci), j ≤ n ∧ a ≤ l ∧ i = .int .i64 (j : Int) ∧ y = .int .i64 (a : Int) ∧ v = .slice A' j c' ∧ Hid (fs.length = j) ∧ OwnX wr w.heap.size A' c' fs ∧ TxtX wr w.heap.size fs ∧ Below w.heap.size w wr ∧ Hid (plA k bs (n - j) (a : Int) (fs.map Ci.val) = R)) (fun _ _ i _ => n - (intOf i).toNat)
  case atStart => exact ⟨0, 0, none, 0, [], Nat.zero_le _, Nat.zero_le _, rfl, rfl, rfl, Lib.hid rfl, OwnX.nil _ _, TxtX.nil _ _, Ext.refl _, HS⟩
  case round =>
    obtain ⟨j, a, A', c', fs, hj, haa, rfl, rfl, rfl, Hfl, hown, htx, hb, HB⟩ := hrel
    have hz := hb.size
    by_cases hlt : j < n
    · have Hp := Lib.hid (hP.out a haa wr hb)
      have hat := HA.out a
      have hB := HB.out
      rw [show n - j = (n - (j + 1)) + 1 by omega, Hst.out] at hB
      obtain ⟨P, hPP⟩ : ∃ P, P = pcR k bs (a : Int) := ⟨_, rfl⟩
      rw [← hPP] at Hp hat hB
      obtain ⟨⟨v, t⟩, nx, er⟩ := P
      simp only at hat hB
      clear hPP HB
      by_cases he : er = 0
      · subst he
        obtain ⟨hn0, hn1⟩ := hat rfl
        obtain ⟨m, rfl⟩ := Int.eq_ofNat_of_zero_le hn0
        rw [if_neg (fun h => h rfl)] at hB
        have HB2 := Lib.hid hB
        obtain ⟨q, hq⟩ : ∃ q, q = t.length := ⟨_, rfl⟩
        have Hq := Lib.hid hq
        have hml : m ≤ l := by omega
        clear hB hat hq hn0 hn1
        go_wp2_with fail
        refine Hp.out.mono ?_
        rintro e w1 ⟨A1, c1, rfl, hown1, he1⟩
        simp only [← Hq.out]
        have hE1 : Below w.heap.size w w1 := Ext.trans hb he1
        have hown2 := hown.ext he1
        have htx2 := htx.ext he1
        have hlow : ∀ g ∈ fs, ∀ p, g.A = some p → p.block < wr.heap.size := fun g hg p hp => ((htx.1 g hg).block p hp).2
        have hsz1 := he1.size
        have HE1 := Lib.hid hE1
        have hX : Ext w1 ((w1.alloc (.cells #[.bool false, .int .i64 v, .slice A1 q c1] 61)).alloc (.cells #[.bool false, .int .i64 v, .slice A1 q c1] 61)) := ((Ext.refl w1).alloc _).alloc _
        have hown3 := hown2.ext hX
        go_wp2_with (at_builtin; refine wpList_pushX (w0 := w) ⟨false, v, A1, c1, t⟩ rfl _ _ rfl hown3 j Hfl.out rfl rfl ?_ (by omega) (Ext.trans hE1 hX) (by simp; omega) ?_; (focus (rw [← Hq.out]; exact heap_at (by simp))); intro A3 c3 w3 hown4 hgr hb3 hz3)
        have htx3 : TxtX w3 w.heap.size (fs ++ [⟨false, v, A1, c1, t⟩]) := TxtX.grown (base' := w.heap.size) (TxtX.snoc (htx2.ext hX) (hown1.ext hX) hz hlow) hown3 hgr
        go_roundw
        case rel => exact ⟨j + 1, m, A3, c3, _, hlt, hml, by go_num, rfl, rfl, Lib.hid (by rw [List.length_append, Hfl.out]; rfl), hown4, htx3, hb3, Lib.hid (by rw [List.map_append]; exact HB2.out)⟩
        case measure => simp [intOf]; omega
      · have heb : (er == 0) = false := beq_eq_false_iff_ne.2 he
        rw [if_pos he] at hB
        have HR2 := Lib.hid (show gplR k bs n = ([], er) by rw [HR.out, ← hB]; exact if_pos he)
        clear hB hat he
        go_wp2_with fail
        refine Hp.out.mono ?_
        rintro e w1 ⟨A1, c1, rfl, hown1, he1⟩
        have hE1 : Below w.heap.size w w1 := Ext.trans hb he1
        go_wp2_with fail
        go_ret2
        exact GcPost.bad _ HR2.out (Ext.alloc hE1 _)
    · obtain rfl : j = n := by omega
      have hB := HB.out
      rw [Nat.sub_self] at hB
      have hB2 : R = (fs.map Ci.val, (a : Int), 0) := hB.symm
      have hR3 : gplR k bs j = if (a : Int) < (l : Int) then ([], 3) else (fs.map Ci.val, 0) := by rw [HR.out, hB2]; exact if_neg (fun h => h rfl)
      clear hB hB2 HB
      by_cases hal : a < l
      · have HR3 := Lib.hid (hR3.trans (if_pos (by omega)))
        have hI : (a : Int) < (l : Int) := by omega
        clear hR3
        go_wp2
        go_ret2
        exact GcPost.bad _ HR3.out hb
      · have HR3 := Lib.hid (hR3.trans (if_neg (by omega)))
        have hI : ¬ (a : Int) < (l : Int) := by omega
        clear hR3
        go_wp2
        go_ret2
        rw [HR3.out]
        exact ⟨fs, A', c', by rw [List.length_map, Hfl.out]; rfl, rfl, hown, htx, hb⟩
def tellF (vs : List Int) (v : Int) (k : Nat) : List Int × Int := if vs.getLast? = some v then ([], 5) else if 4096 - (vs.length : Int) < k then ([], 4) else (vs ++ List.replicate k v, 0)
def TellPost (R : List Int × Int) (base : Nat) (w : World) (e : Ending) (w' : World) : Prop :=
  ∃ A' c', e = .returned (.tuple #[.slice A' R.1.length c', .int .i64 R.2]) ∧ OwnG shZ 2 w' base A' c' R.1 ∧ Below base w w' ∧ base ≤ w'.heap.size
theorem last_getD {vs : List Int} {m : Nat} (h : vs.length = m + 1) : vs.getLast? = some (vs.getD m 0) := by
  rw [List.getLast?_eq_getElem?, h, Nat.add_sub_cancel, List.getD, List.getElem?_eq_getElem (by omega)]; rfl
set_option maxHeartbeats 800000 in
theorem tell_last (A : Option Addr) (m c base : Nat) (vs : List Int) (v : Int) (k : Nat) (w : World) (hown : OwnG shZ 2 w base A c vs) (hn : vs.length = m + 1) (hn4 : m + 1 ≤ 4096) (hz : base ≤ w.heap.size) (hv : vs.getD m 0 = v) :
    Calls Tryz.prog 207 #[.slice A (m + 1) c, .int .i64 v, .int .u64 k] w (TellPost ([], 5) base w) := by
  obtain ⟨b, o, rfl, hbl, hc⟩ := (hown.rd' hn).atZ (j := m) (by omega)
  rw [hv] at hc
  clear hn hown hv
  go_enter Tryz.func207, Tryz.ntmps207
  go_wp2_with fail
  go_ret2
  exact ⟨none, 0, rfl, OwnG.nil _ _ _ _, Below.refl _ _, hz⟩
set_option maxHeartbeats 800000 in
theorem tell_long (A : Option Addr) (m c base : Nat) (vs : List Int) (v : Int) (k : Nat) (w : World) (hown : OwnG shZ 2 w base A c vs) (hn : vs.length = m + 1) (hn4 : m + 1 ≤ 4096) (hz : base ≤ w.heap.size) (hv : vs.getD m 0 ≠ v) (hk : 4096 - ((m : Int) + 1) < k) :
    Calls Tryz.prog 207 #[.slice A (m + 1) c, .int .i64 v, .int .u64 k] w (TellPost ([], 4) base w) := by
  obtain ⟨b, o, rfl, hbl, hc⟩ := (hown.rd' hn).atZ (j := m) (by omega)
  obtain ⟨x, hx⟩ : ∃ x, x = vs.getD m 0 := ⟨_, rfl⟩
  rw [← hx] at hc hv
  have hne : (x == v) = false := by simpa using hv
  have hw : IntKind.u64.wrap (4096 - ((m : Int) + 1)) = 4096 - ((m : Int) + 1) := IntWalk.u64_in _ (by omega)
  clear hn hown hv hx
  go_enter Tryz.func207, Tryz.ntmps207
  go_wp2_with fail
  go_ret2
  exact ⟨none, 0, rfl, OwnG.nil _ _ _ _, Below.refl _ _, hz⟩
set_option maxHeartbeats 800000 in
theorem tell_long0 (A : Option Addr) (c base : Nat) (v : Int) (k : Nat) (w : World) (hz : base ≤ w.heap.size) (hk : (4096 : Int) < k) :
    Calls Tryz.prog 207 #[.slice A 0 c, .int .i64 v, .int .u64 k] w (TellPost ([], 4) base w) := by
  go_enter Tryz.func207, Tryz.ntmps207
  go_wp2_with fail
  go_ret2
  exact ⟨none, 0, rfl, OwnG.nil _ _ _ _, Below.refl _ _, hz⟩
set_option maxHeartbeats 1600000 in
theorem tell_go (A : Option Addr) (m c base : Nat) (vs : List Int) (v : Int) (k : Nat) (w : World) (hown : OwnG shZ 2 w base A c vs) (hn : vs.length = m + 1) (hn4 : m + 1 ≤ 4096) (hz : base ≤ w.heap.size) (hv : vs.getD m 0 ≠ v) (hk : (k : Int) ≤ 4096 - ((m : Int) + 1)) :
    Calls Tryz.prog 207 #[.slice A (m + 1) c, .int .i64 v, .int .u64 k] w (TellPost (vs ++ List.replicate k v, 0) base w) := by
  have Hn := Lib.hid hn
  have HO := Lib.hid hown
  obtain ⟨b, o, rfl, hbl, hc⟩ := (hown.rd' hn).atZ (j := m) (by omega)
  obtain ⟨x, hx⟩ : ∃ x, x = vs.getD m 0 := ⟨_, rfl⟩
  rw [← hx] at hc hv
  have hne : (x == v) = false := by simpa using hv
  have hw : IntKind.u64.wrap (4096 - ((m : Int) + 1)) = 4096 - ((m : Int) + 1) := IntWalk.u64_in _ (by omega)
  have hd : decide (4096 - ((m : Int) + 1) < (k : Int)) = false := decide_eq_false (by omega)
  clear hn hown hv hx
  go_enter Tryz.func207, Tryz.ntmps207
  go_wp2_with fail
  go_loopw [0, 28] (fun y i wr => ∃ (j : Nat) (A' : Option Addr) (c' : Nat), j ≤ k ∧ i = .int .u64 j ∧ y = .slice A' (m + 1 + j : Nat) c' ∧ OwnG shZ 2 wr base A' c' (vs ++ List.replicate j v) ∧ Below base w wr ∧ base ≤ wr.heap.size) (fun _ i _ => k - (intOf i).toNat)
  case atStart => exact ⟨0, _, _, Nat.zero_le _, rfl, rfl, by simpa using HO.out, Below.refl _ _, hz⟩
  case round =>
    obtain ⟨j, A', c', hj, rfl, rfl, hown, hb, hz2⟩ := hrel
    have Hb := Lib.hid hb
    by_cases hlt : j < k
    · have hl : (vs ++ List.replicate j v).length = m + 1 + j := by rw [List.length_append, List.length_replicate, Hn.out]
      have Hl := Lib.hid hl
      have Ho := Lib.hid hown
      have hu1 : IntKind.u64.wrap ((j : Int) + 1) = (j : Int) + 1 := IntWalk.u64_in _ (by omega)
      clear hl hown hb
      go_wp2_with (at_builtin; refine wpList_pushG (w0 := w) (base := base) shZ v 2 rfl _ _ 115 rfl _ 8 Tryz.underlying115 Tryz.infoI64 rfl (by decide) (Ho.out.ext ((Ext.refl _).alloc _)) (m + 1 + j) Hl.out rfl rfl (heap_alloc_new _ _) (by omega) (by omega) (Below.alloc Hb.out hz2 _) (by simp; omega) ?_; intro A1 c1 w1 hown1 _ hb1 hz1)
      go_roundw
      case rel => exact ⟨j + 1, A1, c1, by omega, by go_num, (by first | rfl | (congr 1; omega)), by rw [List.replicate_succ', ← List.append_assoc]; exact hown1, hb1, hz1⟩
      case measure => simp [intOf]; omega
    · obtain rfl : j = k := by omega
      go_wp2_with fail
      go_ret2
      refine ⟨A', c', ?_, hown, hb, hz2⟩
      show _ = Ending.returned (.tuple #[.slice A' (vs ++ List.replicate j v).length c', .int .i64 0])
      rw [List.length_append, List.length_replicate, Hn.out]
      rfl
set_option maxHeartbeats 1600000 in
theorem tell_go0 (A : Option Addr) (c base : Nat) (vs : List Int) (v : Int) (k : Nat) (w : World) (hown : OwnG shZ 2 w base A c vs) (hn : vs.length = 0) (hz : base ≤ w.heap.size) (hk : (k : Int) ≤ 4096) :
    Calls Tryz.prog 207 #[.slice A 0 c, .int .i64 v, .int .u64 k] w (TellPost (vs ++ List.replicate k v, 0) base w) := by
  have Hn := Lib.hid hn
  have HO := Lib.hid hown
  have hd : decide ((4096 : Int) < (k : Int)) = false := decide_eq_false (by omega)
  clear hn hown
  go_enter Tryz.func207, Tryz.ntmps207
  go_wp2_with fail
  go_loopw [0, 28] (fun y i wr => ∃ (j : Nat) (A' : Option Addr) (c' : Nat), j ≤ k ∧ i = .int .u64 j ∧ y = .slice A' (0 + j : Nat) c' ∧ OwnG shZ 2 wr base A' c' (vs ++ List.replicate j v) ∧ Below base w wr ∧ base ≤ wr.heap.size) (fun _ i _ => k - (intOf i).toNat)
  case atStart => exact ⟨0, _, _, Nat.zero_le _, rfl, rfl, by simpa using HO.out, Below.refl _ _, hz⟩
  case round =>
    obtain ⟨j, A', c', hj, rfl, rfl, hown, hb, hz2⟩ := hrel
    have Hb := Lib.hid hb
    by_cases hlt : j < k
    · have hl : (vs ++ List.replicate j v).length = 0 + j := by rw [List.length_append, List.length_replicate, Hn.out]
      have Hl := Lib.hid hl
      have Ho := Lib.hid hown
      have hu1 : IntKind.u64.wrap ((j : Int) + 1) = (j : Int) + 1 := IntWalk.u64_in _ (by omega)
      clear hl hown hb
      go_wp2_with (at_builtin; refine wpList_pushG (w0 := w) (base := base) shZ v 2 rfl _ _ 115 rfl _ 8 Tryz.underlying115 Tryz.infoI64 rfl (by decide) (Ho.out.ext ((Ext.refl _).alloc _)) (0 + j) Hl.out rfl rfl (heap_alloc_new _ _) (by omega) (by omega) (Below.alloc Hb.out hz2 _) (by simp; omega) ?_; intro A1 c1 w1 hown1 _ hb1 hz1)
      go_roundw
      case rel => exact ⟨j + 1, A1, c1, by omega, by go_num, (by first | rfl | (congr 1; omega)), by rw [List.replicate_succ', ← List.append_assoc]; exact hown1, hb1, hz1⟩
      case measure => simp [intOf]; omega
    · obtain rfl : j = k := by omega
      go_wp2_with fail
      go_ret2
      refine ⟨A', c', ?_, hown, hb, hz2⟩
      show _ = Ending.returned (.tuple #[.slice A' (vs ++ List.replicate j v).length c', .int .i64 0])
      rw [List.length_append, List.length_replicate, Hn.out]
      rfl
theorem tell_any (A : Option Addr) (n c base : Nat) (vs : List Int) (v : Int) (k : Nat) (w : World) (hown : OwnG shZ 2 w base A c vs) (hn : vs.length = n) (hn4 : n ≤ 4096) (hz : base ≤ w.heap.size) :
    Calls Tryz.prog 207 #[.slice A n c, .int .i64 v, .int .u64 k] w (TellPost (tellF vs v k) base w) := by
  rcases Nat.eq_zero_or_pos n with rfl | hp
  · obtain rfl : vs = [] := List.eq_nil_of_length_eq_zero hn
    unfold tellF
    rw [if_neg (by simp)]
    by_cases hbig : 4096 - (([] : List Int).length : Int) < k
    · rw [if_pos hbig]; exact tell_long0 A c base v k w hz (by simpa using hbig)
    · rw [if_neg hbig]; exact tell_go0 A c base [] v k w hown hn hz (by simp at hbig; omega)
  · obtain ⟨m, rfl⟩ : ∃ m, n = m + 1 := ⟨n - 1, by omega⟩
    unfold tellF
    rw [last_getD hn]
    by_cases hv : vs.getD m 0 = v
    · rw [if_pos (by rw [hv])]; exact tell_last A m c base vs v k w hown hn hn4 hz hv
    · rw [if_neg (by intro h; injection h with h; exact hv h), hn]
      by_cases hbig : 4096 - ((m + 1 : Nat) : Int) < k
      · rw [if_pos hbig]; exact tell_long A m c base vs v k w hown hn hn4 hz hv (by omega)
      · rw [if_neg hbig]; exact tell_go A m c base vs v k w hown hn hn4 hz hv (by omega)
def JoinPost (R : List Int × Int) (w : World) (e : Ending) (w' : World) : Prop :=
  ∃ A' c', e = .returned (.tuple #[.slice A' R.1.length c', .int .i64 R.2]) ∧ OwnG shZ 2 w' w.heap.size A' c' R.1 ∧ Ext w w'
theorem tellF_len {vs : List Int} {v : Int} {k : Nat} (_h : vs.length ≤ 4096) : (tellF vs v k).1.length ≤ 4096 := by
  unfold tellF
  split
  · simp
  · split
    · simp
    · rw [List.length_append, List.length_replicate]; omega
def decS (bs : List Nat) (vs : List Int) (a : Int) : List Int × Int × Int :=
  if (vget bs a).2.2 ≠ 0 then ([], 0, (vget bs a).2.2) else
  if (vget bs (vget bs a).2.1).2.2 ≠ 0 then ([], 0, (vget bs (vget bs a).2.1).2.2) else
  if (vget bs (vget bs a).2.1).1 = 0 then ([], 0, 5) else
  if (tellF vs (unfS (vget bs a).1) (vget bs (vget bs a).2.1).1).2 ≠ 0 then ([], 0, (tellF vs (unfS (vget bs a).1) (vget bs (vget bs a).2.1).1).2) else
  ((tellF vs (unfS (vget bs a).1) (vget bs (vget bs a).2.1).1).1, (vget bs (vget bs a).2.1).2.1, 0)
theorem decR_step (bs : List Nat) (m : Nat) (vs : List Int) (a : Int) : decR bs (m + 1) vs a = if (decS bs vs a).2.2 = 0 then decR bs m (decS bs vs a).1 (decS bs vs a).2.1 else ([], (decS bs vs a).2.2) := by
  rw [decR]
  unfold decS
  by_cases h1 : (vget bs a).2.2 ≠ 0
  · rw [if_pos h1, if_pos h1, if_neg h1]
  rw [if_neg h1, if_neg h1]
  by_cases h2 : (vget bs (vget bs a).2.1).2.2 ≠ 0
  · rw [if_pos h2, if_pos h2, if_neg h2]
  rw [if_neg h2, if_neg h2]
  by_cases h3 : (vget bs (vget bs a).2.1).1 = 0
  · rw [if_pos (.inl h3), if_pos h3, if_neg (by simp)]
  rw [if_neg h3]
  by_cases h4 : vs.getLast? = some (unfS (vget bs a).1)
  · have e : tellF vs (unfS (vget bs a).1) (vget bs (vget bs a).2.1).1 = ([], 5) := if_pos h4
    rw [if_pos (.inr h4), e]
    simp
  rw [if_neg (by rintro (h | h); exact h3 h; exact h4 h)]
  by_cases h5 : 4096 - (vs.length : Int) < (vget bs (vget bs a).2.1).1
  · have e : tellF vs (unfS (vget bs a).1) (vget bs (vget bs a).2.1).1 = ([], 4) := by unfold tellF; rw [if_neg h4, if_pos h5]
    rw [if_pos h5, e]
    simp
  · have e : tellF vs (unfS (vget bs a).1) (vget bs (vget bs a).2.1).1 = (vs ++ List.replicate (vget bs (vget bs a).2.1).1 (unfS (vget bs a).1), 0) := by unfold tellF; rw [if_neg h4, if_neg h5]
    rw [if_neg h5, e]
    simp
theorem decS_len {bs : List Nat} {vs : List Int} {a : Int} (h : vs.length ≤ 4096) : (decS bs vs a).1.length ≤ 4096 := by
  unfold decS
  repeat' split
  all_goals first | exact tellF_len h | simp
def DSPost (R : List Int × Int × Int) (base : Nat) (w : World) (e : Ending) (w' : World) : Prop :=
  ∃ A' c', e = .returned (.tuple #[.slice A' R.1.length c', .int .i64 R.2.1, .int .i64 R.2.2]) ∧ OwnG shZ 2 w' base A' c' R.1 ∧ Below base w w' ∧ base ≤ w'.heap.size
set_option maxHeartbeats 3200000 in
theorem decodeRun_any (B : Option Addr) (nb cb : Nat) (bs : List Nat) (A : Option Addr) (n c base : Nat) (vs : List Int) (a : Int) (w : World) (hx : Rd .u8 w B nb bs) (hu : U8 bs) (hnb : nb ≤ 140737488355328) (hcb : nb ≤ cb) (hcm : cb ≤ 9223372036854775807)
    (hown : OwnG shZ 2 w base A c vs) (hn : vs.length = n) (hn4 : n ≤ 4096) (hz : base ≤ w.heap.size) :
    Calls Tryz.prog 190 #[.slice A n c, .slice B nb cb, .int .i64 a] w (DSPost (decS bs vs a) base w) := by
  have hbl := vget_bounds (a := a) hu (by rw [hx.len]; exact hnb)
  obtain ⟨R, hR⟩ : ∃ R, R = decS bs vs a := ⟨_, rfl⟩
  rw [← hR]
  unfold decS at hR
  have G1 : ∀ W at_, Ext w W → Calls Tryz.prog 77 #[.slice B nb cb, .int .i64 at_] W (GetPost bs at_ W) := fun W at_ hW => get_any B nb cb at_ bs W (hx.ext hW) hu hnb hcb hcm
  have hbl2 := vget_bounds (a := (vget bs a).2.1) hu (by rw [hx.len]; exact hnb)
  rcases hg : vget bs a with ⟨u, a1, e1⟩
  rw [hg] at hR hbl hbl2
  simp only at hR hbl hbl2
  rcases hg2 : vget bs a1 with ⟨k, a2, e2⟩
  rw [hg2] at hR hbl2
  simp only at hR hbl2
  have HG := Lib.hid G1
  have Hg := Lib.hid hg
  have Hg2 := Lib.hid hg2
  have HR := Lib.hid hR
  have Hbl := Lib.hid hbl
  have Hbl2 := Lib.hid hbl2
  have Hx := Lib.hid hx
  have Ho := Lib.hid hown
  have Hn := Lib.hid hn
  clear G1 hg hg2 hR hbl hbl2 hx hown hn hcm hcb hnb hu
  go_enter Tryz.func190, Tryz.ntmps190
  go_wp2_with fail
  refine (HG.out _ a (Ext.refl w)).mono ?_
  rintro e w1 ⟨rfl, rfl⟩
  rw [Hg.out]
  simp only
  by_cases h1 : e1 = 0
  · subst h1
    go_wp2_with fail
    refine (HG.out _ a1 (Ext.refl w)).mono ?_
    rintro e w1 ⟨rfl, rfl⟩
    rw [Hg2.out]
    simp only
    by_cases h2 : e2 = 0
    · subst h2
      by_cases h3 : k = 0
      · subst h3
        have HE := Lib.hid (show R = ([], 0, 5) by rw [HR.out]; simp)
        go_wp2_with fail
        go_ret3
        exact ⟨none, 0, by rw [HE.out]; rfl, by rw [HE.out]; exact OwnG.nil _ _ _ _, Below.refl _ _, hz⟩
      · have hk0 : ((k : Int) == 0) = false := by rw [beq_eq_false_iff_ne]; omega
        obtain ⟨T, hT⟩ : ∃ T, T = tellF vs (unfS u) k := ⟨_, rfl⟩
        have HE := Lib.hid (show R = if T.2 ≠ 0 then ([], 0, T.2) else (T.1, a2, 0) by rw [HR.out, if_neg (by simp), if_neg (by simp), if_neg h3, ← hT])
        have HT := Lib.hid hT
        clear hT
        go_wp2_with fail
        refine (unfold_any (u : Int) _ (by omega) (by have := Hbl.out.1; omega)).mono ?_
        rintro e w1 ⟨rfl, rfl⟩
        go_wp2_with fail
        refine (tell_any A n c base vs (unfS u) k _ Ho.out Hn.out hn4 hz).mono ?_
        rintro e w1 ⟨A1, c1, rfl, hown1, hb1, hz1⟩
        rw [← HT.out] at hown1 ⊢
        by_cases h4 : T.2 = 0
        · have HE2 := Lib.hid (show R = (T.1, a2, 0) by rw [HE.out, if_neg (by simpa using h4)])
          have hb0 : (T.2 != 0) = false := by simpa using h4
          clear HE h4
          go_wp2_with fail
          go_ret3
          exact ⟨A1, c1, by rw [HE2.out]; rfl, by rw [HE2.out]; exact hown1, hb1, hz1⟩
        · have HE2 := Lib.hid (show R = ([], 0, T.2) by rw [HE.out, if_pos (by simpa using h4)])
          have hb0 : (T.2 != 0) = true := by simpa using h4
          clear HE h4
          go_wp2_with fail
          go_ret3
          exact ⟨none, 0, by rw [HE2.out]; rfl, by rw [HE2.out]; exact OwnG.nil _ _ _ _, hb1, hz1⟩
    · have hb0 : (e2 != 0) = true := by simpa using h2
      have HE := Lib.hid (show R = ([], 0, e2) by rw [HR.out, if_neg (by simp), if_pos h2])
      clear h2
      go_wp2_with fail
      go_ret3
      exact ⟨none, 0, by rw [HE.out]; rfl, by rw [HE.out]; exact OwnG.nil _ _ _ _, Below.refl _ _, hz⟩
  · have hb0 : (e1 != 0) = true := by simpa using h1
    have HE := Lib.hid (show R = ([], 0, e1) by rw [HR.out, if_pos h1])
    clear h1
    go_wp2_with fail
    go_ret3
    exact ⟨none, 0, by rw [HE.out]; rfl, by rw [HE.out]; exact OwnG.nil _ _ _ _, Below.refl _ _, hz⟩
set_option maxHeartbeats 3200000 in
theorem decode_any (B : Option Addr) (nb cb : Nat) (bs : List Nat) (w : World) (hx : Rd .u8 w B nb bs) (hu : U8 bs) (hnb : nb ≤ 140737488355328) (hcb : nb ≤ cb) (hcm : cb ≤ 9223372036854775807) :
    Calls Tryz.prog 156 #[.slice B nb cb] w (JoinPost (decode8 bs) w) := by
  have Hl := Lib.hid hx.len
  have hbl := vget_bounds (a := 0) hu (by rw [hx.len]; exact hnb)
  obtain ⟨R, hR⟩ : ∃ R, R = decode8 bs := ⟨_, rfl⟩
  rw [← hR]
  unfold decode8 at hR
  have hG := get_any B nb cb 0 bs w hx hu hnb hcb hcm
  rcases hg : vget bs 0 with ⟨M, a, e1⟩
  rw [hg] at hR hbl
  simp only at hR hbl
  have hD : ∀ W A n c vs at_, Below w.heap.size w W → OwnG shZ 2 W w.heap.size A c vs → vs.length = n → n ≤ 4096 → Calls Tryz.prog 190 #[.slice A n c, .slice B nb cb, .int .i64 at_] W (DSPost (decS bs vs at_) w.heap.size W) := fun W A n c vs at_ hW ho h1 h2 =>
    decodeRun_any B nb cb bs A n c w.heap.size vs at_ W (hx.ext hW) hu hnb hcb hcm ho h1 h2 hW.size
  have HG := Lib.hid hG
  have HD := Lib.hid hD
  have Hg := Lib.hid hg
  have HR := Lib.hid hR
  have Hbl := Lib.hid hbl
  clear hG hD hg hR hbl hx hcm hcb hu
  go_enter Tryz.func156, Tryz.ntmps156
  go_wp2_with fail
  refine HG.out.mono ?_
  rintro e w1 ⟨rfl, rfl⟩
  rw [Hg.out]
  simp only
  by_cases h1 : e1 = 0
  · subst h1
    by_cases h2 : 4096 < M
    · have HE := Lib.hid (show R = ([], 4) by rw [HR.out, if_neg (by simp), if_pos h2])
      have hb1 : (4096 : Int) < (M : Int) := by omega
      go_wp2_with fail
      go_ret2
      exact ⟨none, 0, by rw [HE.out]; rfl, by rw [HE.out]; exact OwnG.nil _ _ _ _, Ext.refl w⟩
    · have HE := Lib.hid (show R = decR bs M [] a by rw [HR.out, if_neg (by simp), if_neg h2])
      have hb1 : decide ((4096 : Int) < (M : Int)) = false := decide_eq_false (by omega)
      go_wp2_with fail
      go_loopw [5, 7, 20] (fun p y i wr => ∃ (j L : Nat) (at_ : Int) (vs : List Int) (A' : Option Addr) (c' : Nat), j ≤ M ∧ L ≤ 4096 ∧ L = vs.length ∧ p = .int .i64 at_ ∧ i = .int .u64 j ∧ y = .slice A' L c' ∧ OwnG shZ 2 wr w.heap.size A' c' vs ∧ Hid (R = decR bs (M - j) vs at_) ∧ Below w.heap.size w wr) (fun _ _ i _ => M - (intOf i).toNat)
      case atStart => exact ⟨0, 0, a, [], none, 0, Nat.zero_le _, Nat.zero_le _, rfl, rfl, rfl, rfl, OwnG.nil _ _ _ _, HE, Ext.refl w⟩
      case round =>
        obtain ⟨j, L, at_, vs, A', c', hj, hL4, hL, rfl, rfl, rfl, hown, HJ, hb⟩ := hrel
        have HL := Lib.hid hL
        have hz : w.heap.size ≤ wr.heap.size := hb.size
        have Ho := Lib.hid hown
        have Hb := Lib.hid hb
        clear hL hown hb
        by_cases hlt : j < M
        · have HS := Lib.hid (show R = if (decS bs vs at_).2.2 = 0 then decR bs (M - (j + 1)) (decS bs vs at_).1 (decS bs vs at_).2.1 else ([], (decS bs vs at_).2.2) by
            rw [HJ.out, show M - j = (M - (j + 1)) + 1 from by omega, decR_step])
          have HSl := Lib.hid (decS_len (bs := bs) (a := at_) (show vs.length ≤ 4096 by have := HL.out; omega))
          obtain ⟨T, hT⟩ : ∃ T, T = decS bs vs at_ := ⟨_, rfl⟩
          have HT := Lib.hid hT
          rw [← hT] at HS HSl
          clear hT HJ
          go_wp2_with fail
          refine (HD.out _ A' L c' vs at_ Hb.out Ho.out HL.out.symm hL4).mono ?_
          rintro e w1 ⟨A1, c1, rfl, hown1, hb1, hz1⟩
          rw [← HT.out] at hown1 ⊢
          have hb2 := Below.trans Hb.out hb1
          by_cases h4 : T.2.2 = 0
          · have HS2 := Lib.hid (show R = decR bs (M - (j + 1)) T.1 T.2.1 by rw [HS.out, if_pos h4])
            have hb0 : (T.2.2 != 0) = false := by simpa using h4
            have HTL := HSl.out
            have hu1 : IntKind.u64.wrap ((j : Int) + 1) = (j : Int) + 1 := IntWalk.u64_in _ (by omega)
            clear HS h4
            go_wp2_with fail
            go_roundw
            case rel => exact ⟨j + 1, T.1.length, T.2.1, T.1, A1, c1, by omega, HTL, rfl, rfl, by go_num, rfl, hown1, HS2, hb2⟩
            case measure => simp [intOf]; omega
          · have HS2 := Lib.hid (show R = ([], T.2.2) by rw [HS.out, if_neg h4])
            have hb0 : (T.2.2 != 0) = true := by simpa using h4
            clear HS h4
            go_wp2_with fail
            go_ret2
            exact ⟨none, 0, by rw [HS2.out]; rfl, by rw [HS2.out]; exact OwnG.nil _ _ _ _, hb2⟩
        · obtain rfl : j = M := by omega
          have HS := Lib.hid (show R = if at_ < (bs.length : Int) then ([], 3) else (vs, 0) by rw [HJ.out, Nat.sub_self, decR])
          have h1 := HL.out
          subst h1
          by_cases h5 : at_ < (nb : Int)
          · have HS2 := Lib.hid (show R = ([], 3) by rw [HS.out, if_pos (by rw [Hl.out]; exact h5)])
            clear HS
            go_wp2_with fail
            go_ret2
            exact ⟨none, 0, by rw [HS2.out]; rfl, by rw [HS2.out]; exact OwnG.nil _ _ _ _, Hb.out⟩
          · have HS2 := Lib.hid (show R = (vs, 0) by rw [HS.out, if_neg (by rw [Hl.out]; exact h5)])
            have hb0 : decide (at_ < (nb : Int)) = false := decide_eq_false h5
            clear HS h5
            go_wp2_with fail
            go_ret2
            exact ⟨A', c', by rw [HS2.out]; rfl, by rw [HS2.out]; exact Ho.out, Hb.out⟩
  · have hb0 : (e1 != 0) = true := by simpa using h1
    have HE := Lib.hid (show R = ([], e1) by rw [HR.out, if_pos h1])
    clear h1
    go_wp2_with fail
    go_ret2
    exact ⟨none, 0, by rw [HE.out]; rfl, by rw [HE.out]; exact OwnG.nil _ _ _ _, Ext.refl w⟩
end Go.Proofs.YthibbgmicmfkfaaGreat
