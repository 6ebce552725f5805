/-
  Layer 11: the program's getText.
-/
import Derived.Test.YtpdppldkebfikaaP11b
import Derived.Test.YtpdppldkebfikaaCTp
import Derived.Deep.RegionHeld3
namespace Go.Proofs.Ytpdppldkebfikaa
open Go.RowKit

/-- What getText leaves. -/
def PTxPost (R : List Nat × Int × Int) (w : World) (e : Ending) (w' : World) : Prop :=
  ∃ A' c', e = .returned (.tuple #[.slice A' R.1.length c', .int .i64 R.2.1, .int .i64 R.2.2]) ∧ Own .u8 5 w' w.heap.size A' c' R.1 ∧ Ext w w'
theorem PTxPost.bad {w w' : World} (R : List Nat × Int × Int) {E : Int} (h : R = ([], 0, E)) (he : Ext w w') : PTxPost R w (.returned (.tuple #[.slice none 0 0, .int .i64 0, .int .i64 E])) w' := by
  subst h
  exact ⟨none, 0, rfl, Own.nil .., he⟩
theorem PTxPost.good {w w' : World} (R : List Nat × Int × Int) {xs : List Nat} {A : Option Addr} {m c : Nat} {z Z : Int} (h : R = (xs, z, 0)) (hm : xs.length = m) (hz : Z = z) (ho : Own .u8 5 w' w.heap.size A c xs) (he : Ext w w') : PTxPost R w (.returned (.tuple #[.slice A m c, .int .i64 Z, .int .i64 0])) w' := by
  subst h
  subst hm
  subst hz
  exact ⟨A, c, rfl, ho, he⟩

theorem RdSS.two_at {V : World} {b n c n2 c2 : Nat} {e : TypeId} {A A2 : Option Addr} {xs ys : List Nat} (hb : V.heap[b]? = some (.cells #[.slice A n c, .slice A2 n2 c2] e)) (h : Rd .u8 V A n xs) (h2 : Rd .u8 V A2 n2 ys) :
    RdSS V (some ⟨b, 0, none⟩) 2 [xs, ys] := by
  refine ⟨rfl, fun _ => ⟨b, 0, rfl, (Array.getElem?_eq_some_iff.1 hb).1, fun j hj => ?_⟩⟩
  rcases (show j = 0 ∨ j = 1 by omega) with rfl | rfl
  · exact ⟨A, n, c, cell_of_row V b 0 _ e (0, 0) hb, h⟩
  · exact ⟨A2, n2, c2, cell_of_row V b 1 _ e (0, 0) hb, h2⟩

/-- vint.Get's answer, read apart. -/
theorem get_is {A : Option Addr} {n c : Nat} {at_ : Int} {bs : List Nat} {w : World} (hx : Rd .u8 w A n bs) (hu : U8 bs) (hn : n ≤ 140737488355328) (hcap : n ≤ c) (hcm : c ≤ 9223372036854775807) {k : Nat} {n1 e1 : Int} (h : vget bs at_ = (k, n1, e1)) :
    Calls Try.prog 68 #[.slice A n c, .int .i64 at_] w fun e w' => e = .returned (.tuple #[.int .u64 k, .int .i64 n1, .int .i64 e1]) ∧ w' = w :=
  (get_any A n c at_ bs w hx hu hn hcap hcm).mono fun e w' ⟨q1, q2⟩ => ⟨by rw [q1, h], q2.symm⟩

set_option maxHeartbeats 1600000 in
set_option maxRecDepth 100000 in
theorem pgetText_any (A : Option Addr) (n c : Nat) (at_ : Int) (A2 : Option Addr) (n2 c2 : Nat) (bs last : List Nat) (w : World) (hx : Rd .u8 w A n bs) (hu : U8 bs) (hn : n ≤ 140737488355328) (hcap : n ≤ c) (hcm : c ≤ 9223372036854775807)
    (hl : Rd .u8 w A2 n2 last) (h2 : n2 ≤ 200) (hcap2 : n2 ≤ c2) :
    Calls Try.prog 69 #[.slice A n c, .int .i64 at_, .slice A2 n2 c2] w (PTxPost (ptx bs at_ last) w) := by
  have hbl := hx.len
  have hll := hl.len
  rcases g1 : vget bs at_ with ⟨k, n1, e1⟩
  have G1 := Lib.hid (get_is hx hu hn hcap hcm g1)
  by_cases z1 : e1 = 0
  · subst z1
    obtain ⟨a1, a2, a3, a4, _⟩ := vget_at hu g1
    rw [hbl] at a3
    obtain ⟨m1, rfl⟩ := Int.eq_ofNat_of_zero_le (show 0 ≤ n1 by omega)
    rcases g2 : vget bs ((m1 : Nat) : Int) with ⟨r, n3, e2⟩
    have G2 := Lib.hid (get_is hx hu hn hcap hcm g2)
    by_cases z2 : e2 = 0
    · subst z2
      obtain ⟨b1, b2, b3, b4, _⟩ := vget_at hu g2
      rw [hbl] at b3
      obtain ⟨m2, rfl⟩ := Int.eq_ofNat_of_zero_le (show 0 ≤ n3 by omega)
      have hm2 : m2 ≤ n := by omega
      have hrlt : r < 18446744073709551616 := b4
      have hklt : k < 18446744073709551616 := a4
      by_cases hk : n2 < k
      · have HR := Lib.hid (ptx_form g1 g2 (by rw [hll]; exact hk))
        clear hx hu hbl hll g1 g2 a1 a2 a3 b1 b2 b3 hl
        go_enter Try.func69, Try.ntmps69
        go_wp2_with fail
        refine G1.out.mono ?_
        rintro e w1 ⟨rfl, rfl⟩
        go_wp2_with fail
        refine G2.out.mono ?_
        rintro e w2 ⟨rfl, rfl⟩
        go_wp2_with fail
        go_ret3
        exact PTxPost.bad _ HR.out (Ext.refl _)
      · have hk2 : k ≤ n2 := by omega
        have hk200 : k ≤ 200 := by omega
        have hsub : IntKind.u64.wrap (200 - (k : Int)) = 200 - (k : Int) := IntWalk.u64_in _ (by omega)
        by_cases hr : 200 < r + k
        · have HR := Lib.hid (ptx_long g1 g2 (by rw [hll]; exact hk2) hr)
          have hgt : 200 - (k : Int) < (r : Int) := by omega
          clear hx hu hbl hll g1 g2 a1 a2 a3 b1 b2 b3 hl
          go_enter Try.func69, Try.ntmps69
          go_wp2_with fail
          refine G1.out.mono ?_
          rintro e w1 ⟨rfl, rfl⟩
          go_wp2_with fail
          refine G2.out.mono ?_
          rintro e w2 ⟨rfl, rfl⟩
          go_wp2_with fail
          go_ret3
          exact PTxPost.bad _ HR.out (Ext.refl _)
        · have hr2 : r ≤ 200 := by omega
          have hle : ¬ 200 - (k : Int) < (r : Int) := by omega
          have hri : IntKind.i64.wrap (r : Int) = (r : Int) := IntWalk.i64_in _ (by omega)
          by_cases hs : n < m2 + r
          · have HR := Lib.hid (ptx_short g1 g2 (by rw [hll]; exact hk2) (by omega) (by rw [hbl]; omega))
            have hgt : (n : Int) - (m2 : Int) < (r : Int) := by omega
            clear hx hu hbl hll g1 g2 a1 a2 a3 b1 b2 b3 hl
            go_enter Try.func69, Try.ntmps69
            go_wp2_with fail
            refine G1.out.mono ?_
            rintro e w1 ⟨rfl, rfl⟩
            go_wp2_with fail
            refine G2.out.mono ?_
            rintro e w2 ⟨rfl, rfl⟩
            go_wp2_with fail
            go_ret3
            exact PTxPost.bad _ HR.out (Ext.refl _)
          · obtain ⟨E, hE⟩ : ∃ E, E = m2 + r := ⟨_, rfl⟩
            have hEn : E ≤ n := by omega
            have hle3 : ¬ (n : Int) - (m2 : Int) < (r : Int) := by omega
            have hrE : E - m2 = r := by omega
            have su := run_upto .u64 A2 n2 c2 k (by omega)
            have sc := run_cut A n c m2 E (by omega) (by omega)
            rw [hrE, show ((E : Nat) : Int) = (m2 : Int) + (r : Int) by omega] at sc
            have hmr : (m2 : Int) + (r : Int) ≤ 140737488355328 := by omega
            have hcr : Rd .u8 w (offA A m2 c) r (cut bs m2 r) := by
              have := hx.cut (l := m2) (h := E) (c := c) (by omega) hEn hcap
              rw [hrE] at this
              exact this
            obtain ⟨A9, hA9⟩ : ∃ A9, A9 = offA A m2 c := ⟨_, rfl⟩
            rw [← hA9] at sc hcr
            have hlr := hl.upto hk2
            obtain ⟨X, hX⟩ : ∃ X, X = last.take k ++ cut bs m2 r := ⟨_, rfl⟩
            have hXf : [last.take k, cut bs m2 r].flatten = X := by rw [hX]; simp
            have hXl : X.length = k + r := by rw [hX, List.length_append, hlr.len, hcr.len]
            have hcp := (cp_le last X).1
            have Hcon := Lib.hid (fun (W : World) (b cc : Nat) (ee : TypeId) (hb : W.heap[b]? = some (.cells #[.slice A2 k c2, .slice A9 r cc] ee)) (hW : Ext w W) => concat_any (some ⟨b, 0, none⟩) 2 2 [last.take k, cut bs m2 r] W (RdSS.two_at hb (hlr.ext hW) (hcr.ext hW)) (by rw [hXf, hXl]; omega) (by omega))
            rw [hXf, hXl] at Hcon
            have Hl := Lib.hid hl
            have HXl := Lib.hid hXl
            have Hal := Lib.hid (fun (W : World) (B : Option Addr) (cb : Nat) (hW : Ext w W) (hB : Rd .u8 W B (k + r) X) => palike_any A2 B n2 c2 (k + r) cb last X W (hl.ext hW) hB (by omega) (by omega))
            by_cases hc : k < cp last X
            · have HR := Lib.hid (ptx_more g1 g2 (by rw [hll]; exact hk2) (by omega) (by rw [hbl]; omega) (by rw [Int.toNat_natCast, ← hX]; exact hc))
              clear hx hu hbl hll g1 g2 a1 a2 a3 b1 b2 b3 hl hA9 hX hXf hXl hlr hcr
              obtain ⟨C, hC⟩ : ∃ C, C = cp last X := ⟨_, rfl⟩
              rw [← hC] at Hal hc hcp
              clear hC
              have hki : IntKind.i64.wrap (k : Int) = (k : Int) := IntWalk.i64_in _ (by omega)
              have hdc : decide (k < C) = true := decide_eq_true hc
              go_enter Try.func69, Try.ntmps69
              go_wp2_with fail
              refine G1.out.mono ?_
              rintro e w1 ⟨rfl, rfl⟩
              go_wp2_with fail
              refine G2.out.mono ?_
              rintro e w2 ⟨rfl, rfl⟩
              go_wp2_with fail
              clear hm2 hEn hE hs
              go_region_held3 (fun _ => True) (exact trivial) (first
                | (go_at_call 47; refine (Hcon.out _ w2.heap.size (c - m2) 34 (by first | exact heap_alloc_new w2 _ | (simp; done) | fail) (by (repeat (first | (with_reducible exact Ext.refl _) | (with_reducible apply Ext.drew) | (with_reducible apply Ext.alloc) | fail)))).mono ?_; rintro e w3 ⟨A3, c3, rfl, hown3, he3⟩)
                | fail)
              have hE3 : Ext w2 w3 := Ext.trans (by (repeat (first | (with_reducible exact Ext.refl _) | (with_reducible apply Ext.drew) | (with_reducible apply Ext.alloc) | fail))) he3
              have hown4 := hown3.mono (base' := w2.heap.size) (by simp)
              go_wp2_with fail
              refine (Hal.out _ _ _ hE3 (hown3.rd' HXl.out)).mono ?_
              rintro e w4 ⟨rfl, q4, rfl⟩
              go_wp2_with fail
              go_ret3
              exact PTxPost.bad _ HR.out (hE3.drewN _)
            · have HR := Lib.hid (ptx_yes g1 g2 (by rw [hll]; exact hk2) (by omega) (by rw [hbl]; omega) (by rw [Int.toNat_natCast, ← hX]; omega))
              rw [Int.toNat_natCast, ← hX] at HR
              clear hx hu hbl hll g1 g2 a1 a2 a3 b1 b2 b3 hl hA9 hX hXf hXl hlr hcr
              obtain ⟨C, hC⟩ : ∃ C, C = cp last X := ⟨_, rfl⟩
              rw [← hC] at Hal hc hcp
              clear hC
              have hki : IntKind.i64.wrap (k : Int) = (k : Int) := IntWalk.i64_in _ (by omega)
              have hdc : decide (k < C) = false := decide_eq_false hc
              go_enter Try.func69, Try.ntmps69
              go_wp2_with fail
              refine G1.out.mono ?_
              rintro e w1 ⟨rfl, rfl⟩
              go_wp2_with fail
              refine G2.out.mono ?_
              rintro e w2 ⟨rfl, rfl⟩
              go_wp2_with fail
              clear hm2 hEn hE hs
              go_region_held3 (fun _ => True) (exact trivial) (first
                | (go_at_call 47; refine (Hcon.out _ w2.heap.size (c - m2) 34 (by first | exact heap_alloc_new w2 _ | (simp; done) | fail) (by (repeat (first | (with_reducible exact Ext.refl _) | (with_reducible apply Ext.drew) | (with_reducible apply Ext.alloc) | fail)))).mono ?_; rintro e w3 ⟨A3, c3, rfl, hown3, he3⟩)
                | fail)
              have hE3 : Ext w2 w3 := Ext.trans (by (repeat (first | (with_reducible exact Ext.refl _) | (with_reducible apply Ext.drew) | (with_reducible apply Ext.alloc) | fail))) he3
              have hown4 := hown3.mono (base' := w2.heap.size) (by simp)
              go_wp2_with fail
              refine (Hal.out _ _ _ hE3 (hown3.rd' HXl.out)).mono ?_
              rintro e w4 ⟨rfl, q4, rfl⟩
              go_wp2_with fail
              go_ret3
              exact PTxPost.good _ HR.out HXl.out rfl (hown4.ext (Ext.of_drewN _ _)) (hE3.drewN _)
    · have HR := Lib.hid (ptx_e2 (last := last) g1 g2 z2)
      have hb2 : (e2 != 0) = true := by rw [bne_iff_ne]; exact z2
      clear hx hu hbl hll g1 g2 a1 a2 a3 hl
      go_enter Try.func69, Try.ntmps69
      go_wp2_with fail
      refine G1.out.mono ?_
      rintro e w1 ⟨rfl, rfl⟩
      go_wp2_with fail
      refine G2.out.mono ?_
      rintro e w2 ⟨rfl, rfl⟩
      go_wp2_with fail
      go_ret3
      exact PTxPost.bad _ HR.out (Ext.refl _)
  · have HR := Lib.hid (ptx_e1 (last := last) g1 z1)
    have hb1 : (e1 != 0) = true := by rw [bne_iff_ne]; exact z1
    clear hx hu hbl hll g1 hl
    go_enter Try.func69, Try.ntmps69
    go_wp2_with fail
    refine G1.out.mono ?_
    rintro e w1 ⟨rfl, rfl⟩
    go_wp2_with fail
    go_ret3
    exact PTxPost.bad _ HR.out (Ext.refl _)

end Go.Proofs.Ytpdppldkebfikaa
