/-
  Layer 10: the program's getCount, getEntry, getEntries.
-/
import Derived.Test.YtpdppldkebfikaaM10b
import Derived.Test.YtpdppldkebfikaaP11e
import Derived.Test.YtpdppldkebfikaaTXK
import Derived.Test.YtpdppldkebfikaaE1c
import Derived.Lib.SliceRun
namespace Go.Proofs.Ytpdppldkebfikaa
open Go.RowKit

theorem clone10_any (A : Option Addr) (n c : Nat) (bs : List Nat) (w : World) (hx : Rd .u8 w A n bs) (hn : n ≤ 180000000000000) :
    Calls Try.prog 57 #[.slice A n c] w fun e w' => ∃ A' c', e = .returned (.slice A' n c') ∧ Own .u8 5 w' w.heap.size A' c' bs ∧ Ext w w' := by
  have Hl := Lib.hid hx.len
  cases A with
  | none =>
    have h0 : n = 0 := by
      rcases Nat.eq_zero_or_pos n with h | h
      · exact h
      · obtain ⟨b, o, he, _⟩ := hx.2 h
        cases he
    subst h0
    have hb : bs = [] := List.eq_nil_of_length_eq_zero Hl.out
    subst hb
    have hq := fun w => Lib.run_eql_slice_nil (P := Try.prog) w 34 5 none 0 c 0 0 Try.underlying34
    go_enter Try.func57, Try.ntmps57
    go_wp2
    go_ret
    exact ⟨_, _, rfl, Own.nil .., Ext.refl w⟩
  | some a =>
    have hq := fun w => Lib.run_eql_slice_nil (P := Try.prog) w 34 5 (some a) n c 0 0 Try.underlying34
    have hown := Own.made (base := w.heap.size) .u8 5 w (Nat.le_refl _)
    have hrd := hx.ext ((Ext.refl w).alloc (.cells #[] 5))
    go_enter Try.func57, Try.ntmps57
    go_wp2_with (at_builtin; refine wpList_pushes (w0 := w) .u8 5 rfl _ _ 34 rfl _ 1 Try.underlying34 Try.infoU8 rfl hown 0 rfl rfl rfl hrd (by omega) (by omega) ((Ext.refl w).alloc _) (by simp) ?_; intro A1 c1 w1 hown1 hb1 hz1)
    go_ret
    exact ⟨_, _, rfl, by simpa using hown1, hb1⟩

/-- What getCount answers. -/
def cntR (bs : List Nat) (a : Int) : Nat × Int × Int := if (vget bs a).2.2 ≠ 0 then (0, 0, (vget bs a).2.2) else if 4096 < (vget bs a).1 then (0, 0, 4) else ((vget bs a).1, (vget bs a).2.1, 0)
theorem cntR_err {bs : List Nat} {a n e : Int} {k : Nat} (h : vget bs a = (k, n, e)) (he : e ≠ 0) : cntR bs a = (0, 0, e) := by unfold cntR; rw [h]; exact if_pos he
theorem cntR_long {bs : List Nat} {a n : Int} {k : Nat} (h : vget bs a = (k, n, 0)) (hk : 4096 < k) : cntR bs a = (0, 0, 4) := by unfold cntR; rw [h, if_neg (fun q => q rfl), if_pos hk]
theorem cntR_yes {bs : List Nat} {a n : Int} {k : Nat} (h : vget bs a = (k, n, 0)) (hk : k ≤ 4096) : cntR bs a = (k, n, 0) := by unfold cntR; rw [h, if_neg (fun q => q rfl), if_neg (by simp only; omega)]

theorem getCount_any (A : Option Addr) (n c : Nat) (at_ : Int) (bs : List Nat) (w : World) (hx : Rd .u8 w A n bs) (hu : U8 bs) (hn : n ≤ 140737488355328) (hcap : n ≤ c) (hcm : c ≤ 9223372036854775807) :
    Calls Try.prog 54 #[.slice A n c, .int .i64 at_] w fun e w' => e = .returned (.tuple #[.int .i64 (cntR bs at_).1, .int .i64 (cntR bs at_).2.1, .int .i64 (cntR bs at_).2.2]) ∧ w' = w := by
  rcases g1 : vget bs at_ with ⟨k, n1, e1⟩
  have G1 := Lib.hid (get_is hx hu hn hcap hcm g1)
  by_cases z1 : e1 = 0
  · subst z1
    obtain ⟨_, _, _, hklt, _⟩ := vget_at hu g1
    by_cases hk : 4096 < k
    · have HR := Lib.hid (cntR_long g1 hk)
      clear hx hu g1
      go_enter Try.func54, Try.ntmps54
      go_wp2_with fail
      refine G1.out.mono ?_
      rintro e w1 ⟨rfl, rfl⟩
      go_wp2_with fail
      go_ret3
      exact ⟨by rw [HR.out]; rfl, by first | rfl | trivial⟩
    · have HR := Lib.hid (cntR_yes g1 (by omega))
      have hki : IntKind.i64.wrap (k : Int) = (k : Int) := IntWalk.i64_in _ (by omega)
      have hk2 : k ≤ 4096 := by omega
      clear hx hu g1
      go_enter Try.func54, Try.ntmps54
      go_wp2_with fail
      refine G1.out.mono ?_
      rintro e w1 ⟨rfl, rfl⟩
      go_wp2_with fail
      go_ret3
      exact ⟨by rw [HR.out]; rfl, by first | rfl | trivial⟩
  · have HR := Lib.hid (cntR_err g1 z1)
    have hb1 : (e1 != 0) = true := by rw [bne_iff_ne]; exact z1
    clear hx hu g1
    go_enter Try.func54, Try.ntmps54
    go_wp2_with fail
    refine G1.out.mono ?_
    rintro e w1 ⟨rfl, rfl⟩
    go_wp2_with fail
    go_ret3
    exact ⟨by rw [HR.out]; rfl, by first | rfl | trivial⟩

/-- What getEntry leaves: a piece. -/
def EntPost (R : List Nat × Int × Int) (w0 w : World) (e : Ending) (w' : World) : Prop :=
  ∃ A' c', e = .returned (.tuple #[.slice A' R.1.length c', .int .i64 R.2.1, .int .i64 R.2.2]) ∧ Rd .u8 w0 A' R.1.length R.1 ∧ R.1.length ≤ c' ∧ c' ≤ 9223372036854775807 ∧ w' = w

set_option maxHeartbeats 800000 in
theorem getEntry_any (A : Option Addr) (n c : Nat) (at_ : Int) (bs : List Nat) (w0 w : World) (hx : Rd .u8 w0 A n bs) (hE0 : Ext w0 w) (hu : U8 bs) (hn : n ≤ 140737488355328) (hcap : n ≤ c) (hcm : c ≤ 9223372036854775807) :
    Calls Try.prog 85 #[.slice A n c, .int .i64 at_] w (EntPost (dtx bs at_) w0 w) := by
  have hbl := hx.len
  rcases g1 : vget bs at_ with ⟨k, n1, e1⟩
  have G1 := Lib.hid (get_is (hx.ext hE0) hu hn hcap hcm g1)
  by_cases z1 : e1 = 0
  · subst z1
    obtain ⟨a1, a2, a3, hklt, _⟩ := vget_at hu g1
    rw [hbl] at a3
    obtain ⟨m1, rfl⟩ := Int.eq_ofNat_of_zero_le (show 0 ≤ n1 by omega)
    by_cases hk : 200 < k
    · have HR := Lib.hid (dtx_long g1 hk)
      clear hE0 hx hu g1 hbl a1 a2 a3
      go_enter Try.func85, Try.ntmps85
      go_wp2_with fail
      refine G1.out.mono ?_
      rintro e w1 ⟨rfl, rfl⟩
      go_wp2_with fail
      go_ret3
      exact ⟨none, 0, by rw [HR.out]; rfl, by rw [HR.out]; exact Rd.nil .., by rw [HR.out]; simp, by omega, by first | rfl | trivial⟩
    · have hk2 : k ≤ 200 := by omega
      have hki : IntKind.i64.wrap (k : Int) = (k : Int) := IntWalk.i64_in _ (by omega)
      have hm1 : m1 ≤ n := by omega
      by_cases hs : n < m1 + k
      · have HR := Lib.hid (dtx_short g1 hk2 (by rw [hbl]; omega))
        have hgt : (n : Int) - (m1 : Int) < (k : Int) := by omega
        clear hE0 hx hu g1 hbl a1 a2 a3
        go_enter Try.func85, Try.ntmps85
        go_wp2_with fail
        refine G1.out.mono ?_
        rintro e w1 ⟨rfl, rfl⟩
        go_wp2_with fail
        go_ret3
        exact ⟨none, 0, by rw [HR.out]; rfl, by rw [HR.out]; exact Rd.nil .., by rw [HR.out]; simp, by omega, by first | rfl | trivial⟩
      · have HR := Lib.hid (dtx_yes g1 hk2 (by rw [hbl]; omega))
        rw [Int.toNat_natCast] at HR
        have hgt : ¬ (n : Int) - (m1 : Int) < (k : Int) := by omega
        obtain ⟨E, hE⟩ : ∃ E, E = m1 + k := ⟨_, rfl⟩
        have hrE : E - m1 = k := by omega
        have sc := run_cut A n c m1 E (by omega) (by omega)
        rw [hrE, show ((E : Nat) : Int) = (m1 : Int) + (k : Int) by omega] at sc
        have hmr : (m1 : Int) + (k : Int) ≤ 140737488355328 := by omega
        have hcr : Rd .u8 w0 (offA A m1 c) k (cut bs m1 k) := by
          have := hx.cut (l := m1) (h := E) (c := c) (by omega) (by omega) hcap
          rw [hrE] at this
          exact this
        have hcl : (cut bs m1 k).length = k := hcr.len
        have hc9 : k ≤ c - m1 := by omega
        obtain ⟨A9, hA9⟩ : ∃ A9, A9 = offA A m1 c := ⟨_, rfl⟩
        rw [← hA9] at sc hcr
        have Hcr := Lib.hid hcr
        have Hcl := Lib.hid hcl
        clear hE0 hx hu g1 hbl a1 a2 a3 hA9 hcr hcl hE hs hrE hm1
        go_enter Try.func85, Try.ntmps85
        go_wp2_with fail
        refine G1.out.mono ?_
        rintro e w1 ⟨rfl, rfl⟩
        go_wp2_with fail
        go_ret3
        exact ⟨A9, c - m1, by rw [HR.out]; simp only; rw [Hcl.out]; rfl, by rw [HR.out]; simp only; rw [Hcl.out]; exact Hcr.out, by rw [HR.out]; simp only; rw [Hcl.out]; exact hc9, by omega, by first | rfl | trivial⟩
  · have HR := Lib.hid (dtx_err g1 z1)
    have hb1 : (e1 != 0) = true := by rw [bne_iff_ne]; exact z1
    clear hE0 hx hu g1 hbl
    go_enter Try.func85, Try.ntmps85
    go_wp2_with fail
    refine G1.out.mono ?_
    rintro e w1 ⟨rfl, rfl⟩
    go_wp2_with fail
    go_ret3
    exact ⟨none, 0, by rw [HR.out]; rfl, by rw [HR.out]; exact Rd.nil .., by rw [HR.out]; simp, by omega, by first | rfl | trivial⟩

/-- What getEntries answers. -/
def entR (bs : List Nat) : List (List Nat) × Int × Int := if (cntR bs 0).2.2 ≠ 0 then ([], 0, (cntR bs 0).2.2) else dnA bs (cntR bs 0).1 (cntR bs 0).2.1 []
/-- Entries while they are read: pieces. -/
structure DEn (w wr : World) (A : Option Addr) (c : Nat) (us : List Sl) : Prop where
  row : OwnT wr w.heap.size A c us
  rd : ∀ s ∈ us, Rd .u8 w s.A s.body.length s.body
  u8 : ∀ s ∈ us, U8 s.body
  len : ∀ s ∈ us, s.body.length ≤ 200
  ext : Ext w wr
def EntsPost (R : List (List Nat) × Int × Int) (w : World) (e : Ending) (w' : World) : Prop :=
  ∃ A' c' us, e = .returned (.tuple #[.slice A' us.length c', .int .i64 R.2.1, .int .i64 R.2.2]) ∧ bodies us = R.1 ∧ DEn w w' A' c' us

theorem EntsPost.bad {w w' : World} (R : List (List Nat) × Int × Int) {E : Int} (h : R = ([], 0, E)) (he : Ext w w') : EntsPost R w (.returned (.tuple #[.slice none 0 0, .int .i64 0, .int .i64 E])) w' := by
  subst h
  exact ⟨none, 0, [], rfl, rfl, OwnG.nil .., fun s hs => (by cases hs), fun s hs => (by cases hs), fun s hs => (by cases hs), he⟩
theorem EntsPost.good {w w' : World} (R : List (List Nat) × Int × Int) {us : List Sl} {A : Option Addr} {m c : Nat} {a : Int} (h : R = (bodies us, a, 0)) (hm : us.length = m) (hd : DEn w w' A c us) : EntsPost R w (.returned (.tuple #[.slice A m c, .int .i64 a, .int .i64 0])) w' := by
  subst h
  subst hm
  exact ⟨A, c, us, rfl, rfl, hd⟩

set_option maxHeartbeats 1600000 in
set_option maxRecDepth 100000 in
theorem getEntries_any (A : Option Addr) (n c : Nat) (bs : List Nat) (w : World) (hx : Rd .u8 w A n bs) (hu : U8 bs) (hn : n ≤ 140737488355328) (hcap : n ≤ c) (hcm : c ≤ 9223372036854775807) :
    Calls Try.prog 53 #[.slice A n c] w (EntsPost (entR bs) w) := by
  have hbl := hx.len
  have G1 := getCount_any A n c 0 bs w hx hu hn hcap hcm
  rcases g1 : cntR bs 0 with ⟨k, n1, e1⟩
  rw [g1] at G1
  have HG1 := Lib.hid G1
  clear G1
  by_cases z1 : e1 = 0
  · subst z1
    have hv : vget bs 0 = (k, n1, 0) ∧ k ≤ 4096 := by
      rcases h1 : vget bs 0 with ⟨k', n', e'⟩
      by_cases he : e' = 0
      · subst he
        by_cases hk : 4096 < k'
        · rw [cntR_long h1 hk] at g1; injection g1 with _ g1; injection g1 with _ g1; exact absurd g1 (by decide)
        · rw [cntR_yes h1 (by omega)] at g1
          injection g1 with q1 g1; injection g1 with q2 _
          subst q1 q2
          exact ⟨rfl, by omega⟩
      · rw [cntR_err h1 he] at g1; injection g1 with _ g1; injection g1 with _ g1; exact absurd g1 he
    obtain ⟨a1, a2, a3, _, _⟩ := vget_at hu hv.1
    rw [hbl] at a3
    have hk2 := hv.2
    obtain ⟨m1, rfl⟩ := Int.eq_ofNat_of_zero_le (show 0 ≤ n1 by omega)
    obtain ⟨R, hR⟩ : ∃ R, R = entR bs := ⟨_, rfl⟩
    have HR := Lib.hid (show dnA bs (k - 0) (m1 : Int) (bodies []) = R by rw [hR]; unfold entR; rw [g1]; rfl)
    rw [← hR]
    have Hbl := Lib.hid hbl
    have Hx := Lib.hid hx
    have Hu := Lib.hid hu
    have hm1 : m1 ≤ n := by omega
    clear hR g1 hbl hx hu a1 a2 a3 hv
    go_enter Try.func53, Try.ntmps53
    go_wp2_with fail
    refine HG1.out.mono ?_
    rintro e w1 ⟨rfl, rfl⟩
    obtain ⟨w, hw⟩ : ∃ w, w = w1 := ⟨_, rfl⟩
    subst hw
    simp only
    go_wp2_with fail
    go_loopw [6, 8, 9, 10, 11, 12, 23] (fun at_ v _ _ _ _ i wr => ∃ (j a : Nat) (us : List Sl) (A' : Option Addr) (c' : Nat), j ≤ k ∧ i = .int .i64 j ∧ a ≤ n ∧ at_ = .int .i64 a ∧ v = .slice A' j c' ∧ Hid (us.length = j) ∧ Hid (dnA bs (k - j) a (bodies us) = R) ∧ Hid (DEn w wr A' c' us)) (fun _ _ _ _ _ _ i _ => k - (intOf i).toNat)
    case atStart => exact ⟨0, m1, [], none, 0, Nat.zero_le _, rfl, hm1, rfl, rfl, rfl, HR.out, ⟨OwnG.nil .., fun s hs => (by cases hs), fun s hs => (by cases hs), fun s hs => (by cases hs), Ext.refl _⟩⟩
    case round =>
      clear HR
      obtain ⟨j, a, us, A', c', hj, rfl, ha, rfl, rfl, Hl, HR, HD⟩ := hrel
      by_cases hlt : j < k
      · obtain ⟨q, hq⟩ : ∃ q, k - j = q + 1 := ⟨k - j - 1, by omega⟩
        have Hq2 := Lib.hid (show k - (j + 1) = q by omega)
        have Hq := Lib.hid hq
        clear hq
        have HG := getEntry_any A n c a bs w wr Hx.out HD.out.ext Hu.out hn hcap hcm
        rcases hg : dtx bs a with ⟨s, m, e⟩
        rw [hg] at HG
        have HGe := Lib.hid HG
        have Hg := Lib.hid hg
        clear HG hg
        by_cases he0 : e = 0
        · subst he0
          obtain ⟨b1, b2, b3, b4, b5, _⟩ := dtx_ok Hu.out Hg.out
          rw [Hbl.out] at b3
          obtain ⟨m', rfl⟩ := Int.eq_ofNat_of_zero_le (show 0 ≤ m by omega)
          have hm' : m' ≤ n := by omega
          have Hb4 := Lib.hid b4
          have Hb5 := Lib.hid b5
          have hbt : (bodies us).length = j := by rw [bodies_len, Hl.out]
          clear b1 b2 b3 b4 b5
          by_cases hj0 : j = 0
          · have Ho := Lib.hid (show ¬ (0 < (bodies us).length ∧ 0 ≤ ordT ((bodies us).getD ((bodies us).length - 1) []) s) from fun h => by have := h.1; omega)
            subst hj0
            go_wp2_with fail
            refine HGe.out.mono ?_
            rintro e' w3 ⟨A3, c3, rfl, hr3, _, _, rfl⟩
            simp only at hr3 ⊢
            have Hr3 := Lib.hid hr3
            clear hr3 hbt
            have HN := Lib.hid (show dnA bs (k - (0 + 1)) (m' : Int) (bodies (us ++ [⟨A3, c3, s⟩])) = R by
              rw [Hq2.out, ← HR.out, Hq.out, dnA_next Hg.out Ho.out]; unfold bodies; rw [List.map_append]; rfl)
            go_wp2_with (at_builtin; refine wpList_pushT (w0 := w) ⟨A3, c3, s⟩ rfl _ _ rfl (HD.out.row.ext ((Ext.refl _).alloc _)) (0) Hl.out rfl rfl (heap_alloc_new _ _) (by omega) (Ext.trans HD.out.ext ((Ext.refl _).alloc _)) (by have := HD.out.ext.size; simp; omega) ?_; intro A4 c4 w4 hown4 _ hb4 _)
            have HD4 := Lib.hid (show DEn w w4 A4 c4 (us ++ [⟨A3, c3, s⟩]) from by
              refine ⟨hown4, fun t ht => ?_, fun t ht => ?_, fun t ht => ?_, hb4⟩
              · rcases List.mem_append.1 ht with h1 | h1
                · exact HD.out.rd t h1
                · simp at h1; subst h1; exact Hr3.out
              · rcases List.mem_append.1 ht with h1 | h1
                · exact HD.out.u8 t h1
                · simp at h1; subst h1; exact Hb5.out
              · rcases List.mem_append.1 ht with h1 | h1
                · exact HD.out.len t h1
                · simp at h1; subst h1; exact Hb4.out)
            clear hown4 hb4
            go_wp2_with fail
            go_roundw
            case rel => exact ⟨0 + 1, m', _, A4, c4, by omega, by go_num, hm', rfl, by go_num, by rw [List.length_append, Hl.out]; rfl, HN.out, HD4.out⟩
            case measure => simp [intOf]; omega
          · obtain ⟨p, rfl⟩ : ∃ p, j = p + 1 := ⟨j - 1, by omega⟩
            obtain ⟨b, o, t, rfl, hf, hc⟩ := HD.out.row.rdL.at_ (j := p) (by rw [Hl.out]; omega)
            have hmt := List.mem_of_getElem? hf
            have hlast : (bodies us).getD ((bodies us).length - 1) [] = t.body := by rw [hbt, Nat.add_sub_cancel, bodies_get hf]
            have hrt := (HD.out.rd t hmt).ext HD.out.ext
            have hut := HD.out.u8 t hmt
            obtain ⟨tA, tc, tb⟩ := t
            simp only at hc hrt hut hlast
            have HC := Lib.hid (fun (A3 : Option Addr) (c3 : Nat) (h3 : Rd .u8 wr A3 s.length s) => compareT_any tA A3 tb.length tc s.length c3 tb s wr hrt h3 hut Hb5.out)
            obtain ⟨tl, htl⟩ : ∃ tl, tl = tb.length := ⟨_, rfl⟩
            rw [← htl] at hc HC
            have ho1 : 0 ≤ ordT tb s → dnA bs (q + 1) a (bodies us) = ([], 0, 5) := fun h => dnA_form Hg.out ⟨by omega, by rw [hlast]; exact h⟩
            have ho2 : ¬ 0 ≤ ordT tb s → ¬ (0 < (bodies us).length ∧ 0 ≤ ordT ((bodies us).getD ((bodies us).length - 1) []) s) := fun h h2 => h (by rw [← hlast]; exact h2.2)
            obtain ⟨r, hr⟩ : ∃ r, r = ordT tb s := ⟨_, rfl⟩
            rw [← hr] at HC ho1 ho2
            clear htl hr hf hmt hrt hut hlast hbt
            by_cases hneg : 0 ≤ r
            · have HE := Lib.hid (show R = ([], 0, 5) by rw [← HR.out, Hq.out, ho1 hneg])
              have d : decide (0 ≤ r) = true := decide_eq_true hneg
              clear ho1 ho2
              go_wp2_with fail
              refine HGe.out.mono ?_
              rintro e' w3 ⟨A3, c3, rfl, hr3, _, _, rfl⟩
              simp only at hr3 ⊢
              have Hr3 := Lib.hid hr3
              clear hr3
              go_wp2_with fail
              refine (HC.out A3 c3 (Hr3.out.ext HD.out.ext)).mono ?_
              rintro e' w4 ⟨rfl, rfl⟩
              go_wp2_with fail
              go_ret3
              exact EntsPost.bad _ HE.out HD.out.ext
            · have Ho := Lib.hid (ho2 hneg)
              have d : decide (0 ≤ r) = false := decide_eq_false hneg
              clear ho1 ho2
              go_wp2_with fail
              refine HGe.out.mono ?_
              rintro e' w3 ⟨A3, c3, rfl, hr3, _, _, rfl⟩
              simp only at hr3 ⊢
              have Hr3 := Lib.hid hr3
              clear hr3
              go_wp2_with fail
              refine (HC.out A3 c3 (Hr3.out.ext HD.out.ext)).mono ?_
              rintro e' w4 ⟨rfl, rfl⟩
              have HN := Lib.hid (show dnA bs (k - (p + 1 + 1)) (m' : Int) (bodies (us ++ [⟨A3, c3, s⟩])) = R by
                rw [Hq2.out, ← HR.out, Hq.out, dnA_next Hg.out Ho.out]; unfold bodies; rw [List.map_append]; rfl)
              go_wp2_with (at_builtin; refine wpList_pushT (w0 := w) ⟨A3, c3, s⟩ rfl _ _ rfl (HD.out.row.ext ((Ext.refl _).alloc _)) (p + 1) Hl.out rfl rfl (heap_alloc_new _ _) (by omega) (Ext.trans HD.out.ext ((Ext.refl _).alloc _)) (by have := HD.out.ext.size; simp; omega) ?_; intro A4 c4 w4 hown4 _ hb4 _)
              have HD4 := Lib.hid (show DEn w w4 A4 c4 (us ++ [⟨A3, c3, s⟩]) from by
                refine ⟨hown4, fun t ht => ?_, fun t ht => ?_, fun t ht => ?_, hb4⟩
                · rcases List.mem_append.1 ht with h1 | h1
                  · exact HD.out.rd t h1
                  · simp at h1; subst h1; exact Hr3.out
                · rcases List.mem_append.1 ht with h1 | h1
                  · exact HD.out.u8 t h1
                  · simp at h1; subst h1; exact Hb5.out
                · rcases List.mem_append.1 ht with h1 | h1
                  · exact HD.out.len t h1
                  · simp at h1; subst h1; exact Hb4.out)
              clear hown4 hb4
              go_wp2_with fail
              go_roundw
              case rel => exact ⟨p + 1 + 1, m', _, A4, c4, by omega, by go_num, hm', rfl, by go_num, by rw [List.length_append, Hl.out]; rfl, HN.out, HD4.out⟩
              case measure => simp [intOf]; omega
        · have hb1 : (e != 0) = true := by rw [bne_iff_ne]; exact he0
          have HE := Lib.hid (show R = ([], 0, e) by rw [← HR.out, Hq.out, dnA_err Hg.out he0])
          go_wp2_with fail
          refine HGe.out.mono ?_
          rintro e' w3 ⟨A3, c3, rfl, _, _, _, rfl⟩
          simp only
          go_wp2_with fail
          go_ret3
          exact EntsPost.bad _ HE.out HD.out.ext
      · obtain rfl : j = k := by omega
        have hR := HR.out
        rw [Nat.sub_self] at hR
        have HE := Lib.hid (show R = (bodies us, (a : Int), 0) by rw [← hR]; rfl)
        clear hR
        go_wp2_with fail
        go_ret3
        exact EntsPost.good _ HE.out Hl.out HD.out
  · have HE := Lib.hid (show entR bs = ([], 0, e1) by unfold entR; rw [g1]; exact if_pos z1)
    have hb1 : (e1 != 0) = true := by rw [bne_iff_ne]; exact z1
    clear hx hu g1 hbl
    go_enter Try.func53, Try.ntmps53
    go_wp2_with fail
    refine HG1.out.mono ?_
    rintro e w1 ⟨rfl, rfl⟩
    simp only
    go_wp2_with fail
    go_ret3
    exact EntsPost.bad _ HE.out (Ext.refl _)

end Go.Proofs.Ytpdppldkebfikaa
