/-
  Layer 9: the program's Decode and Range.
-/
import Derived.Test.YtoefhblojoaikaaP9f
namespace Go.Proofs.Ytoefhblojoaikaa
open Go.RowKit

set_option maxHeartbeats 3200000 in
theorem pdecode_any (A : Option Addr) (nb cb : Nat) (bs : List Nat) (w : World) (hx : Rd .u8 w A nb bs) (hu : U8 bs) (hnb : nb ≤ 140737488355328) (hcb : nb ≤ cb) (hcm : cb ≤ 9223372036854775807) :
    Calls Try.prog 34 #[.slice A nb cb] w (Dec9Post (decode9 bs) w) := by
  have Hl := Lib.hid hx.len
  obtain ⟨R, hR⟩ : ∃ R, R = decode9 bs := ⟨_, rfl⟩
  rw [← hR]
  unfold decode9 at hR
  have hG := get_any A nb cb 0 bs w hx hu hnb hcb hcm
  rcases hg : vget bs 0 with ⟨M, a, e1⟩
  rw [hg] at hR
  simp only at hR
  have Hg := Lib.hid hg
  have HG := Lib.hid hG
  by_cases h1 : e1 = 0
  · subst h1
    rw [if_neg (by simp)] at hR
    by_cases h2 : 4096 < M
    · have HE := Lib.hid (show R = ([], 4) by rw [hR, if_pos h2])
      have hb1 : (4096 : Int) < (M : Int) := by omega
      clear hR hG hg hcm hu
      go_enter Try.func34, Try.ntmps34
      go_wp2_with fail
      refine HG.out.mono ?_
      rintro e w1 ⟨rfl, rfl⟩
      rw [Hg.out]
      simp only
      go_wp2_with fail
      go_ret2
      exact ⟨none, 0, by rw [HE.out]; rfl, by rw [HE.out]; exact OwnG.nil _ _ _ _, Ext.refl w⟩
    · rw [if_neg h2] at hR
      have hb1 : decide ((4096 : Int) < (M : Int)) = false := decide_eq_false (by omega)
      by_cases h3 : M = 0
      · subst h3
        rw [if_pos rfl] at hR
        by_cases h4 : a < (nb : Int)
        · have HE := Lib.hid (show R = ([], 3) by rw [hR, if_pos (by rw [Hl.out]; exact h4)])
          clear hR hG hg hcm hu
          go_enter Try.func34, Try.ntmps34
          go_wp2_with fail
          refine HG.out.mono ?_
          rintro e w1 ⟨rfl, rfl⟩
          rw [Hg.out]
          simp only
          go_wp2_with fail
          go_ret2
          exact ⟨none, 0, by rw [HE.out]; rfl, by rw [HE.out]; exact OwnG.nil _ _ _ _, Ext.refl w⟩
        · have HE := Lib.hid (show R = ([], 0) by rw [hR, if_neg (by rw [Hl.out]; exact h4)])
          have hb2 : decide (a < (nb : Int)) = false := decide_eq_false h4
          clear hR hG hg hcm hu h4
          go_enter Try.func34, Try.ntmps34
          go_wp2_with fail
          refine HG.out.mono ?_
          rintro e w1 ⟨rfl, rfl⟩
          rw [Hg.out]
          simp only
          go_wp2_with fail
          go_ret2
          exact ⟨none, 0, by rw [HE.out]; rfl, by rw [HE.out]; exact OwnG.nil _ _ _ _, Ext.refl w⟩
      · rw [if_neg h3] at hR
        obtain ⟨p1, p2, p3, p4, _⟩ := vget_at hu hg
        have hn0 : 0 < nb := by have := Hl.out; omega
        obtain ⟨b, o, rfl, _⟩ := hx.2 hn0
        have HD := Lib.hid (decodeSome_any b o nb cb M a bs w hx hu hnb hcb hcm (by omega) (by omega))
        have hb3 : decide ((0 : Int) < (M : Int)) = true := decide_eq_true (by omega)
        have hwm : IntKind.i64.wrap (M : Int) = (M : Int) := IntWalk.i64_in _ (by omega)
        have HE := Lib.hid hR
        clear hR hG hg hcm hu p1 p2 p3 p4
        go_enter Try.func34, Try.ntmps34
        go_wp2_with fail
        refine HG.out.mono ?_
        rintro e w1 ⟨rfl, rfl⟩
        rw [Hg.out]
        simp only
        go_wp2_with fail
        refine HD.out.mono ?_
        rintro e w1 ⟨A1, c1, rfl, hown1, he1⟩
        go_wp2_with fail
        go_ret2
        exact ⟨A1, c1, by rw [HE.out]; rfl, by rw [HE.out]; exact hown1, he1⟩
  · have hb0 : (e1 != 0) = true := by simpa using h1
    have HE := Lib.hid (show R = ([], e1) by rw [hR, if_pos h1])
    clear h1 hR hG hg hcm hu
    go_enter Try.func34, Try.ntmps34
    go_wp2_with fail
    refine HG.out.mono ?_
    rintro e w1 ⟨rfl, rfl⟩
    rw [Hg.out]
    simp only
    go_wp2_with fail
    go_ret2
    exact ⟨none, 0, by rw [HE.out]; rfl, by rw [HE.out]; exact OwnG.nil _ _ _ _, Ext.refl w⟩

/-- What Range answers. -/
def rangeR (bs : List Nat) : Int × Int × Int × Int :=
  if (decode9 bs).2 ≠ 0 then (0, 0, 0, (decode9 bs).2) else if (decode9 bs).1.length = 0 then (0, 0, 0, 1) else (lo (decode9 bs).1, hi (decode9 bs).1, ((decode9 bs).1.length : Int), 0)

theorem decode9_len (bs : List Nat) : (decode9 bs).1.length ≤ 4096 := by
  unfold decode9
  split
  · simp
  · split
    · simp
    · split
      · split <;> simp
      · unfold decSome
        split
        · simp
        · unfold decTail
          split
          · simp
          · split
            · simp
            · split
              · simp
              · split
                · rename_i h1 h2 _ _ _ h6 _
                  rw [above_len, secL_len (by simpa using h6)]
                  omega
                · simp

theorem results_tmp4 {fn : Func} {t u v x : Tmp} (h : fn.results = #[.tmp t, .tmp u, .tmp v, .tmp x]) (tmps : Array Value) (P : Program) (w : World) :
    (results fn tmps).run P w = .ok (.tuple #[tmps.getD t undef, tmps.getD u undef, tmps.getD v undef, tmps.getD x undef]) w := by
  simp [results, h]

set_option maxHeartbeats 1600000 in
theorem prange_any (A : Option Addr) (nb cb : Nat) (bs : List Nat) (w : World) (hx : Rd .u8 w A nb bs) (hu : U8 bs) (hnb : nb ≤ 140737488355328) (hcb : nb ≤ cb) (hcm : cb ≤ 9223372036854775807) :
    Calls Try.prog 36 #[.slice A nb cb] w fun e w' => e = .returned (.tuple #[.int .i64 (rangeR bs).1, .int .i64 (rangeR bs).2.1, .int .i64 (rangeR bs).2.2.1, .int .i64 (rangeR bs).2.2.2]) ∧ Ext w w' := by
  obtain ⟨S, hS⟩ : ∃ S, S = rangeR bs := ⟨_, rfl⟩
  rw [← hS]
  unfold rangeR at hS
  have hD := pdecode_any A nb cb bs w hx hu hnb hcb hcm
  have hl4 := decode9_len bs
  obtain ⟨⟨L, E⟩, hR⟩ : ∃ R, R = decode9 bs := ⟨_, rfl⟩
  rw [← hR] at hS hD hl4
  simp only at hS hl4
  unfold Dec9Post at hD
  simp only at hD
  have HD := Lib.hid hD
  obtain ⟨m, hm⟩ : ∃ m, m = L.length := ⟨_, rfl⟩
  have Hm := Lib.hid hm.symm
  rw [← hm] at HD hl4 hS
  by_cases h1 : E = 0
  · subst h1
    rw [if_neg (by simp)] at hS
    rcases Nat.eq_zero_or_pos m with h0 | hp
    · subst h0
      rw [if_pos rfl] at hS
      have HS := Lib.hid hS
      clear hS hD hR hm hcm hu
      go_enter Try.func36, Try.ntmps36
      go_wp2_with fail
      refine HD.out.mono ?_
      rintro e w1 ⟨A1, c1, rfl, hown1, he1⟩
      go_wp2_with fail
      ((try simp only [Exit.inBlock, Exit.then]); refine bodyPost_ret (results_tmp4 rfl _ _ _) rfl ?_)
      exact ⟨by rw [HS.out]; rfl, he1⟩
    · rw [if_neg (by omega)] at hS
      have HS := Lib.hid hS
      have hm0 : ((m : Int) == 0) = false := by rw [beq_eq_false_iff_ne]; omega
      clear hS hD hR hm hcm hu
      go_enter Try.func36, Try.ntmps36
      go_wp2_with fail
      refine HD.out.mono ?_
      rintro e w1 ⟨A1, c1, rfl, hown1, he1⟩
      have hr1 := hown1.rd' Hm.out
      go_wp2_with fail
      refine (minZ_any A1 m c1 L _ hr1 hp (by omega)).mono ?_
      rintro e w2 ⟨rfl, rfl⟩
      go_wp2_with fail
      refine (maxZ_any A1 m c1 L _ hr1 hp (by omega)).mono ?_
      rintro e w2 ⟨rfl, rfl⟩
      go_wp2_with fail
      ((try simp only [Exit.inBlock, Exit.then]); refine bodyPost_ret (results_tmp4 rfl _ _ _) rfl ?_)
      exact ⟨by rw [HS.out]; rfl, he1⟩
  · rw [if_pos h1] at hS
    have hb0 : (E != 0) = true := by simpa using h1
    have HS := Lib.hid hS
    clear hS hD hR hm hcm hu h1
    go_enter Try.func36, Try.ntmps36
    go_wp2_with fail
    refine HD.out.mono ?_
    rintro e w1 ⟨A1, c1, rfl, hown1, he1⟩
    go_wp2_with fail
    ((try simp only [Exit.inBlock, Exit.then]); refine bodyPost_ret (results_tmp4 rfl _ _ _) rfl ?_)
    exact ⟨by rw [HS.out]; rfl, he1⟩

end Go.Proofs.Ytoefhblojoaikaa
