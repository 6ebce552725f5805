/-
  Layer 5: the statement CellBack, walked.
-/
import Derived.Test.YtdnbmffedccakaaE17
namespace Go.Proofs.Ytdnbmffedccakaa
open Go.RowKit

set_option maxHeartbeats 6400000 in
set_option maxRecDepth 100000 in
theorem walk_CellBack (k : Int) (x : Ci) (Ax : Option Addr) (nx cx : Nat) (xs : List Nat) (Ay : Option Addr) (ny cy : Nat) (ys : List Nat) (w : World) (hx : x.In w) (hxs : Rd .u8 w Ax nx xs) (hxu : U8 xs) (hz : nx ≤ 1048576) (hys : Rd .u8 w Ay ny ys) (hyu : U8 ys) (hz2 : ny ≤ 1048576) :
    Calls Try.prog 6 #[.int .i64 k, x.v, .slice Ax nx cx, .slice Ay ny cy] w fun e w' => e = .returned (.bool true) ∧ Ext w w' := by
  obtain ⟨nul, num, A, c, txt⟩ := x
  obtain ⟨hrd, hu, h0, h1, hlen⟩ := hx
  simp only [Ci.v] at *
  obtain ⟨n, hn⟩ : ∃ n, n = txt.length := ⟨_, rfl⟩
  rw [← hn] at hrd hlen ⊢
  have Hn := Lib.hid hn.symm
  clear hn
  have hn1 : n ≤ 140737488355328 := by omega
  have hxl := hxs.len
  have hyl := hys.len
  have hE : Ext w (w.alloc (.cells #[.bool nul, .int .i64 num, .slice A n c] 24)) := (Ext.refl w).alloc _
  by_cases hR : chk k true nul num txt = 0
  · have hL : cputL k nul num txt = cby k nul num txt := by unfold cputL; rw [if_pos hR]
    have hLu := cputL_u8 (k := k) (nul := nul) (num := num) hu
    have hLl := cputL_len (k := k) (nul := nul) (txt := txt) h0 h1
    have hg := cget_put (xs := xs) (ys := ys) hR h0 h1
    have hs := cget_crE (k := k) (bs := (cby k nul num txt).take ((cby k nul num txt).length - 1)) (at_ := 0) (by rw [cget_cut hR h0 h1]; decide)
    rw [cget_cut hR h0 h1] at hs
    rw [hL] at hLu hLl
    obtain ⟨L, hLe⟩ : ∃ L, L = cby k nul num txt := ⟨_, rfl⟩
    rw [← hLe] at hLu hLl hg hs hL
    obtain ⟨m, hm⟩ : ∃ m, L.length = m := ⟨_, rfl⟩
    rw [hm, hxl] at hg
    rw [hm] at hLl hs
    have HPp : Hid (∀ (B : Option Addr) (cb : Nat) (W : World), Rd .u8 W B n txt → Calls Try.prog 22 #[.int .i64 k, .agg #[.bool nul, .int .i64 num, .slice B n cb]] W fun e w' => ∃ A' c', e = .returned (.tuple #[.slice A' m c', .int .i64 0]) ∧ Own .u8 5 w' W.heap.size A' c' L ∧ Ext W w') := Lib.hid (fun B cb W hW => by
      have h := cput_any k nul num B n cb txt W hW hu hn1 h0 h1
      rw [hL, hR] at h
      unfold CPutPost at h
      rw [hm] at h
      exact h)
    have HG : Hid (∀ (B : Option Addr) (cb : Nat) (W : World), Rd .u8 W B (nx + m + ny) ((xs ++ L) ++ ys) → nx + m + ny ≤ cb → cb ≤ 9223372036854775807 → Calls Try.prog 25 #[.int .i64 k, .slice B (nx + m + ny) cb, .int .i64 (nx : Int)] W fun e w' => ∃ A' c', e = .returned (.tuple #[.agg #[.bool nul, .int .i64 num, .slice A' n c'], .int .i64 ((nx : Int) + (m : Int)), .int .i64 0]) ∧ Own .u8 5 w' W.heap.size A' c' txt ∧ Ext W w') := Lib.hid (fun B cb W g1 g2 g3 => by
      have h := cget_any B (nx + m + ny) cb (nx : Int) k ((xs ++ L) ++ ys) W g1 (fun v hv => by
        rcases List.mem_append.1 hv with q | q
        · rcases List.mem_append.1 q with q | q
          · exact hxu v q
          · exact hLu v q
        · exact hyu v q) (by omega) g2 g3
      rw [hg] at h
      unfold CGetPost at h
      simp only [Hn.out] at h
      exact h)
    have HS : Hid (∀ (B : Option Addr) (cb : Nat) (W : World), Rd .u8 W B (m - 1) (L.take (m - 1)) → m - 1 ≤ cb → cb ≤ 9223372036854775807 → Calls Try.prog 25 #[.int .i64 k, .slice B (m - 1) cb, .int .i64 0] W fun e w' => ∃ A' c', e = .returned (.tuple #[.agg #[.bool false, .int .i64 0, .slice A' 0 c'], .int .i64 0, .int .i64 2]) ∧ Own .u8 5 w' W.heap.size A' c' [] ∧ Ext W w') := Lib.hid (fun B cb W g1 g2 g3 => by
      have h := cget_any B (m - 1) cb 0 k (L.take (m - 1)) W g1 (fun v hv => hLu v (List.mem_of_mem_take hv)) (by omega) g2 g3
      rw [hs] at h
      unfold CGetPost at h
      exact h)
    have hm1 : 1 ≤ m := by
      rw [← hm, hLe]
      unfold cby
      split
      · simp
      · split <;> simp
    have Hpc : Hid (piece L 0 ((m : Int) - 1) = L.take (m - 1)) := by
      have : ((m : Int) - 1).toNat = m - 1 := by omega
      exact Lib.hid (by unfold piece; rw [this]; rfl)
    have Hptl : Hid ((L.take (m - 1)).length = m - 1) := Lib.hid (by rw [List.length_take, hm]; omega)
    have Hm := Lib.hid hm
    have HR := Lib.hid hR
    have Hxl := Lib.hid hxl
    have Hyl := Lib.hid hyl
    have k3 : (((nx : Int) + (m : Int)) == ((nx : Int) + (m : Int))) = true := by simp
    have hb1 : nx + m ≤ 180000000000000 := by omega
    have hb2 : nx + m + ny ≤ 180000000000000 := by omega
    have hn2 : n ≤ 281474976710656 := by omega
    have hLn : m ≤ 140737488355328 := by omega
    clear hL hLe hm hg hs hR hxl hyl hxu hyu
    go_enter Try.func6, Try.ntmps6
    go_wp2_with fail
    refine (alive5 _).mono ?_
    rintro e w1 ⟨rfl, he1⟩
    obtain ⟨f0, f1, f2, z5⟩ := (AtC.box w nul num A n c).ext he1
    have hA1 := (hrd.ext hE).ext he1
    have hE1 := hE.trans he1
    go_wp2_with fail
    refine (twin_any nul num A n c txt _ hA1 hn1).mono ?_
    rintro e w2 ⟨A2, c2, rfl, hown2, he2⟩
    have q5 := (AtC.mk f0 f1 f2 z5).ext he2
    clear f0 f1 f2 z5
    obtain ⟨f0, f1, f2, z5⟩ := q5
    go_wp2_with fail
    refine (HPp.out A2 c2 _ (hown2.rd' Hn.out)).mono ?_
    rintro e w3 ⟨A3, c3, rfl, hown3, he3⟩
    have q5 := (AtC.mk f0 f1 f2 z5).ext he3
    clear f0 f1 f2 z5
    obtain ⟨f0, f1, f2, z5⟩ := q5
    have hA3 := (hA1.ext he2).ext he3
    have hE3 := (hE1.trans he2).trans he3
    go_wp2_with fail
    refine (refCheck_any k true nul num A n c txt _ hA3 h0 h1 hn1).mono ?_
    rintro e w4 ⟨rfl, he4⟩
    rw [HR.out]
    have q5 := (AtC.mk f0 f1 f2 z5).ext he4
    clear f0 f1 f2 z5
    obtain ⟨f0, f1, f2, z5⟩ := q5
    have hE4 := hE3.trans he4
    have o3 := hown3.ext he4
    have hA4 := hA3.ext he4
    clear he1 he2 he3 he4 hA1 hA3 hE1 hE3 hown2 hown3
    go_wp2_with fail
    refine (cat_any Ax A3 nx cx m c3 xs L _ (hxs.ext hE4) (o3.rd' Hm.out) hb1).mono ?_
    rintro e w5 ⟨A5, c5, rfl, hown5, he5⟩
    have q5 := (AtC.mk f0 f1 f2 z5).ext he5
    clear f0 f1 f2 z5
    obtain ⟨f0, f1, f2, z5⟩ := q5
    go_wp2_with fail
    refine (cat_any A5 Ay (nx + m) c5 ny cy (xs ++ L) ys _ (hown5.rd' (by rw [List.length_append, Hxl.out, Hm.out])) ((hys.ext hE4).ext he5) hb2).mono ?_
    rintro e w6 ⟨A6, c6, rfl, hown6, he6⟩
    have q5 := (AtC.mk f0 f1 f2 z5).ext he6
    clear f0 f1 f2 z5
    obtain ⟨f0, f1, f2, z5⟩ := q5
    have hcat : ((xs ++ L) ++ ys).length = nx + m + ny := by rw [List.length_append, List.length_append, Hxl.out, Hm.out, Hyl.out]
    have hcap := hown6.cap
    rw [hcat] at hcap
    have Hcat := Lib.hid hcat
    clear hcat
    go_wp2_with fail
    refine (HG.out A6 c6 _ (hown6.rd' Hcat.out) hcap.1 hcap.2).mono ?_
    rintro e w7 ⟨A7, c7, rfl, hown7, he7⟩
    have hX7 : Ext w7 (w7.alloc (.cells #[.bool nul, .int .i64 num, .slice A7 n c7] 24)) := (Ext.refl w7).alloc _
    have q5 := ((AtC.mk f0 f1 f2 z5).ext he7).ext hX7
    have q11 := AtC.box w7 nul num A7 n c7
    clear f0 f1 f2 z5
    obtain ⟨f0, f1, f2, z5⟩ := q5
    obtain ⟨g0, g1, g2, y5⟩ := q11
    have o7 := hown7.ext hX7
    have hE7 := (((hE4.trans he5).trans he6).trans he7).trans hX7
    have o3' := (((o3.ext he5).ext he6).ext he7).ext hX7
    have hA7 := (((hA4.ext he5).ext he6).ext he7).ext hX7
    clear he5 he6 he7 hX7 hown5 hown6 hown7 o3 hA4 hcap
    go_wp2_with fail
    refine (piece_any A3 m c3 0 ((m : Int) - 1) L _ (o3'.rd' Hm.out) hLn (by omega)).mono ?_
    rw [Hpc.out, Hptl.out]
    rintro e w8 ⟨A8, c8, rfl, hown8, he8⟩
    have q5 := (AtC.mk f0 f1 f2 z5).ext he8
    have q11 := (AtC.mk g0 g1 g2 y5).ext he8
    clear f0 f1 f2 z5 g0 g1 g2 y5
    obtain ⟨f0, f1, f2, z5⟩ := q5
    obtain ⟨g0, g1, g2, y5⟩ := q11
    have hcap := hown8.cap
    rw [Hptl.out] at hcap
    go_wp2_with fail
    refine (HS.out A8 c8 _ (hown8.rd' Hptl.out) hcap.1 hcap.2).mono ?_
    rintro e w9 ⟨A9, c9, rfl, hown9, he9⟩
    have hX9 : Ext w9 (w9.alloc (.cells #[.bool false, .int .i64 0, .slice A9 0 c9] 24)) := (Ext.refl w9).alloc _
    have q5 := (AtC.mk f0 f1 f2 z5).ext he9
    have q11 := (AtC.mk g0 g1 g2 y5).ext he9
    clear f0 f1 f2 z5 g0 g1 g2 y5
    obtain ⟨f0, f1, f2, z5⟩ := q5
    obtain ⟨g0, g1, g2, y5⟩ := q11
    have hE9 := ((hE7.trans he8).trans he9).trans hX9
    have hA9 := ((hA7.ext he8).ext he9).ext hX9
    have o9 := ((o7.ext he8).ext he9).ext hX9
    clear hcap
    go_wp2_with fail
    refine (alike_yes nul num A7 n c7 txt A n c _ (o9.rd' Hn.out) hA9 hn2).mono ?_
    rintro e w10 ⟨rfl, he10⟩
    go_wp2
    go_ret
    exact ⟨rfl, hE9.trans he10⟩
  · have hL : cputL k nul num txt = [] := by unfold cputL; rw [if_neg hR]
    obtain ⟨R, hRe⟩ : ∃ R, R = chk k true nul num txt := ⟨_, rfl⟩
    rw [← hRe] at hR
    have HR := Lib.hid hRe
    have b1 : (R != 0) = true := by rw [bne_iff_ne]; exact hR
    have HPp : Hid (∀ (B : Option Addr) (cb : Nat) (W : World), Rd .u8 W B n txt → Calls Try.prog 22 #[.int .i64 k, .agg #[.bool nul, .int .i64 num, .slice B n cb]] W fun e w' => ∃ A' c', e = .returned (.tuple #[.slice A' 0 c', .int .i64 R]) ∧ Own .u8 5 w' W.heap.size A' c' [] ∧ Ext W w') := Lib.hid (fun B cb W hW => by
      have h := cput_any k nul num B n cb txt W hW hu hn1 h0 h1
      rw [hL, ← hRe] at h
      exact h)
    clear hL hRe hR hxl hyl hxu hyu
    go_enter Try.func6, Try.ntmps6
    go_wp2_with fail
    refine (alive5 _).mono ?_
    rintro e w1 ⟨rfl, he1⟩
    obtain ⟨f0, f1, f2, z5⟩ := (AtC.box w nul num A n c).ext he1
    have hA1 := (hrd.ext hE).ext he1
    have hE1 := hE.trans he1
    go_wp2_with fail
    refine (twin_any nul num A n c txt _ hA1 hn1).mono ?_
    rintro e w2 ⟨A2, c2, rfl, hown2, he2⟩
    have q5 := (AtC.mk f0 f1 f2 z5).ext he2
    clear f0 f1 f2 z5
    obtain ⟨f0, f1, f2, z5⟩ := q5
    go_wp2_with fail
    refine (HPp.out A2 c2 _ (hown2.rd' Hn.out)).mono ?_
    rintro e w3 ⟨A3, c3, rfl, hown3, he3⟩
    have q5 := (AtC.mk f0 f1 f2 z5).ext he3
    clear f0 f1 f2 z5
    obtain ⟨f0, f1, f2, z5⟩ := q5
    have hA3 := (hA1.ext he2).ext he3
    have hE3 := (hE1.trans he2).trans he3
    go_wp2_with fail
    refine (refCheck_any k true nul num A n c txt _ hA3 h0 h1 hn1).mono ?_
    rintro e w4 ⟨rfl, he4⟩
    rw [← HR.out]
    go_wp2
    go_ret
    exact ⟨rfl, hE3.trans he4⟩

end Go.Proofs.Ytdnbmffedccakaa
