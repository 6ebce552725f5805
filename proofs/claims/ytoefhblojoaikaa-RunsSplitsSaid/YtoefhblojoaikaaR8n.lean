/-
  Layer 8: the statements RunsSplits and RunsFew, walked.
-/
import Derived.Test.YtoefhblojoaikaaR8m
namespace Go.Proofs.Ytoefhblojoaikaa
open Go.RowKit

theorem apart3U {w2 w3 w4 w5 : World} {A3 A4 A5 : Option Addr} {c3 c4 c5 n : Nat} {xs : List Nat} (h3 : Own .u8 5 w3 w2.heap.size A3 c3 xs) (e3 : Ext w2 w3) (h4 : Own .u8 5 w4 w3.heap.size A4 c4 xs) (e4 : Ext w3 w4)
    (h5 : Own .u8 5 w5 w4.heap.size A5 c5 xs) (e5 : Ext w4 w5) (hl : xs.length = n) (hu : U8 xs) (hn : n + 70 ≤ 180000000000000) :
    Calls Try.prog 19 #[.slice A3 n c3, .slice A4 n c4, .slice A5 n c5] w5 fun e w' => e = .returned (.bool true) ∧ Ext w2 w' := by
  refine apart_any A3 A4 A5 n c3 c4 c5 w2.heap.size xs w2 w5 ((h3.ext e4).ext e5) hl hu ((h4.ext e5).rd' hl) (h5.rd' hl) ?_ ?_ ((e3.trans e4).trans e5) (Nat.le_refl _) ((e3.trans e4).trans e5).size hn
  · intro a a2 ha ha2
    have := (h3.block a ha).2
    have := (h4.block a2 ha2).1
    omega
  · intro a a3 ha ha3
    have := (h3.block a ha).2
    have := (h5.block a3 ha3).1
    have := e4.size
    omega

theorem encL_u8 (rs : List (Int × Int)) : U8 (encL rs) := by
  induction rs with
  | nil => intro v hv; cases hv
  | cons r rs ih =>
    rw [encL_cons]
    intro v hv
    rcases List.mem_append.1 hv with h | h
    · exact vput_u8 _ v h
    · rcases List.mem_append.1 h with h | h
      · exact vput_u8 _ v h
      · exact ih v h
theorem encR_u8 (rs : List (Int × Int)) : U8 (encR rs) := by
  intro v hv
  rcases List.mem_append.1 hv with h | h
  · exact vput_u8 _ v h
  · exact encL_u8 rs v h
theorem encode8_u8 (vs : List Int) : U8 (encode8 vs).1 := by
  unfold encode8
  split
  · intro v hv; cases hv
  · exact encR_u8 _
theorem encode8_len {vs : List Int} (h : R64s vs) : (encode8 vs).1.length ≤ 100000 := by
  unfold encode8
  split
  · simp
  · show (encR (rsp vs)).length ≤ _
    have h1 := encL_le (rsp_each h (by omega))
    have h2 := (rsp_len h).1
    have h3 := vsize_le (u := (rsp vs).length) (by omega)
    rw [encR_len, vput_len]
    omega
theorem split8_len {vs : List Int} (h : R64s vs) : (split8 vs).1.length ≤ 4096 ∧ ∀ r ∈ (split8 vs).1, 0 ≤ r.2 ∧ r.2 ≤ 4096 := by
  unfold split8
  split
  · exact ⟨by simp, fun r hr => by cases hr⟩
  · exact ⟨Nat.le_trans (rsp_len h).1 (by omega), fun r hr => (rsp_each h (by omega) r hr).2⟩

set_option maxHeartbeats 6400000 in
theorem walk_RunsSplits (A : Option Addr) (n c : Nat) (vs : List Int) (w : World) (hx : RdG shZ w A n vs) (hv : R64s vs) (hn : n * 8 ≤ 140737488351232) :
    Calls Try.prog 3 #[.slice A n c] w fun e w' => e = .returned (.bool true) ∧ Ext w w' := by
  have Hl := Lib.hid hx.len
  obtain ⟨hs1, hs2⟩ := split8_len hv
  have he1 := encode8_len hv
  have he2 := encode8_u8 vs
  obtain ⟨⟨L, E⟩, hR⟩ : ∃ R, R = split8 vs := ⟨_, rfl⟩
  obtain ⟨⟨P, F⟩, hR2⟩ : ∃ R, R = encode8 vs := ⟨_, rfl⟩
  rw [← hR] at hs1 hs2
  rw [← hR2] at he1 he2
  simp only at hs1 hs2 he1 he2
  obtain ⟨m, hm⟩ : ∃ m, m = L.length := ⟨_, rfl⟩
  obtain ⟨p, hp⟩ : ∃ p, p = P.length := ⟨_, rfl⟩
  rw [← hm] at hs1
  rw [← hp] at he1
  have Hm := Lib.hid hm.symm
  have Hp := Lib.hid hp.symm
  have HS1 : Hid (∀ (B : Option Addr) (cb : Nat) (W : World), RdG shZ W B n vs → Calls Try.prog 14 #[.slice B n cb] W fun e w' => ∃ A' c', e = .returned (.tuple #[.slice A' m c', .int .i64 E]) ∧ OwnG shR 33 w' W.heap.size A' c' L ∧ Ext W w') := Lib.hid (fun B cb W h1 => by
    have h := split_any B n cb vs W h1 hv
    unfold SplitPost at h
    rw [← hR] at h
    simp only [← hm] at h
    exact h)
  have HS2 : Hid (∀ (B : Option Addr) (cb : Nat) (W : World), RdG shZ W B n vs → Calls Try.prog 15 #[.slice B n cb] W fun e w' => ∃ A' c', e = .returned (.tuple #[.slice A' m c', .int .i64 E]) ∧ OwnG shR 33 w' W.heap.size A' c' L ∧ Ext W w') := Lib.hid (fun B cb W h1 => by
    have h := refSplit_any B n cb vs W h1 hv
    unfold SplitPost at h
    rw [← hR] at h
    simp only [← hm] at h
    exact h)
  have HE1 : Hid (∀ (B : Option Addr) (cb : Nat) (W : World), RdG shZ W B n vs → Calls Try.prog 17 #[.slice B n cb] W fun e w' => ∃ A' c', e = .returned (.tuple #[.slice A' p c', .int .i64 F]) ∧ Own .u8 5 w' W.heap.size A' c' P ∧ Ext W w') := Lib.hid (fun B cb W h1 => by
    have h := encode_any B n cb vs W h1 hv
    unfold EncPost at h
    rw [← hR2] at h
    simp only [← hp] at h
    exact h)
  have HE2 : Hid (∀ (B : Option Addr) (cb : Nat) (W : World), RdG shZ W B n vs → Calls Try.prog 18 #[.slice B n cb] W fun e w' => ∃ A' c', e = .returned (.tuple #[.slice A' p c', .int .i64 F]) ∧ Own .u8 5 w' W.heap.size A' c' P ∧ Ext W w') := Lib.hid (fun B cb W h1 => by
    have h := refEncode_any B n cb vs W h1 hv
    unfold EncPost at h
    rw [← hR2] at h
    simp only [← hp] at h
    exact h)
  have k1 : (E != E) = false := by simp
  have k2 : (F == F) = true := by simp
  have Hs2 := Lib.hid hs2
  have Hu := Lib.hid he2
  clear hm hp hR hR2 hv hs2 he2
  go_enter Try.func3, Try.ntmps3
  go_wp2_with fail
  refine (alive8 _).mono ?_
  rintro e w1 ⟨rfl, he1⟩
  have hx1 := hx.ext he1
  go_wp2_with fail
  refine (copyZ_any A n c vs _ hx1 (by omega)).mono ?_
  rintro e w2 ⟨A2, c2, rfl, hown2, he2⟩
  have hx2 := hx1.ext he2
  have hmine := hown2.rd' Hl.out
  have hE2 := he1.trans he2
  clear hown2 he1 he2 hx1 hx
  go_wp2_with fail
  refine (HS1.out _ _ _ hmine).mono ?_
  rintro e w3 ⟨A3, c3, rfl, hown3, he3⟩
  go_wp2_with fail
  refine (HS1.out _ _ _ (hmine.ext he3)).mono ?_
  rintro e w4 ⟨A4, c4, rfl, hown4, he4⟩
  go_wp2_with fail
  refine (HS2.out _ _ _ ((hx2.ext he3).ext he4)).mono ?_
  rintro e w5 ⟨A5, c5, rfl, hown5, he5⟩
  go_wp2_with fail
  refine (sameR_yes (((hown3.ext he4).ext he5).rd' Hm.out) (hown5.rd' Hm.out) (by omega)).mono ?_
  rintro e w6 ⟨rfl, q6, rfl⟩
  go_wp2_with fail
  refine (sameR_yes (((hown4.ext he5).rd' Hm.out).drewN q6) ((hown5.rd' Hm.out).drewN q6) (by omega)).mono ?_
  rintro e w7 ⟨rfl, q7, rfl⟩
  have ne2 : ∀ a a2, A3 = some a → A4 = some a2 → a2.block ≠ a.block := fun a a2 ha ha2 => by have := (hown3.block a ha).2; have := (hown4.block a2 ha2).1; omega
  have ne3 : ∀ a a2, A3 = some a → A5 = some a2 → a2.block ≠ a.block := fun a a2 ha ha2 => by have := (hown3.block a ha).2; have := (hown5.block a2 ha2).1; have := he4.size; omega
  have h0 : ∃ ys : List (Int × Int), ys.length = m ∧ OwnG shR 33 (w5.drewN (q6 + q7)) w2.heap.size A3 c3 ys ∧ (∀ t, 0 ≤ t → ys[t]? = L[t]?) ∧ RdG shR (w5.drewN (q6 + q7)) A4 m L ∧ RdG shR (w5.drewN (q6 + q7)) A5 m L ∧ Ext w2 (w5.drewN (q6 + q7)) :=
    ⟨L, Hm.out, ((hown3.ext he4).ext he5).ext ((Ext.refl w5).drewN _), fun _ _ => rfl, (hown4.ext he5).rd' Hm.out, hown5.rd' Hm.out, ((he3.trans he4).trans he5).drewN _⟩
  clear hown3 hown4 hown5 he3 he4 he5
  go_wp2_with fail
  go_loopw [53] (fun i wr => ∃ (j : Nat) (ys : List (Int × Int)), j ≤ m ∧ i = .int .i64 j ∧ ys.length = m ∧ OwnG shR 33 wr w2.heap.size A3 c3 ys ∧ (∀ t, j ≤ t → ys[t]? = L[t]?) ∧ RdG shR wr A4 m L ∧ RdG shR wr A5 m L ∧ Ext w2 wr) (fun i _ => m - (intOf i).toNat)
  case atStart => obtain ⟨ys, h1, h2⟩ := h0; exact ⟨0, ys, Nat.zero_le _, rfl, h1, h2⟩
  case round =>
    clear h0
    obtain ⟨j, ys, hj, rfl, hyl, hown, hsame, hy, hz, hE⟩ := hrel
    by_cases hlt : j < m
    · obtain ⟨b, x, rfl, hbb, hbl, hxj, hc, hfr, hst⟩ := hown.at_ (j := j) (by omega)
      obtain ⟨v, k⟩ := x
      have hk := Hs2.out (v, k) (List.mem_of_getElem? ((hsame j (Nat.le_refl _)).symm.trans hxj))
      simp only at hk
      have hc1 := hc 1 _ rfl
      have hf1 := hfr (j * 2 + 1)
      rw [show j * shR.sz + 1 = j * 2 + 1 from rfl] at hc1
      simp only at hc1
      obtain ⟨h1, h2⟩ := hst 1 (v, k + 1) (.int .i64 (k + 1)) (by decide) rfl
      rw [show j * shR.sz + 1 = j * 2 + 1 from rfl] at h1 h2
      have hY := hy.grown h2 (fun _ a ha e => ne2 _ a rfl ha (by simpa using e))
      have hZ := hz.grown h2 (fun _ a ha e => ne3 _ a rfl ha (by simpa using e))
      have hX := grownBy_ext hE h2 (by intro g hg; injection hg with hg; subst hg; exact hbb)
      have Hyl := Lib.hid hyl
      have HN := Lib.hid (show ∀ t, j + 1 ≤ t → (ys.set j (v, k + 1))[t]? = L[t]? from fun t ht => by rw [List.getElem?_set_ne (by omega)]; exact hsame t (by omega))
      clear hst hc hfr hyl hown hy hz hE h2 hsame hxj
      go_wp2_with fail
      go_roundw
      case rel => exact ⟨j + 1, _, by omega, by go_num, (by rw [List.length_set]; exact Hyl.out), h1, HN.out, hY, hZ, hX⟩
      case measure => simp [intOf]; omega
    · have hmr := hmine.ext hE
      have hxr := hx2.ext hE
      have hE3 := hE2.trans hE
      clear hsame hown hyl hE
      go_wp2_with fail
      refine (HE1.out _ _ _ hmr).mono ?_
      rintro e w8 ⟨A8, c8, rfl, hown8, he8⟩
      go_wp2_with fail
      refine (HE1.out _ _ _ (hmr.ext he8)).mono ?_
      rintro e w9 ⟨A9, c9, rfl, hown9, he9⟩
      go_wp2_with fail
      refine (HE2.out _ _ _ ((hxr.ext he8).ext he9)).mono ?_
      rintro e w10 ⟨A10, c10, rfl, hown10, he10⟩
      go_wp2_with fail
      refine (apart3U hown8 he8 hown9 he9 hown10 he10 Hp.out Hu.out (by omega)).mono ?_
      rintro e w11 ⟨rfl, he11⟩
      go_wp2_with fail
      refine (sameR_yes (hy.ext he11) (hz.ext he11) (by omega)).mono ?_
      rintro e w12 ⟨rfl, q12, rfl⟩
      go_wp2_with fail
      refine (sameZ_yes ((hmr.ext he11).drewN q12) ((hxr.ext he11).drewN q12) (by omega)).mono ?_
      rintro e w13 ⟨rfl, q13, rfl⟩
      go_wp2_with fail
      go_ret
      exact ⟨rfl, (hE3.trans he11).drewN _⟩

end Go.Proofs.Ytoefhblojoaikaa
