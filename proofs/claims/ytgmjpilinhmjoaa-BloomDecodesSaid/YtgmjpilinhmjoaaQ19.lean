/-
  Layer 13: BloomDecodes.
-/
import Derived.Test.YtgmjpilinhmjoaaQ18
import Derived.Test.YtgmjpilinhmjoaaQ17
namespace Go.Proofs.Ytgmjpilinhmjoaa
open Go.RowKit
set_option maxRecDepth 100000

/-- What a filter that is read holds, as bytes, is what was read. -/
theorem dec_enc_back {bs : List Nat} (hu : U8 bs) (hl : bs.length ≤ 140737488355328) (h : fdecE bs = 0) : encF (fdecR bs) = bs ∧ 8 ≤ (fdecR bs).length ∧ (fdecR bs).length ≤ 5120 := by
  by_cases hs : sld bs
  · unfold fdecE at h
    rw [if_neg (by simpa using hs)] at h
    have hbu : U8 (bodyF bs) := u8_take hu _
    have hbl : (bodyF bs).length = bs.length - 4 := by rw [bodyF, List.length_take]; omega
    obtain ⟨⟨v, n, e⟩, hv⟩ : ∃ q, q = vget (bodyF bs) 0 := ⟨_, rfl⟩
    rw [← hv] at h
    simp only at h
    by_cases he : e = 0
    · subst he
      rw [if_neg (by simp)] at h
      by_cases h5 : v < 8 ∨ 5120 < v
      · rw [if_pos h5] at h; cases h
      rw [if_neg h5] at h
      by_cases h6 : ((bodyF bs).length : Int) - n < v
      · rw [if_pos h6] at h; cases h
      rw [if_neg h6] at h
      by_cases h7 : (v : Int) < ((bodyF bs).length : Int) - n
      · rw [if_pos h7] at h; cases h
      obtain ⟨ha, han, hnl, hv64, hput⟩ := vget_at hbu hv.symm
      have hR : fdecR bs = (bodyF bs).drop n.toNat := by unfold fdecR; rw [← hv]
      have hRl : (fdecR bs).length = v := by rw [hR, List.length_drop]; omega
      rw [Int.toNat_zero, List.drop_zero, Nat.sub_zero] at hput
      refine ⟨?_, by omega, by omega⟩
      have hcat : vput v ++ fdecR bs = bodyF bs := by rw [hput, hR, List.take_append_drop]
      rw [encF, hRl, hcat, sl]
      have h4 := hs.1
      have hd : bs.drop (bs.length - 4) = upk 8 4 (crc (bodyF bs)) := by
        have e1 := upk_pk (w := 8) (vs := bs.drop (bs.length - 4)) (U8_wd.1 (u8_drop hu _))
        rw [hs.2, List.length_drop, show bs.length - (bs.length - 4) = 4 by omega] at e1
        exact e1.symm
      rw [← hd, bodyF, List.take_append_drop]
    · rw [if_pos he] at h; exact absurd h he
  · unfold fdecE at h
    rw [if_pos (by simpa using hs)] at h
    cases h

set_option maxHeartbeats 8000000 in
theorem walk_BloomDecodes (A : Option Addr) (n c : Nat) (bs : List Nat) (A4 : Option Addr) (n4 c4 : Nat) (ask : List Nat) (w : World) (hx : Rd .u8 w A n bs) (hub : U8 bs) (hn : n * 1 ≤ 140737488351232) (hy : Rd .u8 w A4 n4 ask) (hu : U8 ask) (hn4 : n4 * 1 ≤ 140737488351232) :
    Calls Try.prog 4 #[.slice A n c, .slice A4 n4 c4] w fun e w' => e = .returned (.bool true) ∧ Ext w w' := by
  have hl := hx.len
  have hback := dec_enc_back hub (by omega)
  have Hx := Lib.hid hx
  have Hy := Lib.hid hy
  have Hl := Lib.hid hl
  have Hub := Lib.hid hub
  have Hback := Lib.hid hback
  clear hx hy hl hback hub
  go_enter Try.func4, Try.ntmps4
  go_wp2_with fail
  refine (alive13 w).mono ?_
  rintro e w0 ⟨rfl, he0⟩
  go_wp2_with fail
  refine (wide_any A n c bs w0 (Hx.out.ext he0) (by omega)).mono ?_
  rintro e w3 ⟨A3, c3, rfl, hown3, he3⟩
  obtain ⟨b3, rfl, hb3, hb4, hb5, hb6⟩ := hown3.form (by simp [marks_len])
  rw [List.length_append, marks_len, Hl.out] at hb5
  have hsl := run_upto .i64 (some ⟨b3, 0, none⟩) (n + 64) c3 n (by omega)
  have hml : Hid ((bs ++ marks 64).length = n + 64) := Lib.hid (by rw [List.length_append, marks_len, Hl.out])
  have hkr : Hid (Rd .u8 w3 (some ⟨b3, 0, none⟩) n bs) := Lib.hid (by
    have := (hown3.rd' (n := n + 64) hml.out).upto (k := n) (by omega)
    have e : (bs ++ marks 64).take n = bs := by rw [← Hl.out]; exact take_cat _ _
    rw [e] at this
    exact this)
  have HO3 := Lib.hid hown3
  have hE3 := he0.trans he3
  clear hown3
  go_wp2_with fail
  refine (fdecode_any (some ⟨b3, 0, none⟩) n c3 bs w3 hkr.out Hub.out (by omega) (by omega) hb6).mono ?_
  rintro e w4 ⟨he4, hd4⟩
  have HR := Lib.hid (refDecode_any A n c bs w4 (Hx.out.ext (hE3.trans he4)) Hub.out (by omega))
  have hE4 := hE3.trans he4
  rcases hd4 with ⟨hne, rfl⟩ | ⟨h0, g, r, rfl, hf4⟩
  · obtain ⟨E, hE⟩ : ∃ E, E = fdecE bs := ⟨_, rfl⟩
    have HE := Lib.hid hE
    have hne2 : ¬ E = 0 := by rw [hE]; exact hne
    have hneb : (E == 0) = false := beq_eq_false_iff_ne.2 hne2
    have hneb2 : (E != 0) = true := by rw [bne, hneb]; rfl
    rw [← hE]
    clear hE hne
    go_wp2_with fail
    refine HR.out.mono ?_
    rintro e w5 ⟨he5, ⟨h5, rfl⟩ | ⟨h5, _⟩⟩
    · rw [← HE.out]
      have HE5 := Lib.hid (hE4.trans he5)
      have HO5 := Lib.hid (HO3.out.ext (he4.trans he5))
      go_wp2_with fail
      refine (intact_yes (HO5.out.rd' hml.out) (Hx.out.ext HE5.out) (by omega) (by omega)).mono ?_
      rintro e w6 ⟨rfl, q6, rfl⟩
      go_wp2_with fail
      go_ret
      exact ⟨rfl, HE5.out.trans ((Ext.refl _).drewN q6)⟩
    · exact absurd (by rw [HE.out]; exact h5) hne2
  · go_wp2_with fail
    refine HR.out.mono ?_
    rintro e w5 ⟨he5, ⟨h5, _⟩ | ⟨_, A5, c5, rfl, hO5⟩⟩
    · exact absurd h0 h5
    · obtain ⟨hb1, lo, hi⟩ := Hback.out h0
      obtain ⟨F, hF⟩ : ∃ F, F = fdecR bs := ⟨_, rfl⟩
      rw [← hF] at hf4 hO5 hb1 lo hi ⊢
      have hf5 := hf4.ext he5
      have hE5 := hE4.trans he5
      obtain ⟨M, hM⟩ : ∃ M, M = 8 * F.length := ⟨_, rfl⟩
      rw [← hM]
      have hgr := hf4.rlt
      have hgb := hf4.big
      have HE5 := Lib.hid hE5
      have HO5 := Lib.hid (HO3.out.ext (he4.trans he5))
      have Hf5 := Lib.hid hf5
      have HB5 := Lib.hid hO5
      have HM := Lib.hid hM
      have Hb1 := Lib.hid hb1
      have hblk := Lib.hid hO5.block
      have hmu : Hid (U8 (bs ++ marks 64)) := Lib.hid (u8_append Hub.out marks_u8)
      have hs4 := he4.size
      clear hf4 hf5 hE5 hO5 hM hF hb1
      go_wp2_with fail
      refine (intact_yes (HO5.out.rd' hml.out) (Hx.out.ext HE5.out) (by omega) (by omega)).mono ?_
      rintro e w6 ⟨rfl, q6, rfl⟩
      go_wp2_with fail
      refine (spoil_any (some ⟨b3, 0, none⟩) (n + 64) c3 _ (bs ++ marks 64) _ (HO5.out.ext ((Ext.refl _).drewN q6)) hml.out hmu.out (by omega)).mono ?_
      rintro e w7 ⟨rfl, hO7, hg7⟩
      have hg7' : (w5.drewN q6).grownBy w7 (some b3) := hg7
      have hs0 := he0.size
      have hf7 := (Hf5.out.ext ((Ext.refl _).drewN q6)).grown hg7' (fun e => by have e2 : g = b3 := Option.some.inj e; omega) (fun e => by have e2 : r = b3 := Option.some.inj e; omega)
      have hB7 := (HB5.out.ext ((Ext.refl _).drewN q6)).grown hg7' (fun a e e2 => by have h1 := (hblk.out a e).1; have h2 : a.block = b3 := Option.some.inj e2; omega)
      have hE7 : Ext w w7 := grownBy_ext (HE5.out.trans ((Ext.refl _).drewN q6)) hg7' (fun x e => by have e2 : b3 = x := Option.some.inj e; omega)
      have hr := hB7.rd
      rw [bb_len, ← HM.out] at hr
      have HB := Lib.hid (bits_any _ g r F w7 hf7)
      rw [← HM.out] at HB
      have HC := Lib.hid (count_any _ g r F w7 hf7)
      have HC2 := Lib.hid (refCount_any A5 c5 F w7 (by rw [← HM.out]; exact hr) hi)
      rw [← HM.out] at HC2
      have HHs := Lib.hid (has_any _ g r F A4 n4 c4 ask w7 hf7 (Hy.out.ext hE7) hu (by omega))
      have HHr : Hid (∀ W, Ext w7 W → Calls Try.prog 19 #[.slice A5 M c5, .slice A4 n4 c4] W fun e w' => e = .returned (.bool (hasF F ask)) ∧ W = w') := Lib.hid (fun W hW => by
        have := refHas_any A5 c5 F A4 n4 c4 ask W (by rw [← HM.out]; exact hr.ext hW) lo hi (Hy.out.ext (hE7.trans hW)) hu (by omega)
        rwa [← HM.out] at this)
      have HEn : Hid (∀ W, Ext w7 W → Calls Try.prog 23 #[.pointer (some ⟨g, 0, none⟩)] W fun e w' => ∃ A' c', e = .returned (.slice A' n c') ∧ Own .u8 5 w' W.heap.size A' c' bs ∧ Ext W w') := Lib.hid (fun W hW => by
        have := encode_any _ g r F W (hf7.ext hW)
        rw [Hb1.out, Hl.out] at this
        exact this)
      have HE7 := Lib.hid hE7
      clear hf7 hB7 hr hg7 hg7' hO7 hE7
      go_wp2_with fail
      refine HB.out.mono ?_
      rintro e wa ⟨rfl, rfl⟩
      go_wp2_with fail
      refine HC.out.mono ?_
      rintro e wa ⟨rfl, rfl⟩
      go_wp2_with fail
      refine HC2.out.mono ?_
      rintro e wa ⟨rfl, rfl⟩
      go_wp2_with fail
      refine HHs.out.mono ?_
      rintro e wa ⟨rfl, hea⟩
      go_wp2_with fail
      refine (HHr.out _ hea).mono ?_
      rintro e wb ⟨rfl, rfl⟩
      go_wp2_with fail
      refine (HEn.out _ hea).mono ?_
      rintro e wb ⟨B1, d1, rfl, o1, f1⟩
      have HEb := Lib.hid ((HE7.out.trans hea).trans f1)
      go_wp2_with fail
      refine (same_yes (o1.rd' Hl.out) (Hx.out.ext HEb.out) (by omega)).mono ?_
      rintro e wc ⟨rfl, qc, rfl⟩
      go_wp2_with fail
      go_ret
      exact ⟨rfl, HEb.out.trans ((Ext.refl _).drewN qc)⟩

end Go.Proofs.Ytgmjpilinhmjoaa
