import Derived.Test.YtfghepkojcebfaaGreatG15

/-
  Layer 12: the statement BlockOnly, walked.
-/
namespace Go.Proofs.YtfghepkojcebfaaGreat
open Go.RowKit
set_option maxRecDepth 100000

set_option maxHeartbeats 3200000 in
theorem walk_BlockOnly (k : Int) (A : Option Addr) (n c : Nat) (bs : List Nat) (w : World) (hb : Rd .u8 w A n bs) (hu : U8 bs) (hn : n * 1 ≤ 140737488351232) :
    Calls Tryz.prog 7 #[.int .i64 k, .slice A n c] w fun e w' => e = .returned (.bool true) ∧ Ext w w' := by
  have Hl := Lib.hid hb.len
  have HCp := Lib.hid (fun W (hW : Ext w W) => copy_any A n c bs W (hb.ext hW) (by omega))
  have HD := Lib.hid (fun W A' c' (hr : Rd .u8 W A' n bs) (hc : n ≤ c') (hm : c' ≤ 9223372036854775807) => bdecode_any k A' n c' bs W hr hu (by omega) hc hm)
  have hbk := fun vs xs => bdec_back (k := k) (bs := bs) (vs := vs) (xs := xs) hu
  have hbad := bdec_bad (k := k) (bs := bs)
  have hvi : ∀ v ∈ (bdecR k bs).1, VIn v := by
    unfold bdecR
    split
    · intro v hv; cases hv
    · split
      · intro v hv; cases hv
      · split
        · intro v hv; cases hv
        · split
          · intro v hv; cases hv
          · split
            · intro v hv; cases hv
            · exact getB_in (fun v hv => hu v (List.mem_of_mem_take hv))
  have hvl : (bdecR k bs).1.length ≤ 4096 := by
    unfold bdecR
    split
    · simp
    · split
      · simp
      · split
        · simp
        · split
          · simp
          · split
            · simp
            · exact getB_len (fun v hv => hu v (List.mem_of_mem_take hv))
  have Hu0 := Lib.hid (hu.at_ 0)
  obtain ⟨⟨vs, e0⟩, hR⟩ : ∃ R, R = bdecR k bs := ⟨_, rfl⟩
  unfold GcPost at HD
  rw [← hR] at HD hbk hbad hvi hvl
  simp only at HD hbad hvi hvl
  have Hbk := Lib.hid hbk
  have Hbad := Lib.hid hbad
  have Hvi := Lib.hid hvi
  obtain ⟨z, hz⟩ : ∃ z, z = vs.length := ⟨_, rfl⟩
  rw [← hz] at HD hvl
  have Hvl := Lib.hid hvl
  have Hz := Lib.hid hz
  have Hb := Lib.hid hb
  clear hbk hbad hvi hvl hR hb hz hu
  go_enter Tryz.func7, Tryz.ntmps7
  go_wp2_with fail
  refine (alive12 _).mono ?_
  rintro e w1 ⟨rfl, he1⟩
  go_wp2_with fail
  refine (HCp.out _ he1).mono ?_
  rintro e w2 ⟨A2, c2, rfl, ho2, he2⟩
  have hcp := ho2.cap
  rw [Hl.out] at hcp
  have hE2 := he1.trans he2
  go_wp2_with fail
  refine (HD.out _ A2 c2 (ho2.rd' Hl.out) hcp.1 hcp.2).mono ?_
  rintro e w3 ⟨fs, A3, c3, rfl, hv3, ho3, ht3, he3⟩
  have hE3 := hE2.trans he3
  have hfl : fs.length = z := by rw [Hz.out, ← hv3, List.length_map]
  clear he1 he2 he3 ho2 hcp
  by_cases h0 : e0 = 0
  · subst h0
    obtain ⟨h5, hen⟩ := Hbk.out vs fs rfl hv3
    rw [Hl.out] at h5
    obtain ⟨b, o, hA, hbl, hc0⟩ := (Hb.out.ext hE3).at_ (show 0 < n by omega)
    rw [Nat.add_zero] at hc0
    have Hb3 := Lib.hid (Hb.out.ext hE3)
    have hrx := ans_rdX hv3 hfl Hvi.out ho3 (fun f hf => (ht3.1 f hf).rd)
    have hE := bencode_any k (bs.getD 0 0 : Nat) A3 z c3 fs w3 hrx (fun x hx => (ht3.1 x hx).cap) (by have := Hvl.out; omega)
    unfold PEncPost at hE
    rw [hen] at hE
    simp only [Hl.out] at hE
    have hcd8 := Hu0.out
    obtain ⟨cd, hcd⟩ : ∃ cd, cd = bs.getD 0 0 := ⟨_, rfl⟩
    rw [← hcd] at hE hc0 hcd8
    have HE := Lib.hid hE
    have i1 : ¬ (n : Int) < 5 := by omega
    have i2 : (0 : Int) < n := by omega
    subst hA
    clear hcd hE hrx hen ho3 ht3 hv3 hfl
    go_wp2_with fail
    refine HE.out.mono ?_
    rintro e w4 ⟨A4, c4, rfl, ho4, he4⟩
    go_wp2_with fail
    refine (same_yes (c := c4) (c' := c) (ho4.rd' Hl.out) (Hb3.out.ext he4) (by omega)).mono ?_
    rintro e w5 ⟨rfl, q5, rfl⟩
    go_wp2_with fail
    go_ret
    exact ⟨rfl, (hE3.trans he4).drewN q5⟩
  · have hv0 := Hbad.out h0
    have hz0 : z = 0 := by rw [Hz.out, hv0]; rfl
    have hb1 : (e0 != 0) = true := by simp [h0]
    subst hz0
    clear h0 hv0 ho3 ht3 hv3 hfl
    go_wp2_with fail
    go_ret
    exact ⟨rfl, hE3⟩

end Go.Proofs.YtfghepkojcebfaaGreat
