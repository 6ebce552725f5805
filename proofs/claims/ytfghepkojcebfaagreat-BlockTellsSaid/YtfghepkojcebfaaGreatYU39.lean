import Derived.Test.YtfghepkojcebfaaGreatG18
import Derived.Test.YtfghepkojcebfaaGreatYS3
import Derived.Test.YtfghepkojcebfaaGreatG5

/-
  Layer 12: the statement BlockTells, walked.
-/
namespace Go.Proofs.YtfghepkojcebfaaGreat
open Go.RowKit
set_option maxRecDepth 100000

/-- Sealed bytes with a run turned are sealed just where nothing was turned. -/
theorem trn_sld12 {bs : List Nat} (h : U8 bs) (hs : sld bs) (at_ : Int) {p : Nat} (hp : p < 4294967296) : sld (trn bs at_ p) ↔ trn bs at_ p = bs := by
  unfold trn
  split
  · rename_i hc
    rw [sld_tn h hs hp hc.2.2, tn_eq h hc.2.2]
    constructor
    · rintro rfl; simp
    · intro h0
      rcases Nat.mul_eq_zero.1 h0 with h1 | h1
      · exact h1
      · have := Nat.two_pow_pos at_.toNat; omega
  · exact ⟨fun _ => rfl, fun _ => hs⟩
theorem bdec_torn {k : Int} {bs : List Nat} (hk : 1 ≤ k ∧ k ≤ 8) (hl : bs.length ≤ 65000) (hs : ¬ sld bs) : bdecR k bs = ([], 6) := by
  unfold bdecR
  rw [if_neg (by unfold kindK; rw [decide_eq_true hk]; decide), if_neg (by omega), if_pos hs]

set_option maxHeartbeats 3200000 in
theorem walk_BlockTells (k cd : Int) (A : Option Addr) (n c : Nat) (xs : List Ci) (at_ pt : Int) (w : World) (hx : RdX w A n xs) (hn : n * 40 ≤ 140737488351232) (hc : CapX xs) (_h1 : -9223372036854775808 ≤ at_) (_h2 : at_ ≤ 9223372036854775807) (hp0 : 0 ≤ pt) (hpt : pt < 4294967296) :
    Calls Tryz.prog 8 #[.int .i64 k, .int .i64 cd, .slice A n c, .int .i64 at_, .int .u32 pt] w fun e w' => e = .returned (.bool true) ∧ Ext w w' := by
  obtain ⟨pt, rfl⟩ := Int.eq_ofNat_of_zero_le hp0
  have hptl : pt < 4294967296 := by omega
  have HB := Lib.hid (fun W (hW : Ext w W) => bencode_any k cd A n c xs W (hx.ext hW) hc (by omega))
  have HF := Lib.hid (fun W (hW : Ext w W) => refBencode_any k cd A n c xs W (hx.ext hW) hc (by omega))
  have hn2 : n ≤ 4398046511104 := by omega
  by_cases h0 : (bencR k cd xs).2 = 0
  · have hb1 := bdec_fwd hx.nums (fun x h => (hx.all x h).u8) h0
    have hu1 := bencR_u8 k cd hx.nums (fun x h => (hx.all x h).u8)
    have hl1 := bencR_len k cd xs
    obtain ⟨hk, hm, hck, _, hbe⟩ := bencR_ok h0
    have hsd : sld (bencR k cd xs).1 := by rw [hbe]; exact sld_seal (outW_u8 k cd (codecs_mem hm) hx.nums (fun x h => (hx.all x h).u8))
    have Hvi := Lib.hid (val_in12 hx.all (chkB_good hck).2.2)
    unfold PEncPost at HB
    rw [h0] at HB
    obtain ⟨P, hP⟩ : ∃ P, P = (bencR k cd xs).1 := ⟨_, rfl⟩
    rw [← hP] at HB hb1 hu1 hl1 hsd
    have htl := trn_len P at_ pt
    have htu := trn_u8 hu1 at_ pt
    have hiff := trn_sld12 hu1 hsd at_ hptl
    obtain ⟨p, hp⟩ : ∃ p, p = P.length := ⟨_, rfl⟩
    rw [← hp] at HB hl1 htl
    have Hp := Lib.hid hp.symm
    have Htl := Lib.hid htl
    have HTu : Hid (∀ W A' c1, Rd .u8 W A' p P → Calls Tryz.prog 25 #[.slice A' p c1, .int .i64 at_, .int .u32 pt] W fun e w' => ∃ A' c', e = .returned (.slice A' p c') ∧ Own .u8 5 w' W.heap.size A' c' (trn P at_ pt) ∧ Ext W w') := Lib.hid (fun W A' c1 hr => turn_any A' p c1 pt at_ P W hr hu1 (by omega) hptl)
    have hvl : (xs.map Ci.val).length = n := by rw [List.length_map]; exact hx.1
    have Hvl := Lib.hid hvl
    have Hx := Lib.hid hx
    have hlI : (p : Int) ≤ 65000 := by omega
    have Hpl := Lib.hid hl1
    by_cases ht : trn P at_ pt = P
    · have HD := Lib.hid (fun W A' c1 (hr : Rd .u8 W A' p P) (h1 : p ≤ c1) (h2 : c1 ≤ 9223372036854775807) => bdecode_any k A' p c1 P W hr hu1 (by omega) h1 h2)
      unfold GcPost at HD
      rw [hb1] at HD
      simp only [hvl] at HD
      rw [ht] at HTu
      clear hb1 hu1 hl1 hm hck hbe hsd hP htl htu hiff hp hvl hx hc hn h0 HF hk ht
      go_enter Tryz.func8, Tryz.ntmps8
      go_wp2_with fail
      refine (alive12 _).mono ?_
      rintro e w1 ⟨rfl, he1⟩
      go_wp2_with fail
      refine (HB.out _ he1).mono ?_
      rintro e w2 ⟨A2, c2, rfl, ho2, he2⟩
      have hE2 := he1.trans he2
      go_wp2_with fail
      refine (HTu.out _ A2 c2 (ho2.rd' Hp.out)).mono ?_
      rintro e w3 ⟨A3, c3, rfl, ho3, he3⟩
      have hE3 := hE2.trans he3
      have hcp3 := ho3.cap
      rw [Hp.out] at hcp3
      go_wp2_with fail
      refine (HD.out _ A3 c3 (ho3.rd' Hp.out) hcp3.1 hcp3.2).mono ?_
      rintro e w4 ⟨fs, A4, c4, rfl, hv4, ho4, ht4, he4⟩
      have hE4 := hE3.trans he4
      have hf4 : fs.length = n := by rw [← Hvl.out, ← hv4, List.length_map]
      have hr4 := Lib.hid (ans_rdX hv4 hf4 Hvi.out ho4 (fun f hf => (ht4.1 f hf).rd))
      have hA := Lib.hid (fun W (hW : Ext w4 W) => alikeRow_any A4 n c4 fs A n c xs W (hr4.out.ext hW) (Hx.out.ext (hE4.trans hW)) (by omega) (by omega))
      rw [alkR_iff.2 hv4] at hA
      have hS := Lib.hid (same_yes (c := c3) (c' := c2) (w := w4) ((ho3.ext he4).rd' Hp.out) (((ho2.ext he3).ext he4).rd' Hp.out) (by have := Hpl.out; omega))
      clear ho4 ht4 hv4 hf4 hcp3 ho2 ho3
      go_wp2_with fail
      refine hS.out.mono ?_
      rintro e w5 ⟨rfl, q5, rfl⟩
      go_wp2_with fail
      refine (hA.out _ ((Ext.refl _).drewN _)).mono ?_
      rintro e w6 ⟨rfl, he6⟩
      go_wp2_with fail
      go_ret
      exact ⟨rfl, (hE4.drewN _).trans he6⟩
    · have hbd := bdec_torn (k := k) hk (by rw [htl]; exact hl1) (fun q => ht (hiff.1 q))
      have HD := Lib.hid (fun W A' c1 (hr : Rd .u8 W A' p (trn P at_ pt)) (h1 : p ≤ c1) (h2 : c1 ≤ 9223372036854775807) => bdecode_any k A' p c1 (trn P at_ pt) W hr htu (by omega) h1 h2)
      unfold GcPost at HD
      rw [hbd] at HD
      simp only [List.length_nil] at HD
      have hdec : decide (trn P at_ pt = P) = false := decide_eq_false ht
      obtain ⟨T, hT⟩ : ∃ T, T = trn P at_ pt := ⟨_, rfl⟩
      rw [← hT] at HD HTu Htl hdec
      clear hb1 hu1 hl1 hm hck hbe hsd hP htl htu hiff hp hvl hx hc hn h0 HF hk ht hbd hT
      have Hdec := Lib.hid hdec
      clear hdec
      go_enter Tryz.func8, Tryz.ntmps8
      go_wp2_with fail
      refine (alive12 _).mono ?_
      rintro e w1 ⟨rfl, he1⟩
      go_wp2_with fail
      refine (HB.out _ he1).mono ?_
      rintro e w2 ⟨A2, c2, rfl, ho2, he2⟩
      have hE2 := he1.trans he2
      go_wp2_with fail
      refine (HTu.out _ A2 c2 (ho2.rd' Hp.out)).mono ?_
      rintro e w3 ⟨A3, c3, rfl, ho3, he3⟩
      have hE3 := hE2.trans he3
      have hcp3 := ho3.cap
      rw [Htl.out] at hcp3
      go_wp2_with fail
      refine (HD.out _ A3 c3 (ho3.rd' Htl.out) hcp3.1 hcp3.2).mono ?_
      rintro e w4 ⟨fs, A4, c4, rfl, hv4, ho4, ht4, he4⟩
      have hE4 := hE3.trans he4
      have hS := Lib.hid (same_any A3 A2 p c3 p c2 T P w4 ((ho3.ext he4).rd' Htl.out) (((ho2.ext he3).ext he4).rd' Hp.out) (by have := Hpl.out; omega) (by have := Hpl.out; omega))
      rw [Hdec.out] at hS
      clear ho4 ht4 hv4 hcp3 ho2 ho3
      go_wp2_with fail
      refine hS.out.mono ?_
      rintro e w5 ⟨rfl, q5, rfl⟩
      go_wp2_with fail
      go_ret
      exact ⟨rfl, hE4.drewN _⟩
  · obtain ⟨F, hF⟩ : ∃ F, F = (bencR k cd xs).2 := ⟨_, rfl⟩
    unfold PEncPost at HB HF
    rw [← hF] at HB HF h0
    have k1 : (F == F) = true := by simp
    have k2 : (F != 0) = true := by simp [h0]
    obtain ⟨P, hP⟩ : ∃ P, P = (bencR k cd xs).1 := ⟨_, rfl⟩
    rw [← hP] at HB HF
    clear hF hx hc hn h0 hP
    go_enter Tryz.func8, Tryz.ntmps8
    go_wp2_with fail
    refine (alive12 _).mono ?_
    rintro e w1 ⟨rfl, he1⟩
    go_wp2_with fail
    refine (HB.out _ he1).mono ?_
    rintro e w2 ⟨A2, c2, rfl, ho2, he2⟩
    have hE2 := he1.trans he2
    go_wp2_with fail
    refine (HF.out _ hE2).mono ?_
    rintro e w3 ⟨A3, c3, rfl, ho3, he3⟩
    have hE3 := hE2.trans he3
    clear ho2 ho3
    go_wp2_with fail
    go_ret
    exact ⟨rfl, hE3⟩

end Go.Proofs.YtfghepkojcebfaaGreat
