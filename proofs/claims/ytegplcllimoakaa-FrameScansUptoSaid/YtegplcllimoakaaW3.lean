/-
  Layer 3: the document's examples; the laws of joined sums and of turned runs.
-/
import Derived.Test.YtegplcllimoakaaP2
import Derived.Test.YtegplcllimoakaaS3
import Derived.Lib.SlBytesConst
namespace Go.Proofs.Ytegplcllimoakaa
open Go.RowKit

theorem crc_nine : crc [49, 50, 51, 52, 53, 54, 55, 56, 57] = 3808858755 := by decide +kernel
theorem ext_nine : ext (crc [49, 50, 51, 52]) [53, 54, 55, 56, 57] = 3808858755 := by decide +kernel
theorem join_nine : joined (crc [49, 50, 51, 52]) (crc [53, 54, 55, 56, 57]) 5 = 3808858755 := by decide +kernel
theorem sl_none : sl [] = [0, 0, 0, 0] := by decide +kernel
theorem sld_0 : decide (sld [0, 0, 0, 0]) = true := by decide +kernel
theorem sld_1 : decide (sld [0, 0, 0, 1]) = false := by decide +kernel
theorem u8s_one {a : List Nat} (h : U8 a) : U8s [a] := fun v hv => by simp at hv; subst hv; exact h
theorem u8s_two {a b : List Nat} (h : U8 a) (k : U8 b) : U8s [a, b] := fun v hv => by simp at hv; rcases hv with rfl | rfl <;> assumption
theorem u8s_three {a b c : List Nat} (h : U8 a) (k : U8 b) (l : U8 c) : U8s [a, b, c] := fun v hv => by simp at hv; rcases hv with rfl | rfl | rfl <;> assumption

/-- '[]byte("..")' of a constant: the row gets its mark. -/
theorem conv_const (W : World) (g : Nat) (C : Array Value) (n c : Nat) (hg : W.heap.size = g) :
    (convert 22 22 (.slice (some ⟨g, 0, none⟩) n c)).run Try.prog (W.alloc (.cells C 5)) = .ok (.slice (some ⟨g, 0, none⟩) n c) (W.alloc (.cells C 5 (C.size, C.size + 1))) := by
  subst hg
  exact Lib.run_convert_bytes_const W 22 5 C n c Try.underlying22 Try.underlying5

theorem Rd.mark_at (k : IntKind) (e : TypeId) (fr : Nat × Nat) (w : World) (xs : List Nat) {b n : Nat} (hb : w.heap.size = b) (hn : xs.length = n) : Rd k (w.alloc (.cells (xs.map fun x : Nat => Value.int k (x : Int)).toArray e fr)) (some ⟨b, 0, none⟩) n xs := by
  subst hb
  subst hn
  refine ⟨rfl, fun hn => ⟨w.heap.size, 0, rfl, by simp, fun j hj => ?_⟩⟩
  rw [cell_of_row _ w.heap.size (0 + j) _ e fr (heap_alloc_new w _)]
  simp [hj]

/-- The sum of one part, of two, of three. -/
theorem sum1_any (A : Option Addr) (bs : List Nat) (w : World) (hx : RdSS w A 1 [bs]) (hu : U8 bs) (hn : bs.length ≤ 180000000000000) :
    Calls Try.prog 17 #[.slice A 1 1] w fun e w' => e = .returned (.int .u32 (crc bs : Nat)) ∧ w = w' := by
  have h := sum_any A 1 1 [bs] w hx (u8s_one hu) (by intro v hv; simp at hv; subst hv; exact hn) (by decide)
  have hf : [bs].flatten = bs := by simp
  rwa [hf] at h
theorem sum2_any (A : Option Addr) (bs cs : List Nat) (w : World) (hx : RdSS w A 2 [bs, cs]) (hu : U8 bs) (hv : U8 cs) (hn : bs.length ≤ 180000000000000) (hm : cs.length ≤ 180000000000000) :
    Calls Try.prog 17 #[.slice A 2 2] w fun e w' => e = .returned (.int .u32 (crc (bs ++ cs) : Nat)) ∧ w = w' := by
  have h := sum_any A 2 2 [bs, cs] w hx (u8s_two hu hv) (by intro v hv; simp at hv; rcases hv with rfl | rfl <;> omega) (by decide)
  have hf : [bs, cs].flatten = bs ++ cs := by simp
  rwa [hf] at h
theorem sum3_any (A : Option Addr) (bs cs : List Nat) (w : World) (hx : RdSS w A 3 [bs, [], cs]) (hu : U8 bs) (hv : U8 cs) (hn : bs.length ≤ 180000000000000) (hm : cs.length ≤ 180000000000000) :
    Calls Try.prog 17 #[.slice A 3 3] w fun e w' => e = .returned (.int .u32 (crc (bs ++ cs) : Nat)) ∧ w = w' := by
  have h := sum_any A 3 3 [bs, [], cs] w hx (u8s_three hu (by intro v hv; cases hv) hv) (by intro v hv; simp at hv; rcases hv with rfl | rfl | rfl <;> first | omega | simp) (by decide)
  have hf : [bs, [], cs].flatten = bs ++ cs := by simp
  rwa [hf] at h

set_option maxHeartbeats 1600000 in
/-- The document's examples hold. -/
theorem alive3 (w : World) : Calls Try.prog 14 #[] w fun e w' => e = .returned (.bool true) ∧ Ext w w' := by
  have kc := conv_const
  go_enter Try.func14, Try.ntmps14
  go_wp2_with fail
  refine (sum2_any _ [49, 50, 51, 52] [53, 54, 55, 56, 57] _ ?_ (by decide) (by decide) (by decide) (by decide)).mono ?_
  · exact RdSS.two _ _ (by simp) ((Rd.mark_at .u8 5 _ w [49, 50, 51, 52] rfl rfl).ext ((Ext.refl _).alloc _)) (Rd.mark_at .u8 5 _ _ [53, 54, 55, 56, 57] (by simp) rfl)
  rintro e w1 ⟨rfl, hw⟩
  have hE1 : Ext w w1 := by rw [← hw]; repeat (first | exact Ext.refl _ | apply Ext.drew | apply Ext.alloc)
  clear hw
  rw [show [49, 50, 51, 52] ++ [53, 54, 55, 56, 57] = [49, 50, 51, 52, 53, 54, 55, 56, 57] from rfl, crc_nine]
  go_wp2_with fail
  refine (sum1_any _ [49, 50, 51, 52] _ ?_ (by decide) (by decide)).mono ?_
  · exact RdSS.one _ _ (by simp) (Rd.mark_at .u8 5 _ w1 [49, 50, 51, 52] rfl rfl)
  rintro e w2 ⟨rfl, hw⟩
  have hE2 : Ext w w2 := by rw [← hw]; repeat (first | exact hE1 | apply Ext.drew | apply Ext.alloc)
  clear hw
  have hl4 := crc_lt (show U8 [49, 50, 51, 52] by decide)
  have hl5 := crc_lt (show U8 [53, 54, 55, 56, 57] by decide)
  have hj := join_nine
  have hx := ext_nine
  obtain ⟨S4, hS4⟩ : ∃ S, S = crc [49, 50, 51, 52] := ⟨_, rfl⟩
  obtain ⟨S5, hS5⟩ : ∃ S, S = crc [53, 54, 55, 56, 57] := ⟨_, rfl⟩
  rw [← hS4] at hl4 hj hx ⊢
  rw [← hS5] at hl5 hj
  have HS4 := Lib.hid hS4
  have HS5 := Lib.hid hS5
  have Hj := Lib.hid hj
  have Hx := Lib.hid hx
  clear hS4 hS5 hj hx
  go_wp2_with fail
  refine (extend_any S4 _ _ _ [53, 54, 55, 56, 57] _ hl4 ?_ (by decide) (by decide)).mono ?_
  · exact Rd.mark_at .u8 5 _ w2 [53, 54, 55, 56, 57] rfl rfl
  rintro e w3 ⟨rfl, hw⟩
  have hE3 : Ext w w3 := by rw [← hw]; repeat (first | exact hE2 | apply Ext.drew | apply Ext.alloc)
  clear hw
  rw [Hx.out]
  go_wp2_with fail
  refine (sum1_any _ [49, 50, 51, 52] _ ?_ (by decide) (by decide)).mono ?_
  · exact RdSS.one _ _ (by simp) (Rd.mark_at .u8 5 _ w3 [49, 50, 51, 52] rfl rfl)
  rintro e w4 ⟨rfl, hw⟩
  have hE4 : Ext w w4 := by rw [← hw]; repeat (first | exact hE3 | apply Ext.drew | apply Ext.alloc)
  clear hw
  rw [← HS4.out]
  go_wp2_with fail
  refine (sum1_any _ [53, 54, 55, 56, 57] _ ?_ (by decide) (by decide)).mono ?_
  · exact RdSS.one _ _ (by simp) (Rd.mark_at .u8 5 _ w4 [53, 54, 55, 56, 57] rfl rfl)
  rintro e w5 ⟨rfl, hw⟩
  have hE5 : Ext w w5 := by rw [← hw]; repeat (first | exact hE4 | apply Ext.drew | apply Ext.alloc)
  clear hw
  rw [← HS5.out]
  go_wp2_with fail
  refine (join_any S4 S5 5 _ hl4 hl5 (by decide)).mono ?_
  rintro e w6 ⟨rfl, rfl⟩
  rw [show (5 : Int).toNat = 5 from rfl, Hj.out]
  go_wp2_with fail
  refine (seal_any _ _ _ [] _ (Rd.nil _ _ _) (by decide) (by decide)).mono ?_
  rintro e w6 ⟨A6, c6, rfl, hown6, he6⟩
  rw [sl_none] at hown6
  go_wp2_with fail
  refine (same_yes ((hown6.rd.ext ((Ext.refl _).alloc _))) ?_ (by decide)).mono ?_
  · exact Rd.lit_at .u8 5 w6 [0, 0, 0, 0] rfl rfl
  rintro e w7 ⟨rfl, q, hw⟩
  have hE7 : Ext w w7 := by rw [hw]; exact ((hE5.trans he6).alloc _).drewN q
  clear hw
  go_wp2_with fail
  refine (sealed_any _ _ _ [0, 0, 0, 0] _ ?_ (by decide) (by decide) (by decide) (by decide)).mono ?_
  · exact Rd.lit_at .u8 5 w7 [0, 0, 0, 0] rfl rfl
  rintro e w8 ⟨rfl, he8⟩
  rw [sld_0]
  go_wp2_with fail
  refine (sealed_any _ _ _ [0, 0, 0, 1] _ ?_ (by decide) (by decide) (by decide) (by decide)).mono ?_
  · exact Rd.lit_at .u8 5 w8 [0, 0, 0, 1] rfl rfl
  rintro e w9 ⟨rfl, he9⟩
  rw [sld_1]
  go_wp2_with fail
  go_ret
  exact ⟨rfl, (((hE7.alloc _).trans he8).alloc _).trans he9⟩

/-- Sealed bytes with a run turned are sealed just where nothing was turned. -/
theorem trn_sld {bs : List Nat} (h : U8 bs) (hs : sld bs) (at_ : Int) {p : Nat} (hp : p < 4294967296) : sld (trn bs at_ p) ↔ trn bs at_ p = bs := by
  unfold trn
  split
  · rename_i hc
    rw [sld_tn h hs hp hc.2.2, tn_eq h hc.2.2]
    constructor
    · rintro rfl; simp
    · intro h0
      rcases Nat.mul_eq_zero.1 h0 with h1 | h1
      · exact h1
      · have := Nat.two_pow_pos at_.toNat; omega
  · exact ⟨fun _ => rfl, fun _ => hs⟩

set_option maxHeartbeats 800000 in
theorem walk_CrcTells (A : Option Addr) (n c : Nat) (bs : List Nat) (at_ p : Int) (w : World) (hx : Rd .u8 w A n bs) (hu : U8 bs) (hn : n ≤ 140737488351232) (_h1 : -9223372036854775808 ≤ at_) (_h2 : at_ ≤ 9223372036854775807) (hp0 : 0 ≤ p) (hp : p < 4294967296) :
    Calls Try.prog 6 #[.slice A n c, .int .i64 at_, .int .u32 p] w fun e w' => e = .returned (.bool true) ∧ Ext w w' := by
  obtain ⟨p, rfl⟩ := Int.eq_ofNat_of_zero_le hp0
  have hpl : p < 4294967296 := by omega
  have hsu := sl_u8 hu
  have hsl : (sl bs).length = n + 4 := by rw [sl_len, hx.len]
  have htl : (trn (sl bs) at_ p).length = n + 4 := by rw [trn_len, hsl]
  have hd1 : decide (sld (sl bs)) = true := decide_eq_true (sld_seal hu)
  have hd2 : (decide (sld (trn (sl bs) at_ p)) == decide (trn (sl bs) at_ p = sl bs)) = true := by
    rw [beq_iff_eq, decide_eq_decide]
    exact trn_sld hsu (sld_seal hu) at_ hpl
  have Hsl := Lib.hid hsl
  have Htl := Lib.hid htl
  have Hd1 := Lib.hid hd1
  have Hd2 := Lib.hid hd2
  clear hsl htl hd1 hd2
  go_enter Try.func6, Try.ntmps6
  go_wp2_with fail
  refine (alive3 _).mono ?_
  rintro e w1 ⟨rfl, he1⟩
  go_wp2_with fail
  refine (copy_any _ _ _ _ _ (hx.ext he1) (by omega)).mono ?_
  rintro e w2 ⟨A2, c2, rfl, hown2, he2⟩
  go_wp2_with fail
  refine (seal_any _ _ _ bs _ (hown2.rd' hx.len) hu (by omega)).mono ?_
  rintro e w3 ⟨A3, c3, rfl, hown3, he3⟩
  obtain ⟨hcap, hcm⟩ := hown3.cap
  rw [Hsl.out] at hcap
  have hr3 := hown3.rd' Hsl.out
  go_wp2_with fail
  refine (turn_any _ _ _ p at_ (sl bs) _ hr3 hsu (by omega) hpl).mono ?_
  rintro e w4 ⟨A4, c4, rfl, hown4, he4⟩
  obtain ⟨hcap4, hcm4⟩ := hown4.cap
  rw [Htl.out] at hcap4
  have hr4 := hown4.rd' Htl.out
  go_wp2_with fail
  refine (sealed_any _ _ _ (sl bs) _ (hr3.ext he4) hsu (by omega) hcap hcm).mono ?_
  rintro e w5 ⟨rfl, he5⟩
  rw [Hd1.out]
  go_wp2_with fail
  refine (sealed_any _ _ _ (trn (sl bs) at_ p) _ (hr4.ext he5) (trn_u8 hsu _ _) (by omega) hcap4 hcm4).mono ?_
  rintro e w6 ⟨rfl, he6⟩
  go_wp2_with fail
  refine (same_any _ _ _ _ _ _ (trn (sl bs) at_ p) (sl bs) _ ((hr4.ext he5).ext he6) (((hr3.ext he4).ext he5).ext he6) (by omega) (by omega)).mono ?_
  rintro e w7 ⟨rfl, q, rfl⟩
  obtain ⟨B1, hB1⟩ : ∃ B, B = decide (sld (trn (sl bs) at_ p)) := ⟨_, rfl⟩
  obtain ⟨B2, hB2⟩ : ∃ B, B = decide (trn (sl bs) at_ p = sl bs) := ⟨_, rfl⟩
  rw [← hB1, ← hB2] at Hd2
  rw [← hB1, ← hB2]
  have hfin := Hd2.out
  have HB1 := Lib.hid hB1
  have HB2 := Lib.hid hB2
  clear hB1 hB2
  go_wp2_with fail
  go_ret
  exact ⟨rfl, (((((he1.trans he2).trans he3).trans he4).trans he5).trans he6).drewN _⟩

end Go.Proofs.Ytegplcllimoakaa
