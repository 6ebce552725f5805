/-
  Layer 8: the program's Decode.
-/
import Derived.Test.YtoefhblojoaikaaR8h
import Derived.Test.YtoefhblojoaikaaR8e
namespace Go.Proofs.Ytoefhblojoaikaa
open Go.RowKit

/-- One run read: the numbers, the place behind it, the error's number. -/
def decS (bs : List Nat) (vs : List Int) (a : Int) : List Int × Int × Int :=
  if (vget bs a).2.2 ≠ 0 then ([], 0, (vget bs a).2.2) else
  if (vget bs (vget bs a).2.1).2.2 ≠ 0 then ([], 0, (vget bs (vget bs a).2.1).2.2) else
  if (vget bs (vget bs a).2.1).1 = 0 then ([], 0, 5) else
  if (tellF vs (unfS (vget bs a).1) (vget bs (vget bs a).2.1).1).2 ≠ 0 then ([], 0, (tellF vs (unfS (vget bs a).1) (vget bs (vget bs a).2.1).1).2) else
  ((tellF vs (unfS (vget bs a).1) (vget bs (vget bs a).2.1).1).1, (vget bs (vget bs a).2.1).2.1, 0)

theorem decR_step (bs : List Nat) (m : Nat) (vs : List Int) (a : Int) : decR bs (m + 1) vs a = if (decS bs vs a).2.2 = 0 then decR bs m (decS bs vs a).1 (decS bs vs a).2.1 else ([], (decS bs vs a).2.2) := by
  rw [decR]
  unfold decS
  by_cases h1 : (vget bs a).2.2 ≠ 0
  · rw [if_pos h1, if_pos h1, if_neg h1]
  rw [if_neg h1, if_neg h1]
  by_cases h2 : (vget bs (vget bs a).2.1).2.2 ≠ 0
  · rw [if_pos h2, if_pos h2, if_neg h2]
  rw [if_neg h2, if_neg h2]
  by_cases h3 : (vget bs (vget bs a).2.1).1 = 0
  · rw [if_pos (.inl h3), if_pos h3, if_neg (by simp)]
  rw [if_neg h3]
  by_cases h4 : vs.getLast? = some (unfS (vget bs a).1)
  · have e : tellF vs (unfS (vget bs a).1) (vget bs (vget bs a).2.1).1 = ([], 5) := if_pos h4
    rw [if_pos (.inr h4), e]
    simp
  rw [if_neg (by rintro (h | h); exact h3 h; exact h4 h)]
  by_cases h5 : 4096 - (vs.length : Int) < (vget bs (vget bs a).2.1).1
  · have e : tellF vs (unfS (vget bs a).1) (vget bs (vget bs a).2.1).1 = ([], 4) := by unfold tellF; rw [if_neg h4, if_pos h5]
    rw [if_pos h5, e]
    simp
  · have e : tellF vs (unfS (vget bs a).1) (vget bs (vget bs a).2.1).1 = (vs ++ List.replicate (vget bs (vget bs a).2.1).1 (unfS (vget bs a).1), 0) := by unfold tellF; rw [if_neg h4, if_neg h5]
    rw [if_neg h5, e]
    simp

theorem decS_len {bs : List Nat} {vs : List Int} {a : Int} (h : vs.length ≤ 4096) : (decS bs vs a).1.length ≤ 4096 := by
  unfold decS
  repeat' split
  all_goals first | exact tellF_len h | simp

def DSPost (R : List Int × Int × Int) (base : Nat) (w : World) (e : Ending) (w' : World) : Prop :=
  ∃ A' c', e = .returned (.tuple #[.slice A' R.1.length c', .int .i64 R.2.1, .int .i64 R.2.2]) ∧ OwnG shZ 2 w' base A' c' R.1 ∧ Below base w w' ∧ base ≤ w'.heap.size

set_option maxHeartbeats 3200000 in
theorem decodeRun_any (B : Option Addr) (nb cb : Nat) (bs : List Nat) (A : Option Addr) (n c base : Nat) (vs : List Int) (a : Int) (w : World) (hx : Rd .u8 w B nb bs) (hu : U8 bs) (hnb : nb ≤ 140737488355328) (hcb : nb ≤ cb) (hcm : cb ≤ 9223372036854775807)
    (hown : OwnG shZ 2 w base A c vs) (hn : vs.length = n) (hn4 : n ≤ 4096) (hz : base ≤ w.heap.size) :
    Calls Try.prog 48 #[.slice A n c, .slice B nb cb, .int .i64 a] w (DSPost (decS bs vs a) base w) := by
  have hbl := vget_bounds (a := a) hu (by rw [hx.len]; exact hnb)
  obtain ⟨R, hR⟩ : ∃ R, R = decS bs vs a := ⟨_, rfl⟩
  rw [← hR]
  unfold decS at hR
  have G1 : ∀ W at_, Ext w W → Calls Try.prog 47 #[.slice B nb cb, .int .i64 at_] W (GetPost bs at_ W) := fun W at_ hW => get_any B nb cb at_ bs W (hx.ext hW) hu hnb hcb hcm
  have hbl2 := vget_bounds (a := (vget bs a).2.1) hu (by rw [hx.len]; exact hnb)
  rcases hg : vget bs a with ⟨u, a1, e1⟩
  rw [hg] at hR hbl hbl2
  simp only at hR hbl hbl2
  rcases hg2 : vget bs a1 with ⟨k, a2, e2⟩
  rw [hg2] at hR hbl2
  simp only at hR hbl2
  have HG := Lib.hid G1
  have Hg := Lib.hid hg
  have Hg2 := Lib.hid hg2
  have HR := Lib.hid hR
  have Hbl := Lib.hid hbl
  have Hbl2 := Lib.hid hbl2
  have Hx := Lib.hid hx
  have Ho := Lib.hid hown
  have Hn := Lib.hid hn
  clear G1 hg hg2 hR hbl hbl2 hx hown hn hcm hcb hnb hu
  go_enter Try.func48, Try.ntmps48
  go_wp2_with fail
  refine (HG.out _ a (Ext.refl w)).mono ?_
  rintro e w1 ⟨rfl, rfl⟩
  rw [Hg.out]
  simp only
  by_cases h1 : e1 = 0
  · subst h1
    go_wp2_with fail
    refine (HG.out _ a1 (Ext.refl w)).mono ?_
    rintro e w1 ⟨rfl, rfl⟩
    rw [Hg2.out]
    simp only
    by_cases h2 : e2 = 0
    · subst h2
      by_cases h3 : k = 0
      · subst h3
        have HE := Lib.hid (show R = ([], 0, 5) by rw [HR.out]; simp)
        go_wp2_with fail
        go_ret3
        exact ⟨none, 0, by rw [HE.out]; rfl, by rw [HE.out]; exact OwnG.nil _ _ _ _, Below.refl _ _, hz⟩
      · have hk0 : ((k : Int) == 0) = false := by rw [beq_eq_false_iff_ne]; omega
        obtain ⟨T, hT⟩ : ∃ T, T = tellF vs (unfS u) k := ⟨_, rfl⟩
        have HE := Lib.hid (show R = if T.2 ≠ 0 then ([], 0, T.2) else (T.1, a2, 0) by rw [HR.out, if_neg (by simp), if_neg (by simp), if_neg h3, ← hT])
        have HT := Lib.hid hT
        clear hT
        go_wp2_with fail
        refine (unfold_any (u : Int) _ (by omega) (by have := Hbl.out.1; omega)).mono ?_
        rintro e w1 ⟨rfl, rfl⟩
        go_wp2_with fail
        refine (tell_any A n c base vs (unfS u) k _ Ho.out Hn.out hn4 hz).mono ?_
        rintro e w1 ⟨A1, c1, rfl, hown1, hb1, hz1⟩
        rw [← HT.out] at hown1 ⊢
        by_cases h4 : T.2 = 0
        · have HE2 := Lib.hid (show R = (T.1, a2, 0) by rw [HE.out, if_neg (by simpa using h4)])
          have hb0 : (T.2 != 0) = false := by simpa using h4
          clear HE h4
          go_wp2_with fail
          go_ret3
          exact ⟨A1, c1, by rw [HE2.out]; rfl, by rw [HE2.out]; exact hown1, hb1, hz1⟩
        · have HE2 := Lib.hid (show R = ([], 0, T.2) by rw [HE.out, if_pos (by simpa using h4)])
          have hb0 : (T.2 != 0) = true := by simpa using h4
          clear HE h4
          go_wp2_with fail
          go_ret3
          exact ⟨none, 0, by rw [HE2.out]; rfl, by rw [HE2.out]; exact OwnG.nil _ _ _ _, hb1, hz1⟩
    · have hb0 : (e2 != 0) = true := by simpa using h2
      have HE := Lib.hid (show R = ([], 0, e2) by rw [HR.out, if_neg (by simp), if_pos h2])
      clear h2
      go_wp2_with fail
      go_ret3
      exact ⟨none, 0, by rw [HE.out]; rfl, by rw [HE.out]; exact OwnG.nil _ _ _ _, Below.refl _ _, hz⟩
  · have hb0 : (e1 != 0) = true := by simpa using h1
    have HE := Lib.hid (show R = ([], 0, e1) by rw [HR.out, if_pos h1])
    clear h1
    go_wp2_with fail
    go_ret3
    exact ⟨none, 0, by rw [HE.out]; rfl, by rw [HE.out]; exact OwnG.nil _ _ _ _, Below.refl _ _, hz⟩

set_option maxHeartbeats 3200000 in
theorem decode_any (B : Option Addr) (nb cb : Nat) (bs : List Nat) (w : World) (hx : Rd .u8 w B nb bs) (hu : U8 bs) (hnb : nb ≤ 140737488355328) (hcb : nb ≤ cb) (hcm : cb ≤ 9223372036854775807) :
    Calls Try.prog 25 #[.slice B nb cb] w (JoinPost (decode8 bs) w) := by
  have Hl := Lib.hid hx.len
  have hbl := vget_bounds (a := 0) hu (by rw [hx.len]; exact hnb)
  obtain ⟨R, hR⟩ : ∃ R, R = decode8 bs := ⟨_, rfl⟩
  rw [← hR]
  unfold decode8 at hR
  have hG := get_any B nb cb 0 bs w hx hu hnb hcb hcm
  rcases hg : vget bs 0 with ⟨M, a, e1⟩
  rw [hg] at hR hbl
  simp only at hR hbl
  have hD : ∀ W A n c vs at_, Below w.heap.size w W → OwnG shZ 2 W w.heap.size A c vs → vs.length = n → n ≤ 4096 → Calls Try.prog 48 #[.slice A n c, .slice B nb cb, .int .i64 at_] W (DSPost (decS bs vs at_) w.heap.size W) := fun W A n c vs at_ hW ho h1 h2 =>
    decodeRun_any B nb cb bs A n c w.heap.size vs at_ W (hx.ext hW) hu hnb hcb hcm ho h1 h2 hW.size
  have HG := Lib.hid hG
  have HD := Lib.hid hD
  have Hg := Lib.hid hg
  have HR := Lib.hid hR
  have Hbl := Lib.hid hbl
  clear hG hD hg hR hbl hx hcm hcb hu
  go_enter Try.func25, Try.ntmps25
  go_wp2_with fail
  refine HG.out.mono ?_
  rintro e w1 ⟨rfl, rfl⟩
  rw [Hg.out]
  simp only
  by_cases h1 : e1 = 0
  · subst h1
    by_cases h2 : 4096 < M
    · have HE := Lib.hid (show R = ([], 4) by rw [HR.out, if_neg (by simp), if_pos h2])
      have hb1 : (4096 : Int) < (M : Int) := by omega
      go_wp2_with fail
      go_ret2
      exact ⟨none, 0, by rw [HE.out]; rfl, by rw [HE.out]; exact OwnG.nil _ _ _ _, Ext.refl w⟩
    · have HE := Lib.hid (show R = decR bs M [] a by rw [HR.out, if_neg (by simp), if_neg h2])
      have hb1 : decide ((4096 : Int) < (M : Int)) = false := decide_eq_false (by omega)
      go_wp2_with fail
      go_loopw [5, 7, 20] (fun p y i wr => ∃ (j L : Nat) (at_ : Int) (vs : List Int) (A' : Option Addr) (c' : Nat), j ≤ M ∧ L ≤ 4096 ∧ L = vs.length ∧ p = .int .i64 at_ ∧ i = .int .u64 j ∧ y = .slice A' L c' ∧ OwnG shZ 2 wr w.heap.size A' c' vs ∧ Hid (R = decR bs (M - j) vs at_) ∧ Below w.heap.size w wr) (fun _ _ i _ => M - (intOf i).toNat)
      case atStart => exact ⟨0, 0, a, [], none, 0, Nat.zero_le _, Nat.zero_le _, rfl, rfl, rfl, rfl, OwnG.nil _ _ _ _, HE, Ext.refl w⟩
      case round =>
        obtain ⟨j, L, at_, vs, A', c', hj, hL4, hL, rfl, rfl, rfl, hown, HJ, hb⟩ := hrel
        have HL := Lib.hid hL
        have hz : w.heap.size ≤ wr.heap.size := hb.size
        have Ho := Lib.hid hown
        have Hb := Lib.hid hb
        clear hL hown hb
        by_cases hlt : j < M
        · have HS := Lib.hid (show R = if (decS bs vs at_).2.2 = 0 then decR bs (M - (j + 1)) (decS bs vs at_).1 (decS bs vs at_).2.1 else ([], (decS bs vs at_).2.2) by
            rw [HJ.out, show M - j = (M - (j + 1)) + 1 from by omega, decR_step])
          have HSl := Lib.hid (decS_len (bs := bs) (a := at_) (show vs.length ≤ 4096 by have := HL.out; omega))
          obtain ⟨T, hT⟩ : ∃ T, T = decS bs vs at_ := ⟨_, rfl⟩
          have HT := Lib.hid hT
          rw [← hT] at HS HSl
          clear hT HJ
          go_wp2_with fail
          refine (HD.out _ A' L c' vs at_ Hb.out Ho.out HL.out.symm hL4).mono ?_
          rintro e w1 ⟨A1, c1, rfl, hown1, hb1, hz1⟩
          rw [← HT.out] at hown1 ⊢
          have hb2 := Below.trans Hb.out hb1
          by_cases h4 : T.2.2 = 0
          · have HS2 := Lib.hid (show R = decR bs (M - (j + 1)) T.1 T.2.1 by rw [HS.out, if_pos h4])
            have hb0 : (T.2.2 != 0) = false := by simpa using h4
            have HTL := HSl.out
            have hu1 : IntKind.u64.wrap ((j : Int) + 1) = (j : Int) + 1 := IntWalk.u64_in _ (by omega)
            clear HS h4
            go_wp2_with fail
            go_roundw
            case rel => exact ⟨j + 1, T.1.length, T.2.1, T.1, A1, c1, by omega, HTL, rfl, rfl, by go_num, rfl, hown1, HS2, hb2⟩
            case measure => simp [intOf]; omega
          · have HS2 := Lib.hid (show R = ([], T.2.2) by rw [HS.out, if_neg h4])
            have hb0 : (T.2.2 != 0) = true := by simpa using h4
            clear HS h4
            go_wp2_with fail
            go_ret2
            exact ⟨none, 0, by rw [HS2.out]; rfl, by rw [HS2.out]; exact OwnG.nil _ _ _ _, hb2⟩
        · obtain rfl : j = M := by omega
          have HS := Lib.hid (show R = if at_ < (bs.length : Int) then ([], 3) else (vs, 0) by rw [HJ.out, Nat.sub_self, decR])
          have h1 := HL.out
          subst h1
          by_cases h5 : at_ < (nb : Int)
          · have HS2 := Lib.hid (show R = ([], 3) by rw [HS.out, if_pos (by rw [Hl.out]; exact h5)])
            clear HS
            go_wp2_with fail
            go_ret2
            exact ⟨none, 0, by rw [HS2.out]; rfl, by rw [HS2.out]; exact OwnG.nil _ _ _ _, Hb.out⟩
          · have HS2 := Lib.hid (show R = (vs, 0) by rw [HS.out, if_neg (by rw [Hl.out]; exact h5)])
            have hb0 : decide (at_ < (nb : Int)) = false := decide_eq_false h5
            clear HS h5
            go_wp2_with fail
            go_ret2
            exact ⟨A', c', by rw [HS2.out]; rfl, by rw [HS2.out]; exact Ho.out, Hb.out⟩
  · have hb0 : (e1 != 0) = true := by simpa using h1
    have HE := Lib.hid (show R = ([], e1) by rw [HR.out, if_pos h1])
    clear h1
    go_wp2_with fail
    go_ret2
    exact ⟨none, 0, by rw [HE.out]; rfl, by rw [HE.out]; exact OwnG.nil _ _ _ _, Ext.refl w⟩

end Go.Proofs.Ytoefhblojoaikaa
