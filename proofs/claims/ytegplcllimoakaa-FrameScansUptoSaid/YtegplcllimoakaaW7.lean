/-
  Layer 4: the document's example.
-/
import Derived.Test.YtegplcllimoakaaG4
import Derived.Test.YtegplcllimoakaaW3
import Derived.Laws.IdiomStrings
namespace Go.Proofs.Ytegplcllimoakaa
open Go.RowKit

theorem fputE_1 : fputE 1 [97] = 0 := by decide
theorem fputL_1 : fputL 1 [97] = fr 1 [97] := by rw [fputL, if_pos fputE_1]; rfl
theorem fgetN_1 : fgetN (fr 1 [97]) 0 = (1, [97], 14, 0) :=
  fgetN_fr (by decide) (by decide) (by decide) (by decide) (by decide) (by
    have h := cut_all (bs := fr 1 [97])
    rw [fr_len] at h
    exact h)
theorem fget_1 : fget (fr 1 [97]) 0 = (1, [97], 14, 0) := by
  show fget (fr 1 [97]) ((0 : Nat) : Int) = _
  rw [fget_in (Nat.zero_le _)]
  exact fgetN_1
theorem fscan_1 : fscan (fr 1 [97]) = ([(1, [97])], 14, 0) := by
  have hl : (fr 1 [97]).length = 14 := fr_len 1 [97]
  unfold fscan
  rw [scn_ok (by omega) (by rw [fgetN_1]), fgetN_1]
  rw [scn_end (by rw [hl]; exact Nat.le_refl _)]

set_option maxHeartbeats 1600000 in
theorem alive4 (w : World) : Calls Try.prog 29 #[] w fun e w' => e = .returned (.bool true) ∧ Ext w w' := by
  have kc := conv_const
  obtain ⟨F, hF⟩ : ∃ F, F = fr 1 [97] := ⟨_, rfl⟩
  have hFl : F.length = 14 := by rw [hF]; exact fr_len 1 [97]
  have hFu : U8 F := by rw [hF]; exact fr_u8 (by decide) 1
  have hg := fget_1
  have hs := fscan_1
  have hp := fputL_1
  have hb0 : F.getD 0 0 = 1 := by rw [hF]; rfl
  have hb1 : F.getD 1 0 = 1 := by rw [hF]; rfl
  rw [← hF] at hg hs hp
  have HFl := Lib.hid hFl
  have Hg := Lib.hid hg
  have Hs := Lib.hid hs
  have Hp := Lib.hid hp
  have Hb0 := Lib.hid hb0
  have Hb1 := Lib.hid hb1
  have HE := Lib.hid fputE_1
  clear hF hFl hg hs hp hb0 hb1
  go_enter Try.func29, Try.ntmps29
  go_wp2_with fail
  refine (fput_any 1 _ 1 _ [97] _ ?_ (by decide)).mono ?_
  · exact Rd.mark_at .u8 5 _ w [97] rfl rfl
  rintro e w1 ⟨A1, c1, rfl, hown1, he1⟩
  rw [Hp.out] at hown1 ⊢
  rw [HE.out, HFl.out]
  have hE1 : Ext w w1 := Ext.trans ((Ext.refl w).alloc _) he1
  obtain ⟨b, rfl, _, hlb, hcap, hcm⟩ := hown1.form (by have := HFl.out; omega)
  rw [HFl.out] at hcap
  have hr1 := hown1.rd' HFl.out
  clear hown1 he1
  go_wp2_with fail
  refine (fget_any _ 14 _ 0 F _ hr1 hFu (.inl ⟨_, _, rfl⟩) (by omega) hcap hcm).mono ?_
  rintro e w2 ⟨A2, c2, rfl, hown2, he2⟩
  rw [Hg.out] at hown2 ⊢
  simp only at hown2 ⊢
  have hE2 := hE1.trans he2
  have hX := (Ext.refl w2).alloc (.cells #[.int .i64 1, .slice A2 1 c2] 45)
  go_wp2_with fail
  refine (fscan_any _ 14 _ F _ ((hr1.ext he2).ext hX) hFu (.inl ⟨_, _, rfl⟩) (by omega) hcap hcm).mono ?_
  rintro e w3 ⟨fs, A3, c3, rfl, hkv, _, _, he3⟩
  rw [Hs.out] at hkv ⊢
  have hfl : fs.length = 1 := by have := congrArg List.length hkv; simpa using this
  rw [hfl]
  simp only
  have hE3 : Ext w w3 := Ext.trans (Ext.trans hE2 hX) he3
  have hk := Ext.kept he3
  have k0 : w3.cell? ⟨w2.heap.size, 0, none⟩ = some (.int .i64 1) := cell_of_row w3 w2.heap.size 0 _ _ (0, 0) hk
  have k1 : w3.cell? ⟨w2.heap.size, 1, none⟩ = some (.slice A2 1 c2) := cell_of_row w3 w2.heap.size 1 _ _ (0, 0) hk
  have hrA := ((hown2.rd' (n := 1) rfl).ext hX).ext he3
  have hrB := ((hr1.ext he2).ext hX).ext he3
  obtain ⟨b2, o2, rfl, _, hc2⟩ := hrA.at_ (j := 0) (by omega)
  obtain ⟨b1, o1, hbb, _, hcF⟩ := hrB.2 (by omega)
  injection hbb with hbb
  injection hbb with hbb1 hbb2
  subst hbb1 hbb2
  have f0 := hcF 0 (by omega)
  have f1 := hcF 1 (by omega)
  rw [Hb0.out] at f0
  rw [Hb1.out] at f1
  have f0' : w3.cell? ⟨b, 0, none⟩ = some (.int .u8 1) := f0
  have f1' : w3.cell? ⟨b, 1, none⟩ = some (.int .u8 1) := f1
  have hc2' : w3.cell? ⟨b2, o2, none⟩ = some (.int .u8 97) := hc2
  have hconv : (convert 22 9 (.slice (some ⟨b2, o2, none⟩) 1 c2)).run Try.prog w3 = .ok (.string ⟨#[97]⟩) w3 :=
    run_convert_bytes_back (P := Try.prog) w3 22 9 5 ⟨b2, o2, none⟩ c2 [97] Try.underlying22 Try.underlying5 Try.underlying9 (fun j hj => by
      obtain rfl : j = 0 := by simp at hj; omega
      simpa [Addr.add] using hc2')
  clear f0 f1 hc2 hcF hrA hrB hkv hfl hk hown2
  go_wp2_with fail
  refine (fsize_any 1 _).mono ?_
  rintro e w4 ⟨rfl, rfl⟩
  rw [fsz_in (by omega)]
  go_wp2_with fail
  go_ret
  exact ⟨rfl, hE3⟩

end Go.Proofs.Ytegplcllimoakaa
