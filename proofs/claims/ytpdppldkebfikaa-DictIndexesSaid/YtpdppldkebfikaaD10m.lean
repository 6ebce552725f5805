/-
  Layer 10: the walk of DictEncodes.
-/
import Derived.Test.YtpdppldkebfikaaD10l
import Derived.Test.YtpdppldkebfikaaTXK
namespace Go.Proofs.Ytpdppldkebfikaa
open Go.RowKit

theorem dencR_u8 {ss : List (List Nat)} (h : ∀ s ∈ ss, U8 s) : U8 (dencR ss).1 := by
  unfold dencR
  split
  · intro v hv; cases hv
  · exact denc_u8 h
theorem not_bad10 {ss : List (List Nat)} (h : ¬ (4096 < ss.length ∨ anyLong ss = true)) : ss.length ≤ 4096 ∧ anyLong ss = false := by
  constructor
  · rcases Nat.lt_or_ge 4096 ss.length with q | q
    · exact absurd (.inl q) h
    · exact q
  · cases q : anyLong ss with
    | true => exact absurd (.inr q) h
    | false => rfl
theorem dencR_len (ss : List (List Nat)) : (dencR ss).1.length ≤ 1000000 := by
  by_cases h : 4096 < ss.length ∨ anyLong ss = true
  · rw [dencR_bad h]; simp
  · obtain ⟨h1, h2⟩ := not_bad10 h
    rw [dencR_good h1 h2]
    exact denc_len h1 h2

set_option maxHeartbeats 1600000 in
theorem walk_DictEncodes (A : Option Addr) (n c : Nat) (ss : List Sl) (w : World) (hx : TxL w A n ss) (hn : n ≤ 5900000000000) :
    Calls Try.prog 4 #[.slice A n c] w fun e w' => e = .returned (.bool true) ∧ Ext w w' := by
  have he1 := dencR_len (bodies ss)
  have he2 := dencR_u8 (ss := bodies ss) (bodies_mem_of hx)
  obtain ⟨⟨P, F⟩, hR⟩ : ∃ R, R = dencR (bodies ss) := ⟨_, rfl⟩
  rw [← hR] at he1 he2
  simp only at he1 he2
  obtain ⟨p, hp⟩ : ∃ p, p = P.length := ⟨_, rfl⟩
  rw [← hp] at he1
  have Hp := Lib.hid hp.symm
  have Hu := Lib.hid he2
  have HE1 : Hid (∀ (B : Option Addr) (cb : Nat) (ts : List Sl) (W : World), TxL W B n ts → bodies ts = bodies ss → Calls Try.prog 18 #[.slice B n cb] W fun e w' => ∃ A' c', e = .returned (.tuple #[.slice A' p c', .int .i64 F]) ∧ Own .u8 5 w' W.heap.size A' c' P ∧ Ext W w') := Lib.hid (fun B cb ts W h1 h2 => by
    have h := dencode_any B n cb ts W h1 (by omega)
    unfold PEncPost at h
    rw [h2, ← hR] at h
    simp only [← hp] at h
    exact h)
  have HE2 : Hid (∀ (B : Option Addr) (cb : Nat) (ts : List Sl) (W : World), TxL W B n ts → bodies ts = bodies ss → Calls Try.prog 19 #[.slice B n cb] W fun e w' => ∃ A' c', e = .returned (.tuple #[.slice A' p c', .int .i64 F]) ∧ Own .u8 5 w' W.heap.size A' c' P ∧ Ext W w') := Lib.hid (fun B cb ts W h1 h2 => by
    have h := refDencode_any B n cb ts W h1 (by omega)
    unfold PEncPost at h
    rw [h2, ← hR] at h
    simp only [← hp] at h
    exact h)
  have k2 : (F == F) = true := by simp
  have Hx := Lib.hid hx
  clear hp hR he2 hx
  go_enter Try.func4, Try.ntmps4
  go_wp2_with fail
  refine (alive10 _).mono ?_
  rintro e w1 ⟨rfl, he1⟩
  go_wp2_with fail
  refine (copyT_any A n c ss _ (Hx.out.ext he1) hn).mono ?_
  rintro e w2 ⟨A2, c2, ts, rfl, hb2, hown2, htx2, he2⟩
  have hl2 : ts.length = n := by rw [← bodies_len, hb2, bodies_len, Hx.out.len]
  have hall := bodies_all hb2 (P := fun b => U8 b ∧ b.length ≤ 140737488355328) Hx.out.all
  have Hm := Lib.hid (TxL.of_own hown2 htx2 hl2 hall)
  have hE2 := he1.trans he2
  have Hb2 := Lib.hid hb2
  clear hown2 htx2 hl2 hall hb2
  go_wp2_with fail
  refine (HE1.out _ _ _ _ Hm.out Hb2.out).mono ?_
  rintro e w8 ⟨A8, c8, rfl, hown8, he8⟩
  go_wp2_with fail
  refine (HE1.out _ _ _ _ (Hm.out.ext he8) Hb2.out).mono ?_
  rintro e w9 ⟨A9, c9, rfl, hown9, he9⟩
  go_wp2_with fail
  refine (HE2.out _ _ _ _ (((Hx.out.ext hE2).ext he8).ext he9) rfl).mono ?_
  rintro e w10 ⟨A10, c10, rfl, hown10, he10⟩
  go_wp2_with fail
  refine (apart3V hown8 he8 hown9 he9 hown10 he10 Hp.out Hu.out (by omega)).mono ?_
  rintro e w11 ⟨rfl, he11⟩
  go_wp2_with fail
  refine (sameT_yes _ _ n _ n _ ts ss _ (Hm.out.ext he11).rd ((Hx.out.ext hE2).ext he11).rd Hb2.out (by omega) (Hm.out.ext he11).same ((Hx.out.ext hE2).ext he11).rds).mono ?_
  rintro e w13 ⟨rfl, q13, rfl⟩
  go_wp2_with fail
  go_ret
  exact ⟨rfl, (hE2.trans he11).drewN _⟩

end Go.Proofs.Ytpdppldkebfikaa
