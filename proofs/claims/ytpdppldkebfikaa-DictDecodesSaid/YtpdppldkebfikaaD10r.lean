/-
  Layer 10: the walk of DictDecodes.
-/
import Derived.Test.YtpdppldkebfikaaD10m
import Derived.Test.YtpdppldkebfikaaD10p
namespace Go.Proofs.Ytpdppldkebfikaa
open Go.RowKit

set_option maxHeartbeats 3200000 in
theorem walk_DictDecodes (A : Option Addr) (n c : Nat) (bs : List Nat) (w : World) (hx : Rd .u8 w A n bs) (hu : U8 bs) (hn : n * 1 ≤ 140737488351232) :
    Calls Try.prog 5 #[.slice A n c] w fun e w' => e = .returned (.bool true) ∧ Ext w w' := by
  obtain ⟨⟨L, E⟩, hR⟩ : ∃ R, R = ddec bs := ⟨_, rfl⟩
  have hfin : L.length ≤ 4096 ∧ ∀ s ∈ L, U8 s ∧ s.length ≤ 1048576 := by
    by_cases h0 : E = 0
    · subst h0
      obtain ⟨_, h2, _, h3⟩ := ddec_ok hu hR.symm
      exact ⟨h2, fun s hs => ⟨(h3 s hs).1, by have := (h3 s hs).2; omega⟩⟩
    · rw [ddec_no hR.symm h0]
      exact ⟨by simp, fun s hs => by cases hs⟩
  obtain ⟨m, hm⟩ : ∃ m, m = L.length := ⟨_, rfl⟩
  rw [← hm] at hfin
  have hmb : ∀ (us : List Sl), bodies us = L → us.length = m := fun us h => by rw [hm, ← h, bodies_len]
  have HP : Hid (∀ (B : Option Addr) (cb : Nat) (W : World), Rd .u8 W B n bs → n ≤ cb → cb ≤ 9223372036854775807 → Calls Try.prog 22 #[.slice B n cb] W fun e w' => ∃ A' c' us, e = .returned (.tuple #[.slice A' m c', .int .i64 E]) ∧ bodies us = L ∧ OwnT w' W.heap.size A' c' us ∧ Txts w' W.heap.size us ∧ Ext W w') := Lib.hid (fun B cb W h1 h2 h3 => by
    have h := ddecode_any B n cb bs W h1 hu (by omega) h2 h3
    unfold TxtsPost at h
    rw [← hR] at h
    exact h.mono fun e w' ⟨A', c', us, q1, q2, q3⟩ => ⟨A', c', us, by rw [q1, hmb _ q2], q2, q3⟩)
  have HR : Hid (∀ (B : Option Addr) (cb : Nat) (W : World), Rd .u8 W B n bs → Calls Try.prog 23 #[.slice B n cb] W fun e w' => ∃ A' c' us, e = .returned (.tuple #[.slice A' m c', .int .i64 E]) ∧ bodies us = L ∧ OwnT w' W.heap.size A' c' us ∧ Txts w' W.heap.size us ∧ Ext W w') := Lib.hid (fun B cb W h1 => by
    have h := refDdecode_any B n cb bs W h1 hu (by omega)
    unfold TxtsPost at h
    rw [← hR] at h
    exact h.mono fun e w' ⟨A', c', us, q1, q2, q3⟩ => ⟨A', c', us, by rw [q1, hmb _ q2], q2, q3⟩)
  have k1 : (E == E) = true := by simp
  have Hmb := Lib.hid hmb
  have Hfin := Lib.hid hfin
  have hm4 := hfin.1
  clear hm hR hu hmb hfin
  go_enter Try.func5, Try.ntmps5
  go_wp2_with fail
  refine (alive10 _).mono ?_
  rintro e w1 ⟨rfl, he1⟩
  go_wp2_with fail
  refine (wide_any A n c bs _ (hx.ext he1) (by omega)).mono ?_
  rintro e w2 ⟨B, cb, rfl, hown2, he2⟩
  have hr2 := hown2.rd_take (n := n) (by rw [List.length_append, hx.len]; omega)
  rw [List.take_left' hx.len] at hr2
  have hri := hown2.rd' (n := n + 64) (by rw [List.length_append, hx.len]; rfl)
  have hBb := hown2.block
  obtain ⟨b, rfl, _, hb, hcap, hcm⟩ := hown2.form (by rw [List.length_append, marks_len]; omega)
  rw [List.length_append, hx.len, marks_len] at hcap
  have hx2 := (hx.ext he1).ext he2
  have hE2 := he1.trans he2
  have hcn : n ≤ cb := by omega
  have HBb := Lib.hid hBb
  clear hown2 hx hBb
  go_wp2_with fail
  refine (HP.out _ _ _ hr2 hcn hcm).mono ?_
  rintro e w3 ⟨A3, c3, us, rfl, hb3, hown3, htx3, he3⟩
  go_wp2_with fail
  refine (HR.out _ _ _ (hx2.ext he3)).mono ?_
  rintro e w4 ⟨A4, c4, vs, rfl, hb4, hown4, htx4, he4⟩
  have hE26 := he3.trans he4
  have HAp := Lib.hid (apartAll2 hown3 htx3 he3 hown4 htx4 he4 (Ext.refl _) (hb3.trans hb4.symm) (Hmb.out _ hb3) (by omega) (bodies_mem hb3 Hfin.out.2))
  have Habove := Lib.hid htx3.above
  have Hlt := Lib.hid htx3.lt
  clear hb3 hb4 hown3 hown4 htx3 htx4
  go_wp2_with fail
  refine HAp.out.mono ?_
  rintro e w7 ⟨rfl, hk⟩
  have hW7 : Rd .u8 w7 (some ⟨b, 0, none⟩) (n + 64) (bs ++ marks 64) := (hri.ext hE26).kept hk (fun _ => far_below Habove.out (fun q hq => (HBb.out q hq).2))
  have hx7 : Rd .u8 w7 A n bs := (hx2.ext hE26).kept hk (fun h0 => far_below Habove.out (fun q hq => hx2.lt h0 q hq))
  have hE7 : Ext w w7 := hk.ext0 (hE2.trans hE26) (fun s hs p hp => Nat.le_trans hE2.size (Habove.out s hs p hp))
  clear hk
  go_wp2_with fail
  refine (intact_yes hW7 hx7 (by omega) (by omega)).mono ?_
  rintro e w8 ⟨rfl, q8, rfl⟩
  go_wp2_with fail
  go_ret
  exact ⟨rfl, hE7.drewN _⟩

end Go.Proofs.Ytpdppldkebfikaa
