/-
  Layer 8: the statements RunsDecodes and RunsJoins, walked.
-/
import Derived.Test.YtoefhblojoaikaaR8l
import Derived.Test.YtoefhblojoaikaaA3
namespace Go.Proofs.Ytoefhblojoaikaa
open Go.RowKit

theorem decode8_len (bs : List Nat) : (decode8 bs).1.length ≤ 4096 := by
  have hR : ∀ m vs a, vs.length ≤ 4096 → (decR bs m vs a).1.length ≤ 4096 := by
    intro m
    induction m with
    | zero => intro vs a h; rw [decR]; split <;> simp [h]
    | succ m ih =>
      intro vs a h
      rw [decR]
      repeat' split
      all_goals first | (refine ih _ _ ?_; rw [List.length_append, List.length_replicate]; omega) | simp
  unfold decode8
  repeat' split
  all_goals first | exact hR _ _ _ (by simp) | simp

theorem apart3Z {w2 w3 w4 w5 : World} {A3 A4 A5 : Option Addr} {c3 c4 c5 n : Nat} {xs : List Int} (h3 : OwnG shZ 2 w3 w2.heap.size A3 c3 xs) (e3 : Ext w2 w3) (h4 : OwnG shZ 2 w4 w3.heap.size A4 c4 xs) (e4 : Ext w3 w4)
    (h5 : OwnG shZ 2 w5 w4.heap.size A5 c5 xs) (e5 : Ext w4 w5) (hl : xs.length = n) (hn : n ≤ 281474976710656) :
    Calls Try.prog 23 #[.slice A3 n c3, .slice A4 n c4, .slice A5 n c5] w5 fun e w' => e = .returned (.bool true) ∧ Ext w2 w' := by
  refine apartZ_any A3 A4 A5 n c3 c4 c5 w2.heap.size xs w2 w5 ((h3.ext e4).ext e5) hl ((h4.ext e5).rd' hl) (h5.rd' hl) ?_ ?_ ((e3.trans e4).trans e5) (Nat.le_refl _) hn
  · intro a a2 ha ha2
    have := (h3.block a ha).2
    have := (h4.block a2 ha2).1
    omega
  · intro a a3 ha ha3
    have := (h3.block a ha).2
    have := (h5.block a3 ha3).1
    have := e4.size
    omega

set_option maxHeartbeats 3200000 in
theorem walk_RunsDecodes (A : Option Addr) (n c : Nat) (bs : List Nat) (w : World) (hx : Rd .u8 w A n bs) (hu : U8 bs) (hn : n * 1 ≤ 140737488351232) :
    Calls Try.prog 5 #[.slice A n c] w fun e w' => e = .returned (.bool true) ∧ Ext w w' := by
  have Hl := Lib.hid hx.len
  have hE8 := decode8_len bs
  obtain ⟨⟨L, E⟩, hR⟩ : ∃ R, R = decode8 bs := ⟨_, rfl⟩
  rw [← hR] at hE8
  simp only at hE8
  obtain ⟨m, hm⟩ : ∃ m, m = L.length := ⟨_, rfl⟩
  rw [← hm] at hE8
  have Hm := Lib.hid hm.symm
  have HP : Hid (∀ (B : Option Addr) (cb : Nat) (W : World), Rd .u8 W B n bs → n ≤ cb → cb ≤ 9223372036854775807 → Calls Try.prog 25 #[.slice B n cb] W fun e w' => ∃ A' c', e = .returned (.tuple #[.slice A' m c', .int .i64 E]) ∧ OwnG shZ 2 w' W.heap.size A' c' L ∧ Ext W w') := Lib.hid (fun B cb W h1 h2 h3 => by
    have h := decode_any B n cb bs W h1 hu (by omega) h2 h3
    unfold JoinPost at h
    rw [← hR] at h
    simp only [← hm] at h
    exact h)
  have HR : Hid (∀ (B : Option Addr) (cb : Nat) (W : World), Rd .u8 W B n bs → Calls Try.prog 26 #[.slice B n cb] W fun e w' => ∃ A' c', e = .returned (.tuple #[.slice A' m c', .int .i64 E]) ∧ OwnG shZ 2 w' W.heap.size A' c' L ∧ Ext W w') := Lib.hid (fun B cb W h1 => by
    have h := refDecode_any B n cb bs W h1 hu (by omega)
    unfold JoinPost at h
    rw [← hR] at h
    simp only [← hm] at h
    exact h)
  have k1 : (E == E) = true := by simp
  clear hm hR
  go_enter Try.func5, Try.ntmps5
  go_wp2_with fail
  refine (alive8 _).mono ?_
  rintro e w1 ⟨rfl, he1⟩
  go_wp2_with fail
  refine (wide_any A n c bs _ (hx.ext he1) (by omega)).mono ?_
  rintro e w2 ⟨A2, c2, rfl, hown2, he2⟩
  have hr2 := hown2.rd_take (n := n) (by rw [List.length_append, hx.len]; omega)
  rw [List.take_left' hx.len] at hr2
  have hri := hown2.rd' (n := n + 64) (by rw [List.length_append, hx.len]; rfl)
  obtain ⟨b, rfl, _, hb, hcap, hcm⟩ := hown2.form (by rw [List.length_append, marks_len]; omega)
  rw [List.length_append, hx.len, marks_len] at hcap
  have hx2 := (hx.ext he1).ext he2
  have hE2 := he1.trans he2
  have hcn : n ≤ c2 := by omega
  clear hown2 he1 he2
  go_wp2_with fail
  refine (HP.out _ _ _ hr2 hcn hcm).mono ?_
  rintro e w3 ⟨A3, c3, rfl, hown3, he3⟩
  go_wp2_with fail
  refine (HP.out _ _ _ (hr2.ext he3) hcn hcm).mono ?_
  rintro e w4 ⟨A4, c4, rfl, hown4, he4⟩
  go_wp2_with fail
  refine (HR.out _ _ _ ((hx2.ext he3).ext he4)).mono ?_
  rintro e w5 ⟨A5, c5, rfl, hown5, he5⟩
  go_wp2_with fail
  refine (apart3Z hown3 he3 hown4 he4 hown5 he5 Hm.out (by omega)).mono ?_
  rintro e w6 ⟨rfl, he6⟩
  go_wp2_with fail
  refine (intact_yes (hri.ext he6) (hx2.ext he6) (by omega) (by omega)).mono ?_
  rintro e w9 ⟨rfl, q, rfl⟩
  go_wp2
  go_ret
  exact ⟨rfl, (hE2.trans he6).drewN _⟩

set_option maxHeartbeats 3200000 in
theorem walk_RunsJoins (A : Option Addr) (n c : Nat) (rs : List (Int × Int)) (w : World) (hx : RdG shR w A n rs) (hr : ∀ r ∈ rs, R64 r.1 ∧ R64 r.2) (hn : n * 16 ≤ 140737488351232) :
    Calls Try.prog 4 #[.slice A n c] w fun e w' => e = .returned (.bool true) ∧ Ext w w' := by
  have Hl := Lib.hid hx.len
  have hE8 := joinF_len (vs := []) (rs := rs) (by simp)
  obtain ⟨⟨L, E⟩, hR⟩ : ∃ R, R = joinF [] rs := ⟨_, rfl⟩
  rw [← hR] at hE8
  simp only at hE8
  obtain ⟨m, hm⟩ : ∃ m, m = L.length := ⟨_, rfl⟩
  rw [← hm] at hE8
  have Hm := Lib.hid hm.symm
  have HP : Hid (∀ (B : Option Addr) (cb : Nat) (W : World), RdG shR W B n rs → Calls Try.prog 21 #[.slice B n cb] W fun e w' => ∃ A' c', e = .returned (.tuple #[.slice A' m c', .int .i64 E]) ∧ OwnG shZ 2 w' W.heap.size A' c' L ∧ Ext W w') := Lib.hid (fun B cb W h1 => by
    have h := join_any B n cb rs W h1 (fun r h => (hr r h).2) (by omega)
    unfold JoinPost at h
    rw [← hR] at h
    simp only [← hm] at h
    exact h)
  have HR : Hid (∀ (B : Option Addr) (cb : Nat) (W : World), RdG shR W B n rs → Calls Try.prog 22 #[.slice B n cb] W fun e w' => ∃ A' c', e = .returned (.tuple #[.slice A' m c', .int .i64 E]) ∧ OwnG shZ 2 w' W.heap.size A' c' L ∧ Ext W w') := Lib.hid (fun B cb W h1 => by
    have h := refJoin_any B n cb rs W h1 (fun r h => (hr r h).2) (by omega)
    unfold JoinPost at h
    rw [← hR] at h
    simp only [← hm] at h
    exact h)
  have k1 : (E == E) = true := by simp
  clear hm hR hr
  go_enter Try.func4, Try.ntmps4
  go_wp2_with fail
  refine (alive8 _).mono ?_
  rintro e w1 ⟨rfl, he1⟩
  have hx1 := hx.ext he1
  go_wp2_with fail
  go_loopw [3, 17] (fun y i wr => ∃ (j : Nat) (A' : Option Addr) (c' : Nat), j ≤ n ∧ i = .int .i64 j ∧ y = .slice A' j c' ∧ OwnG shR 33 wr w1.heap.size A' c' (rs.take j) ∧ Below w1.heap.size w1 wr) (fun _ i _ => n - (intOf i).toNat)
  case atStart => exact ⟨0, _, _, Nat.zero_le _, rfl, rfl, OwnG.made _ _ _ (Nat.le_refl _), (Ext.refl w1).alloc _⟩
  case round =>
    obtain ⟨j, A', c', hj, rfl, rfl, hown, hb⟩ := hrel
    have hz : w1.heap.size ≤ wr.heap.size := hb.size
    by_cases hlt : j < n
    · obtain ⟨b, o, rfl, hbl, hc0, hc1⟩ := (hx1.ext hb).atR hlt
      have htl : (rs.take j).length = j := by rw [List.length_take]; have := Hl.out; omega
      have htk := take_nextG rs j (x := rs.getD j (0, 0)) (by rw [List.getD, List.getElem?_eq_getElem (by have := Hl.out; omega)]; rfl)
      obtain ⟨⟨v, k⟩, hq⟩ : ∃ q, q = rs.getD j (0, 0) := ⟨_, rfl⟩
      rw [← hq] at hc0 hc1 htk
      simp only at hc0 hc1
      have Htl := Lib.hid htl
      have Htk := Lib.hid htk
      clear htl htk hq
      go_wp2_with (at_builtin; refine wpList_pushG (w0 := w1) (base := w1.heap.size) shR (v, k) 33 rfl _ _ 25 rfl _ 16 Try.underlying25 Try.infoRun rfl (by decide) (hown.ext (((Ext.refl _).alloc _).alloc _)) j Htl.out rfl rfl (heap_alloc2_new _ _ _) (by omega) (by omega) (Ext.trans hb (((Ext.refl _).alloc _).alloc _)) (by simp; omega) ?_; intro A1 c1 w2 hown1 _ hb1 hz1)
      go_roundw
      case rel => exact ⟨j + 1, A1, c1, by omega, by go_num, rfl, by rw [Htk.out]; exact hown1, hb1⟩
      case measure => simp [intOf]; omega
    · obtain rfl : j = n := by omega
      rw [List.take_of_length_le (by have := Hl.out; omega)] at hown
      have hrm := hown.rd' Hl.out
      have hE2 : Ext w wr := he1.trans hb
      have hxr := hx1.ext hb
      clear hown hb
      go_wp2_with fail
      refine (HP.out _ _ _ hrm).mono ?_
      rintro e w3 ⟨A3, c3, rfl, hown3, he3⟩
      go_wp2_with fail
      refine (HP.out _ _ _ (hrm.ext he3)).mono ?_
      rintro e w4 ⟨A4, c4, rfl, hown4, he4⟩
      go_wp2_with fail
      refine (HR.out _ _ _ ((hxr.ext he3).ext he4)).mono ?_
      rintro e w5 ⟨A5, c5, rfl, hown5, he5⟩
      go_wp2_with fail
      refine (apart3Z hown3 he3 hown4 he4 hown5 he5 Hm.out (by omega)).mono ?_
      rintro e w6 ⟨rfl, he6⟩
      go_wp2_with fail
      refine (sameR_yes (hrm.ext he6) (hxr.ext he6) (by omega)).mono ?_
      rintro e w9 ⟨rfl, q, rfl⟩
      go_wp2
      go_ret
      exact ⟨rfl, (hE2.trans he6).drewN _⟩

end Go.Proofs.Ytoefhblojoaikaa
