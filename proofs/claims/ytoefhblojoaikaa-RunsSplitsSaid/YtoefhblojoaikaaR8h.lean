/-
  Layer 8: Join, the program's and the document's.
-/
import Derived.Test.YtoefhblojoaikaaR8g
namespace Go.Proofs.Ytoefhblojoaikaa
open Go.RowKit

def JoinPost (R : List Int × Int) (w : World) (e : Ending) (w' : World) : Prop :=
  ∃ A' c', e = .returned (.tuple #[.slice A' R.1.length c', .int .i64 R.2]) ∧ OwnG shZ 2 w' w.heap.size A' c' R.1 ∧ Ext w w'

theorem joinF_bad {vs : List Int} {rs : List (Int × Int)} {j : Nat} {r : Int × Int} (h : rs[j]? = some r) (hc : r.2 < 1) : joinF vs (rs.drop j) = ([], 1) := by rw [joinF_at h, if_pos hc]
theorem joinF_tell {vs : List Int} {rs : List (Int × Int)} {j k : Nat} {v : Int} (h : rs[j]? = some (v, (k : Int))) (hc : 1 ≤ k) : joinF vs (rs.drop j) = if (tellF vs v k).2 = 0 then joinF (tellF vs v k).1 (rs.drop (j + 1)) else ([], (tellF vs v k).2) := by
  rw [joinF_at h, if_neg (by simp; omega)]
  unfold tellF
  simp only [Int.toNat_natCast]
  by_cases h1 : vs.getLast? = some v
  · rw [if_pos h1, if_pos h1, if_neg (by simp)]
  · rw [if_neg h1, if_neg h1]
    by_cases h2 : 4096 - (vs.length : Int) < k
    · rw [if_pos h2, if_pos h2, if_neg (by simp)]
    · rw [if_neg h2, if_neg h2, if_pos rfl]
theorem tellF_len {vs : List Int} {v : Int} {k : Nat} (_h : vs.length ≤ 4096) : (tellF vs v k).1.length ≤ 4096 := by
  unfold tellF
  split
  · simp
  · split
    · simp
    · rw [List.length_append, List.length_replicate]; omega
theorem tellF_err {vs : List Int} {v : Int} {k : Nat} (h : (tellF vs v k).2 ≠ 0) : (tellF vs v k).1 = [] := by
  unfold tellF at h ⊢
  split
  · rfl
  · rename_i h1
    rw [if_neg h1] at h
    split
    · rfl
    · rename_i h2; rw [if_neg h2] at h; exact absurd rfl h

set_option maxHeartbeats 3200000 in
theorem join_any (A : Option Addr) (n c : Nat) (rs : List (Int × Int)) (w : World) (hx : RdG shR w A n rs) (hr : ∀ r ∈ rs, R64 r.2) (hn : n ≤ 8796093022208) :
    Calls Try.prog 21 #[.slice A n c] w (JoinPost (joinF [] rs) w) := by
  have Hl := Lib.hid hx.len
  obtain ⟨R, hR⟩ : ∃ R, R = joinF [] rs := ⟨_, rfl⟩
  rw [← hR]
  have HR := Lib.hid hR
  have Hr := Lib.hid hr
  clear hR hr
  go_enter Try.func21, Try.ntmps21
  go_wp2
  go_loopw [4, 9] (fun y i wr => ∃ (j L : Nat) (vs : List Int) (A' : Option Addr) (c' : Nat), j ≤ n ∧ L ≤ 4096 ∧ L = vs.length ∧ i = .int .i64 j ∧ y = .slice A' L c' ∧ OwnG shZ 2 wr w.heap.size A' c' vs ∧ Hid (R = joinF vs (rs.drop j)) ∧ Below w.heap.size w wr) (fun _ i _ => n - (intOf i).toNat)
  case atStart => exact ⟨0, 0, [], none, 0, Nat.zero_le _, Nat.zero_le _, rfl, rfl, rfl, OwnG.nil _ _ _ _, Lib.hid (by rw [HR.out]; simp), Ext.refl w⟩
  case round =>
    obtain ⟨j, L, vs, A', c', hj, hL4, hL, rfl, rfl, hown, HJ, hb⟩ := hrel
    have hz : w.heap.size ≤ wr.heap.size := hb.size
    have Hown := Lib.hid hown
    have HL := Lib.hid hL
    clear hown hL
    by_cases hlt : j < n
    · obtain ⟨b, o, x, hA, hbl, hxj, hcells0⟩ := hx.at_ hlt
      have hcells : ∀ i u, (shR.cells x)[i]? = some u → wr.cell? ⟨b, o + j * 2 + i, none⟩ = some u := fun i u h => (Below.cell hb (p := ⟨b, o + j * 2 + i, none⟩) hbl).trans (hcells0 i u h)
      obtain ⟨v, k0⟩ := x
      have hc0 : wr.cell? ⟨b, o + j * 2, none⟩ = some (.int .i64 v) := hcells 0 _ rfl
      have hc1 : wr.cell? ⟨b, o + j * 2 + 1, none⟩ = some (.int .i64 k0) := hcells 1 _ rfl
      have hk := Hr.out _ (List.mem_of_getElem? hxj)
      simp only at hk
      have Hxj := Lib.hid hxj
      subst hA
      have hcw0 : w.cell? ⟨b, o + j * 2, none⟩ = some (.int .i64 v) := hcells0 0 _ rfl
      have hcw1 : w.cell? ⟨b, o + j * 2 + 1, none⟩ = some (.int .i64 k0) := hcells0 1 _ rfl
      clear hcells hcells0 hxj
      by_cases hk1 : k0 < 1
      · have HE := Lib.hid (HJ.out.trans (joinF_bad Hxj.out hk1))
        clear hk HJ
        go_wp2_with fail
        go_ret2
        exact ⟨none, 0, by rw [HE.out]; rfl, by rw [HE.out]; exact OwnG.nil _ _ _ _, hb⟩
      · obtain ⟨k, rfl⟩ : ∃ k : Nat, k0 = (k : Int) := ⟨k0.toNat, by omega⟩
        have HE := Lib.hid (HJ.out.trans (joinF_tell Hxj.out (by omega)))
        have hw64 : IntKind.u64.wrap (k : Int) = (k : Int) := IntWalk.u64_in _ (by have := hk.2; omega)
        have hd : decide ((k : Int) < 1) = false := decide_eq_false hk1
        have hT : ∀ W : World, Ext wr W → Calls Try.prog 46 #[.slice A' L c', .int .i64 v, .int .u64 k] W (TellPost (tellF vs v k) w.heap.size W) := fun W hW => tell_any A' L c' w.heap.size vs v k W (Hown.out.ext hW) HL.out.symm hL4 (Nat.le_trans hz hW.size)
        have HT := Lib.hid hT
        have HTl := Lib.hid (tellF_len (v := v) (k := k) (show vs.length ≤ 4096 by have := HL.out; omega))
        have HTe := Lib.hid (tellF_err (vs := vs) (v := v) (k := k))
        obtain ⟨T, hTT⟩ : ∃ T, T = tellF vs v k := ⟨_, rfl⟩
        rw [← hTT] at HT HTl HTe HE
        have hS : Hid (∀ W, Below w.heap.size w W → W.cell? ⟨b, o + j * 2, none⟩ = some (.int .i64 v) ∧ W.cell? ⟨b, o + j * 2 + 1, none⟩ = some (.int .i64 (k : Int))) := Lib.hid fun W hW => ⟨(Below.cell hW (p := ⟨b, o + j * 2, none⟩) hbl).trans hcw0, (Below.cell hW (p := ⟨b, o + j * 2 + 1, none⟩) hbl).trans hcw1⟩
        clear hk hT hTT HJ hk1 hcw0 hcw1
        go_wp2_with fail
        go_region_held3 (fun w' => w'.cell? ⟨b, o + j * 2, none⟩ = some (.int .i64 v) ∧ w'.cell? ⟨b, o + j * 2 + 1, none⟩ = some (.int .i64 (k : Int)))
          (first | exact ⟨hc0, hc1⟩ | exact hS.out _ hb3 | fail)
          (first
            | (go_at_call 46; refine (HT.out _ ?_).mono ?_; (first | exact Ext.refl _ | exact (Ext.refl _).drew | exact Ext.of_drewN _ _ | fail); rintro e w2 ⟨A2, c2, rfl, hown2, hb2, hz2⟩; have hb3 : Below w.heap.size w w2 := Below.trans hb ⟨hb2.os, hb2.tape, hb2.output, hb2.size, hb2.block⟩)
            | fail)
        by_cases h0 : T.2 = 0
        · have HE2 := Lib.hid (show R = joinF T.1 (rs.drop (j + 1)) by rw [HE.out, if_pos h0])
          have hb0 : (T.2 != 0) = false := by simpa using h0
          have HTL := HTl.out
          clear HE h0
          go_wp2_with fail
          go_roundw
          case rel => exact ⟨j + 1, T.1.length, T.1, A2, c2, by omega, HTL, rfl, by go_num, rfl, hown2, HE2, hb3⟩
          case measure => simp [intOf]; omega
        · have HE2 := Lib.hid (show R = ([], T.2) by rw [HE.out, if_neg h0])
          have hb0 : (T.2 != 0) = true := by simpa using h0
          clear HE h0
          go_wp2_with fail
          go_ret2
          exact ⟨none, 0, by rw [HE2.out]; rfl, by rw [HE2.out]; exact OwnG.nil _ _ _ _, hb3⟩
    · obtain rfl : j = n := by omega
      have HE := Lib.hid (HJ.out.trans (joinF_end (by have := Hl.out; omega)))
      have h1 := HL.out
      subst h1
      go_wp2_with fail
      go_ret2
      exact ⟨A', c', by rw [HE.out]; rfl, by rw [HE.out]; exact Hown.out, hb⟩

end Go.Proofs.Ytoefhblojoaikaa
