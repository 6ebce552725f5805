import Derived.Test.YtnkggopkcjffoaaDoorYK8a

/-
  Layer 7: a cell written by the document.
-/
namespace Go.Proofs.YtnkggopkcjffoaaDoor
open Go.RowKit

/-- What is read beside an append: it stays, and lies elsewhere still. -/
theorem beside_push {e : TypeId} {w0 w w1 : World} {base c m : Nat} {A A1 A2 : Option Addr} {xs ys : List Nat} (hb : Below base w0 w) (hz : base ≤ w.heap.size) (hown : Own .u8 e w base A c xs) (hy : Rd .u8 w A2 m ys) (hm : 0 < m)
    (hne : ∀ p q, A = some p → A2 = some q → p.block ≠ q.block) (hw1 : A1 = A ∧ w.grownBy w1 (A.map (·.block)) ∨ Ext w w1 ∧ ∀ q, A1 = some q → w.heap.size ≤ q.block) :
    Rd .u8 w1 A2 m ys ∧ (∀ p q, A1 = some p → A2 = some q → p.block ≠ q.block) ∧ Below base w0 w1 := by
  obtain ⟨b, o, rfl, hbl, hc⟩ := hy.at_ hm
  rcases hw1 with ⟨rfl, hg⟩ | ⟨he, hq⟩
  · refine ⟨hy.grown hg (fun a ha e => ?_), hne, Below.grown hb hg hz (fun g hg' => (hown.lt g (by cases A1 with | none => cases hg' | some p => exact hg')).1)⟩
    cases hA : A1 with
    | none => rw [hA] at e; cases e
    | some p => rw [hA] at e; injection e with e; exact hne p a hA ha e.symm
  · refine ⟨hy.ext he, fun p q hp hq2 e => ?_, Below.trans hb (Below.mono he hz)⟩
    have h1 := hq p hp
    injection hq2 with hq2
    subst hq2
    have h2 : p.block = b := e
    omega

set_option maxHeartbeats 1600000 in
set_option maxRecDepth 100000 in
theorem refPutN_any (k num : Int) (nul : Bool) (A : Option Addr) (n c : Nat) (w : World) (hk : 1 ≤ k ∧ k ≤ 6) (h1 : least k ≤ num) (h2 : num ≤ great k) :
    Calls Tryd.prog 38 #[.int .i64 k, .agg #[.bool nul, .int .i64 num, .slice A n c]] w fun e w' => ∃ A' c', e = .returned (.slice A' (ksize k : Nat) c') ∧ Own .u8 5 w' w.heap.size A' c' (be (ksize k) (num - least k).toNat) ∧ Ext w w' := by
  have f1 := cell_of_row _ w.heap.size 1 _ _ (0, 0) (heap_alloc_new w (.cells #[.bool nul, .int .i64 num, .slice A n c] 63))
  obtain ⟨W1, hW1⟩ : ∃ W1, W1 = (w.alloc (.cells #[.bool nul, .int .i64 num, .slice A n c] 63)).alloc (.cells #[] 5) := ⟨_, rfl⟩
  have hE1 : Ext w W1 := by rw [hW1]; exact ((Ext.refl w).alloc _).alloc _
  have hO1 : Own .u8 5 W1 w.heap.size (some ⟨w.heap.size + 1, 0, none⟩) 0 [] := by
    rw [hW1]
    have := Own.made (base := w.heap.size) .u8 5 (w.alloc (.cells #[.bool nul, .int .i64 num, .slice A n c] 63)) (by simp)
    simpa using this
  have hS1 : W1.heap.size = w.heap.size + 2 := by rw [hW1]; simp
  have h8 := ksize_le k
  have hlt := least_wrap hk h1 h2
  obtain ⟨D, hD⟩ : ∃ D, D = (num - least k).toNat := ⟨_, rfl⟩
  have hb := be_upk (ksize k) D
  have hW : k ≤ 4 → IntKind.u64.wrap (IntKind.u64.wrap num - IntKind.u64.wrap (least k)) = (D : Int) := fun _ => by rw [hD]; exact sub_wrap hk h1 h2
  have hV : 4 < k → IntKind.u64.wrap num = (D : Int) := fun h => by rw [hD]; exact plain_wrap ⟨h, hk.2⟩ h1 h2
  rw [← hD] at hlt ⊢
  have HB := Lib.hid hb
  have HS := Lib.hid (fun W => refSize_any k W hk.1 hk.2)
  obtain ⟨s, hs⟩ : ∃ s, s = ksize k := ⟨_, rfl⟩
  rw [← hs] at h8 HB HS ⊢
  have HL := Lib.hid (fun W => low_any D s W hlt (by omega))
  have Hlen := Lib.hid (upk_len 8 s D)
  obtain ⟨L, hL⟩ : ∃ L, L = upk 8 s D := ⟨_, rfl⟩
  rw [← hL] at HB HL Hlen
  have hk6 : k ≤ 6 := hk.2
  have HW := Lib.hid hW
  have HV := Lib.hid hV
  have Hlt := Lib.hid hlt
  have HW1 := Lib.hid hW1
  have HO1 := Lib.hid hO1
  have HE1 := Lib.hid hE1
  have HS1 := Lib.hid hS1
  clear hs hL hD hb h1 h2 hW hV hlt hW1 hO1 hE1 hS1
  have hX : ∀ (nq : Nat), Hid (∀ w3 A3 c3, Own .u8 5 w3 (W1.drewN nq).heap.size A3 c3 L → Ext (W1.drewN nq) w3 → Own .u8 5 w3 w.heap.size (some ⟨w.heap.size + 1, 0, none⟩) 0 (L.reverse.take 0) ∧ Rd .u8 w3 A3 s L ∧ (∀ p q, some (⟨w.heap.size + 1, 0, none⟩ : Addr) = some p → A3 = some q → p.block ≠ q.block) ∧ Ext w w3) := fun nq => Lib.hid (fun w3 A3 c3 ho he => by
    have he' : Ext W1 w3 := ((Ext.refl W1).drewN nq).trans he
    refine ⟨HO1.out.ext he', ho.rd' Hlen.out, fun p q hp hq e => ?_, HE1.out.trans he'⟩
    have h9 := (ho.block q hq).1
    have h10 := HS1.out
    injection hp with hp
    subst hp
    have e2 : w.heap.size + 1 = q.block := e
    have h11 : (W1.drewN nq).heap.size = W1.heap.size := rfl
    omega)
  by_cases h4 : k ≤ 4
  case' pos =>
    have Hw4 := Lib.hid (HW.out h4)
    clear HW HV
    clear hk
    go_enter Tryd.func38, Tryd.ntmps38
    go_wp2
    go_quiet ((first | (go_at_call 53; exact quietL (least_any _)) | fail))
    rw [Hw4.out]
    go_wp2_with fail
    refine (HS.out _).mono ?_
    rintro e w2 ⟨rfl, rfl⟩
    go_wp2_with fail
    rw [← HW1.out]
    refine (HL.out _).mono ?_
    rintro e w3 ⟨A3, c3, rfl, hown3, he3⟩
    have h0 := (hX _).out w3 A3 c3 hown3 he3
  case' neg =>
    have Hw4 := Lib.hid (HV.out (by omega))
    clear HW HV
    clear hk
    go_enter Tryd.func38, Tryd.ntmps38
    go_wp2_with fail
    rw [Hw4.out]
    refine (HS.out _).mono ?_
    rintro e w2 ⟨rfl, rfl⟩
    go_wp2_with fail
    rw [← HW1.out]
    refine (HL.out _).mono ?_
    rintro e w3 ⟨A3, c3, rfl, hown3, he3⟩
    have h0 := (hX 0).out w3 A3 c3 hown3 he3
  all_goals
    have hcc := hown3.cap
    clear he3 hown3 f1 hX Hw4
    have H0 := Lib.hid h0
    clear h0
    go_wp2_with fail
    go_loopw [5, 8] (fun v i wr => ∃ (j : Nat) (A' : Option Addr) (c' : Nat), j ≤ s ∧ i = .int .i64 ((s : Int) - 1 - j) ∧ v = .slice A' j c' ∧ Own .u8 5 wr w.heap.size A' c' (L.reverse.take j) ∧ Rd .u8 wr A3 s L ∧ (∀ p q, A' = some p → A3 = some q → p.block ≠ q.block) ∧ Ext w wr) (fun _ i _ => (intOf i + 1).toNat)
    case atStart =>
      obtain ⟨z1, z2, z3, z4⟩ := H0.out
      exact ⟨0, _, _, Nat.zero_le _, by go_num, rfl, z1, z2, fun p q hp hq => (z3 p q hp hq), z4⟩
    case round =>
      clear H0
      obtain ⟨j, A', c', hj, rfl, rfl, hown, hy, hne, hb⟩ := hrel
      by_cases hlt : j < s
      · obtain ⟨b, o, hA3, hbl, hc⟩ := hy.at_ (show s - 1 - j < s by omega)
        have Hy := Lib.hid hy
        subst hA3
        have hcx : ((s - 1 - j : Nat) : Int) = (s : Int) - 1 - j := by omega
        have htl : (L.reverse.take j).length = j := by rw [List.length_take, List.length_reverse, Hlen.out]; omega
        have Htl := Lib.hid htl
        have Hne := Lib.hid hne
        have Hown := Lib.hid hown
        have Hb := Lib.hid hb
        have hz := hb.size
        have Hrv := Lib.hid (rev_step (L := L) (j := j) (by rw [Hlen.out]; exact hlt))
        have i0 : (0 : Int) ≤ (s : Int) - 1 - j := by omega
        have i1 : (s : Int) - 1 - j < s := by omega
        have i2 : ((s : Int) - 1 - j).toNat = s - 1 - j := by omega
        clear htl hne hown hy hb
        go_wp2_with (at_builtin; refine wpList_push2 .u8 (L.getD (s - 1 - j) 0) 5 rfl _ _ 28 rfl _ 1 Tryd.underlying28 Tryd.infoU8 rfl Hown.out j Htl.out rfl rfl rfl (by omega) (by omega) hz ?_; intro A1 c1 w1 hown1 hw1 hz1)
        have hN := beside_push Hb.out hz Hown.out Hy.out (by omega) Hne.out hw1
        have HN := Lib.hid hN
        clear hN hw1
        go_roundw
        case rel => exact ⟨j + 1, A1, c1, by omega, by go_num, by go_num, by rw [Hrv.out, Hlen.out]; exact hown1, HN.out.1, HN.out.2.1, HN.out.2.2⟩
        case measure => simp [intOf]; omega
      · obtain rfl : j = s := by omega
        rw [List.take_of_length_le (by rw [List.length_reverse, Hlen.out]; exact Nat.le_refl _)] at hown
        go_wp2
        go_ret
        exact ⟨_, _, rfl, by rw [HB.out]; exact hown, hb⟩

end Go.Proofs.YtnkggopkcjffoaaDoor
