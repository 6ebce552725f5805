/-
  The document's layer 6: is a schema right?
-/
import Derived.Test.YtpjichclpnebjaaH4
import Derived.Lib.SlicesS
namespace Go.Proofs.Ytpjichclpnebjaa
open Go.RowKit

theorem names_at {cs : List Col} {j : Nat} {d : Col} (h : cs[j]? = some d) : (names cs)[j]? = some d.name.data.toList := by
  unfold names; rw [List.getElem?_map, h]; rfl
theorem nodup_iff {l : List (List UInt8)} : l.Nodup ↔ ∀ (i j : Nat) (x y : List UInt8), i < j → l[i]? = some x → l[j]? = some y → x ≠ y := by
  unfold List.Nodup
  rw [List.pairwise_iff_getElem]
  constructor
  · intro h i j x y hij hx hy
    obtain ⟨hi, rfl⟩ := List.getElem?_eq_some_iff.1 hx
    obtain ⟨hj, rfl⟩ := List.getElem?_eq_some_iff.1 hy
    exact h i j hi hj hij
  · intro h i j hi hj hij
    exact h i j _ _ hij (List.getElem?_eq_getElem hi) (List.getElem?_eq_getElem hj)

set_option maxHeartbeats 3200000 in
set_option maxRecDepth 100000 in
theorem refScheck_any (A : Option Addr) (n c : Nat) (keys : Int) (cs : List Col) (w : World) (hx : RdC w A n cs) (hs : ∀ d ∈ cs, d.name.size ≤ 140737488355328) (hn : n ≤ 140737488355328) :
    Calls Try.prog 13 #[.agg #[.slice A n c, .int .i64 keys]] w fun e w' => e = .returned (.int .i64 (schE keys cs)) ∧ Ext w w' := by
  have hl := hx.1
  obtain ⟨R, hR⟩ : ∃ R, R = schE keys cs := ⟨_, rfl⟩
  rw [← hR]
  have HR := Lib.hid hR
  clear hR
  by_cases h : 1 ≤ cs.length ∧ cs.length ≤ 12 ∧ 1 ≤ keys ∧ keys ≤ 3 ∧ keys ≤ cs.length
  · have a1' : decide ((n : Int) < 1) = false := decide_eq_false (by omega)
    have a2' : decide ((12 : Int) < (n : Int)) = false := decide_eq_false (by omega)
    have a3 : decide (keys < 1) = false := decide_eq_false (by omega)
    have a4 : decide ((3 : Int) < keys) = false := decide_eq_false (by omega)
    have a5 : decide ((n : Int) < keys) = false := decide_eq_false (by omega)
    have Hh := Lib.hid h
    have Hl := Lib.hid hl
    have hn12 : n ≤ 12 := by omega
    have hbk0 := heap_alloc_new w (.cells #[.slice A n c, .int .i64 keys] 24)
    have hE0 : Ext w (w.alloc (.cells #[.slice A n c, .int .i64 keys] 24)) := (Ext.refl w).alloc _
    clear h hl
    go_enter Try.func13, Try.ntmps13
    go_wp2
    go_loopw [3] (fun i wr => ∃ j : Nat, j ≤ n ∧ i = .int .i64 j ∧ Ext w wr ∧ Hid (∀ t d, t < j → cs[t]? = some d → colB keys t d = true) ∧ Hid (∀ (i t : Nat) (x y : List UInt8), i < t → t < j → (names cs)[i]? = some x → (names cs)[t]? = some y → x ≠ y) ∧ Hid (wr.heap[w.heap.size]? = some (.cells #[.slice A n c, .int .i64 keys] 24))) (fun i _ => n - (intOf i).toNat)
    case atStart => exact ⟨0, Nat.zero_le _, rfl, hE0, Lib.hid (fun t d ht => absurd ht (by omega)), Lib.hid (fun i t x y _ ht => absurd ht (by omega)), Lib.hid hbk0⟩
    case round =>
      clear hbk0 hE0
      obtain ⟨j, hj, rfl, hE, Hs, Hn, Hbk⟩ := hrel
      have z0 : w.heap.size < wr.heap.size := (Array.getElem?_eq_some_iff.1 Hbk.out).1
      have k0 := cell_of_row wr w.heap.size 0 _ _ (0, 0) Hbk.out
      have k1 := cell_of_row wr w.heap.size 1 _ _ (0, 0) Hbk.out
      simp only [List.getElem?_toArray, List.getElem?_cons_zero, List.getElem?_cons_succ] at k0 k1
      by_cases hlt : j < n
      · obtain ⟨b, o, d, rfl, hb, hd, c0, c1, c2⟩ := (hx.ext hE).at_ hlt
        have hds := hs d (List.mem_of_getElem? hd)
        have hnj := names_at hd
        have F1 := fun q => schE_col (keys := keys) hd (colB_name (keys := keys) (i := j) q)
        have F2 := fun q => schE_col (keys := keys) hd (colB_kind (keys := keys) (i := j) q)
        have F3 := fun q q2 => schE_col (keys := keys) hd (colB_null (keys := keys) (i := j) q q2)
        have F4 := fun q q2 q3 => colB_ok (keys := keys) (i := j) (c := d) q q2 q3
        rw [← HR.out] at F1 F2 F3
        obtain ⟨nm, kd, nl⟩ := d
        simp only at c0 c1 c2 hds F1 F2 F3 F4 hnj
        have Hd := Lib.hid hd
        have Hnj := Lib.hid hnj
        have hX : Ext wr (wr.alloc (.cells #[.string nm, .int .i64 kd, .bool nl] 89)) := (Ext.refl wr).alloc _
        clear hd hnj
        cases hnb : nameB nm with
        | false =>
          have He := Lib.hid (F1 hnb)
          have Hnb := Lib.hid hnb
          clear F1 F2 F3 F4 hnb
          go_wp2_with fail
          refine (refName_any _ _ hds).mono ?_
          rintro e w1 ⟨rfl, rfl⟩
          rw [Hnb.out]
          go_wp2
          go_ret
          exact ⟨by rw [He.out]; rfl, hE.trans hX⟩
        | true =>
          have Hnb := Lib.hid hnb
          by_cases hkk : 1 ≤ kd ∧ kd ≤ 8
          · have hkb := kindK_yes hkk
            have d1 : decide (kd < 1) = false := decide_eq_false (by omega)
            have d2 : decide (8 < kd) = false := decide_eq_false (by omega)
            have key : ((j : Int) < keys ∧ nl = true) ∨ ((j : Int) < keys ∧ nl = false) ∨ (¬ (j : Int) < keys) := by
              cases nl
              · by_cases q : (j : Int) < keys
                · exact .inr (.inl ⟨q, rfl⟩)
                · exact .inr (.inr q)
              · by_cases q : (j : Int) < keys
                · exact .inl ⟨q, rfl⟩
                · exact .inr (.inr q)
            rcases key with ⟨q, rfl⟩ | key
            · have He := Lib.hid (F3 rfl q)
              clear F1 F2 F3 F4 hnb hkb hkk
              go_wp2_with fail
              refine (refName_any _ _ hds).mono ?_
              rintro e w1 ⟨rfl, rfl⟩
              rw [Hnb.out]
              go_wp2
              go_ret
              exact ⟨by rw [He.out]; rfl, hE.trans hX⟩
            · have Hcol := Lib.hid (F4 hnb hkb (by rcases key with ⟨_, q⟩ | q; exact .inl q; exact .inr q))
              have key2 : (decide ((j : Int) < keys) = true ∧ nl = false) ∨ decide ((j : Int) < keys) = false := by
                rcases key with ⟨q, q2⟩ | q
                · exact .inl ⟨decide_eq_true q, q2⟩
                · exact .inr (decide_eq_false q)
              clear F1 F2 F3 F4 hnb hkb hkk key
              have HsN : Hid (∀ t d, t < j + 1 → cs[t]? = some d → colB keys t d = true) := Lib.hid (fun t d ht hd => by
                  by_cases q : t < j
                  · exact Hs.out t d q hd
                  · obtain rfl : t = j := by omega
                    rw [Hd.out] at hd
                    injection hd with hd
                    subst hd
                    exact Hcol.out)
              have hbk2 := Lib.hid ((hX.block w.heap.size z0).trans Hbk.out)
              have c0' := (hX.cells b (o + j * 3) hb).trans c0
              have hxW := hx.ext (hE.trans hX)
              have hEX := hE.trans hX
              rcases key2 with ⟨q, rfl⟩ | q
              all_goals
                go_wp2_with fail
                refine (refName_any _ _ hds).mono ?_
                rintro e w1 ⟨rfl, rfl⟩
                rw [Hnb.out]
                go_wp2_with fail
                first
                  | (rcases (⟨_, rfl⟩ : ∃ WX, WX = wr.alloc (.cells #[.string nm, .int .i64 kd, .bool false] 89)) with ⟨WX, hWX⟩; rw [← hWX] at hbk2 hxW hEX ⊢)
                  | (rcases (⟨_, rfl⟩ : ∃ WX, WX = wr.alloc (.cells #[.string nm, .int .i64 kd, .bool nl] 89)) with ⟨WX, hWX⟩; rw [← hWX] at hbk2 hxW hEX ⊢)
                  | fail
                have zx : w.heap.size < WX.heap.size := (Array.getElem?_eq_some_iff.1 hbk2.out).1
                have m0 := cell_of_row WX w.heap.size 0 _ _ (0, 0) hbk2.out
                simp only [List.getElem?_toArray, List.getElem?_cons_zero] at m0
                have g0 : WX.cell? ⟨wr.heap.size, 0, none⟩ = some (.string nm) := by rw [hWX]; exact cell_of_row _ wr.heap.size 0 _ _ (0, 0) (heap_alloc_new wr _)
                clear hWX hX
                go_loopw [5] (fun i wt => ∃ t q : Nat, t ≤ j ∧ i = .int .i64 t ∧ wt = WX.drewN q ∧ Hid (∀ (i : Nat) (x : List UInt8), i < t → (names cs)[i]? = some x → x ≠ nm.data.toList)) (fun i _ => j - (intOf i).toNat)
                case atStart => exact ⟨0, 0, Nat.zero_le _, rfl, rfl, Lib.hid (fun i x hi => absurd hi (by omega))⟩
                case round =>
                  obtain ⟨t, q, ht, rfl, hwt, Ht⟩ := hrel
                  subst hwt
                  by_cases hlt2 : t < j
                  · obtain ⟨b2, o2, d2, hA2, hb2, hd2, e0, _, _⟩ := hxW.at_ (show t < n by omega)
                    injection hA2 with hA2
                    injection hA2 with hA3 hA4
                    subst hA3 hA4
                    have hn2 := names_at hd2
                    obtain ⟨nm2, kd2, nl2⟩ := d2
                    simp only at e0 hn2
                    clear hd2
                    by_cases heq : nm2 = nm
                    · have He := Lib.hid (HR.out.trans (schE_dup (keys := keys) (fun hnd => nodup_iff.1 hnd t j _ _ hlt2 hn2 Hnj.out (by rw [heq]))))
                      have q1 : (nm2.toList == nm.toList) = true := (Lib.bytes_beq_iff _ _).2 heq
                      clear heq hn2
                      go_wp2_with fail
                      go_quiet (fail)
                      go_wp2
                      go_ret
                      exact ⟨by rw [He.out]; rfl, (hEX.drewN _).drewN _⟩
                    · have q1 : (nm2.toList == nm.toList) = false := by rw [Bool.eq_false_iff]; exact fun q => heq ((Lib.bytes_beq_iff _ _).1 q)
                      have HN := Lib.hid (show ∀ (i : Nat) (x : List UInt8), i < t + 1 → (names cs)[i]? = some x → x ≠ nm.data.toList from fun i x hi hx' => by
                        by_cases q : i < t
                        · exact Ht.out i x q hx'
                        · obtain rfl : i = t := by omega
                          rw [hn2] at hx'
                          injection hx' with hx'
                          subst hx'
                          intro q2
                          exact heq (by cases nm2; cases nm; simp only at q2; congr 1; exact Array.toList_inj.1 q2))
                      clear heq hn2
                      go_wp2_with fail
                      go_quiet (fail)
                      go_wp2
                      go_roundw
                      case rel => exact ⟨t + 1, _, by omega, by go_num, rfl, HN.out⟩
                      case measure => simp [intOf]; omega
                  · obtain rfl : t = j := by omega
                    have HnN := Lib.hid (show ∀ (i t2 : Nat) (x y : List UInt8), i < t2 → t2 < t + 1 → (names cs)[i]? = some x → (names cs)[t2]? = some y → x ≠ y from fun i t2 x y hi ht2 hx' hy' => by
                      by_cases q : t2 < t
                      · exact Hn.out i t2 x y hi q hx' hy'
                      · obtain rfl : t2 = t := by omega
                        rw [Hnj.out] at hy'
                        injection hy' with hy'
                        subst hy'
                        exact Ht.out i x hi hx')
                    go_wp2
                    go_roundw
                    case rel => exact ⟨t + 1, by omega, by go_num, hEX.drewN _, HsN, HnN, hbk2⟩
                    case measure => simp [intOf]; omega
          · have hkb := kindK_no hkk
            have He := Lib.hid (F2 hkb)
            have key : decide (kd < 1) = true ∨ (decide (kd < 1) = false ∧ decide (8 < kd) = true) := by
              simp only [decide_eq_true_eq, decide_eq_false_iff_not]; omega
            clear F1 F2 F3 F4 hnb hkb hkk
            rcases key with d1 | ⟨d1, d2⟩
            all_goals
              go_wp2_with fail
              refine (refName_any _ _ hds).mono ?_
              rintro e w1 ⟨rfl, rfl⟩
              rw [Hnb.out]
              go_wp2
              go_ret
              exact ⟨by rw [He.out]; rfl, hE.trans hX⟩
      · obtain rfl : j = n := by omega
        have hnd : (names cs).Nodup := nodup_iff.2 (fun i t x y hit hx' hy' => Hn.out i t x y hit (by
          have := (List.getElem?_eq_some_iff.1 hy').1
          unfold names at this
          rw [List.length_map, Hl.out] at this
          exact this) hx' hy')
        have He := Lib.hid (HR.out.trans (schE_ok Hh.out (fun t d hd => Hs.out t d (by have := (List.getElem?_eq_some_iff.1 hd).1; have := Hl.out; omega) hd) hnd))
        clear hnd
        go_wp2
        go_ret
        exact ⟨by rw [He.out]; rfl, hE⟩
  · have He := Lib.hid (HR.out.trans (schE_shape h))
    have hE0 : Ext w (w.alloc (.cells #[.slice A n c, .int .i64 keys] 24)) := (Ext.refl w).alloc _
    have key : (decide ((n : Int) < 1) = true) ∨ (decide ((n : Int) < 1) = false ∧ decide ((12 : Int) < (n : Int)) = true) ∨ (decide ((n : Int) < 1) = false ∧ decide ((12 : Int) < (n : Int)) = false ∧ decide (keys < 1) = true) ∨ (decide ((n : Int) < 1) = false ∧ decide ((12 : Int) < (n : Int)) = false ∧ decide (keys < 1) = false ∧ decide ((3 : Int) < keys) = true) ∨ (decide ((n : Int) < 1) = false ∧ decide ((12 : Int) < (n : Int)) = false ∧ decide (keys < 1) = false ∧ decide ((3 : Int) < keys) = false ∧ decide ((n : Int) < keys) = true) := by
      simp only [decide_eq_true_eq, decide_eq_false_iff_not]
      omega
    clear h hl
    rcases key with q1 | ⟨q1, q2⟩ | ⟨q1, q2, q3⟩ | ⟨q1, q2, q3, q4⟩ | ⟨q1, q2, q3, q4, q5⟩
    all_goals
      go_enter Try.func13, Try.ntmps13
      go_wp2
      go_ret
      exact ⟨by rw [He.out]; rfl, hE0⟩

end Go.Proofs.Ytpjichclpnebjaa
