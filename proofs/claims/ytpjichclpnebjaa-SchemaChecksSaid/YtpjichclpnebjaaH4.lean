/-
  The program's layer 6: is a schema right?
-/
import Derived.Test.YtpjichclpnebjaaH3
import Derived.Test.YtpjichclpnebjaaR1
namespace Go.Proofs.Ytpjichclpnebjaa
open Go.RowKit Go.Maps Go.WideMaps

theorem run_mkMap (n : Int) (w : World) : (Instr.makeMap 90 (some (.int .i64 n))).run Try.prog w = .ok (.map (some w.heap.size)) (w.alloc (.map #[] 0)) := by
  simp [Instr.makeMap, run_underlying Try.underlying90, asInt, asIntOf, Result.andThen]

theorem Ext.grownBy {w w' : World} (h : Ext w w') : w.grownBy w' none := ⟨h.os, h.tape, h.output, h.size, fun i hi _ => h.block i hi⟩

theorem lawS : Keyed Try.prog 9 := string_keyed Try.underlying9

theorem colB_name {keys : Int} {i : Nat} {c : Col} (h : nameB c.name = false) : colB keys i c = false := by unfold colB; rw [h]; rfl
theorem colB_kind {keys : Int} {i : Nat} {c : Col} (h : kindK c.kind = false) : colB keys i c = false := by unfold colB; rw [h]; simp
theorem colB_null {keys : Int} {i : Nat} {c : Col} (h : c.null = true) (h2 : (i : Int) < keys) : colB keys i c = false := by unfold colB; rw [h, decide_eq_true h2]; simp
theorem colB_ok {keys : Int} {i : Nat} {c : Col} (h : nameB c.name = true) (h2 : kindK c.kind = true) (h3 : c.null = false ∨ ¬ (i : Int) < keys) : colB keys i c = true := by
  unfold colB
  rw [h, h2]
  rcases h3 with h3 | h3
  · rw [h3]; rfl
  · rw [decide_eq_false h3]; simp

set_option maxHeartbeats 3200000 in
set_option maxRecDepth 100000 in
theorem scheck_any (A : Option Addr) (n c : Nat) (keys : Int) (cs : List Col) (w : World) (hx : RdC w A n cs) (hs : ∀ d ∈ cs, d.name.size ≤ 140737488355328) (hn : n ≤ 140737488355328) :
    Calls Try.prog 12 #[.agg #[.slice A n c, .int .i64 keys]] w fun e w' => e = .returned (.int .i64 (schE keys cs)) ∧ Ext w w' := by
  have hl := hx.1
  obtain ⟨R, hR⟩ : ∃ R, R = schE keys cs := ⟨_, rfl⟩
  rw [← hR]
  have HR := Lib.hid hR
  clear hR
  by_cases h : 1 ≤ cs.length ∧ cs.length ≤ 12 ∧ 1 ≤ keys ∧ keys ≤ 3 ∧ keys ≤ cs.length
  · have a1 : decide (n < 1) = false := decide_eq_false (by omega)
    have a1' : decide ((n : Int) < 1) = false := decide_eq_false (by omega)
    have a2 : decide (12 < n) = false := decide_eq_false (by omega)
    have a2' : decide ((12 : Int) < (n : Int)) = false := decide_eq_false (by omega)
    have a3 : decide (keys < 1) = false := decide_eq_false (by omega)
    have a4 : ¬ min (3 : Int) (n : Int) < keys := by omega
    have a4' : decide (min (3 : Int) (n : Int) < keys) = false := decide_eq_false a4
    have hk3 : keys ≤ 3 := h.2.2.2.1
    have hkn : keys ≤ (n : Int) := by omega
    have hk1 : 1 ≤ keys := h.2.2.1
    have Hh := Lib.hid h
    have Hl := Lib.hid hl
    have hn12 : n ≤ 12 := by omega
    have hmm := run_mkMap
    have hE0 : Ext w (w.alloc (.cells #[.slice A n c, .int .i64 keys] 24)) := (Ext.refl w).alloc _
    have hown0 := World.ownsMap_made (H := Unit) (w.alloc (.cells #[.slice A n c, .int .i64 keys] 24)) Try.prog 9 unitElem
    have hbk0 := Ext.kept ((Ext.refl (w.alloc (.cells #[.slice A n c, .int .i64 keys] 24))).alloc (.map #[] 0))
    have e1 : (w.alloc (.cells #[.slice A n c, .int .i64 keys] 24)).heap.size = w.heap.size + 1 := by simp
    rw [e1] at hown0
    clear h hl a4 e1
    go_enter Try.func12, Try.ntmps12
    go_wp2
    clear hmm
    go_loopw [35] (fun i wr => ∃ j : Nat, j ≤ n ∧ i = .int .i64 j ∧ wr.ownsMap Try.prog 9 unitElem (w.heap.size + 1) j (Sn (H := Unit) cs j) ∧ Ext w wr ∧ Hid (∀ t d, t < j → cs[t]? = some d → colB keys t d = true) ∧ Hid (wr.heap[w.heap.size]? = some (.cells #[.slice A n c, .int .i64 keys] 24))) (fun i _ => n - (intOf i).toNat)
    case atStart => exact ⟨0, Nat.zero_le _, rfl, by rw [Sn_zero]; exact hown0, hE0.alloc _, Lib.hid (fun t d ht => absurd ht (by omega)), Lib.hid hbk0⟩
    case round =>
      clear hown0 hbk0 hE0
      obtain ⟨j, hj, rfl, hown, hE, Hs, Hbk⟩ := hrel
      have z0 : w.heap.size < wr.heap.size := (Array.getElem?_eq_some_iff.1 Hbk.out).1
      have k0 := cell_of_row wr w.heap.size 0 _ _ (0, 0) Hbk.out
      have k1 := cell_of_row wr w.heap.size 1 _ _ (0, 0) Hbk.out
      simp only [List.getElem?_toArray, List.getElem?_cons_zero, List.getElem?_cons_succ] at k0 k1
      by_cases hlt : j < n
      · obtain ⟨b, o, d, rfl, hb, hd, c0, c1, c2⟩ := (hx.ext hE).at_ hlt
        have hds := hs d (List.mem_of_getElem? hd)
        have hSn := Sn_succ (H := Unit) hd
        have F1 := fun q => schE_col (keys := keys) hd (colB_name (keys := keys) (i := j) q)
        have F2 := fun q => schE_col (keys := keys) hd (colB_kind (keys := keys) (i := j) q)
        have F3 := fun q q2 => schE_col (keys := keys) hd (colB_null (keys := keys) (i := j) q q2)
        have F4 := fun q q2 q3 => colB_ok (keys := keys) (i := j) (c := d) q q2 q3
        rw [← HR.out] at F1 F2 F3
        obtain ⟨nm, kd, nl⟩ := d
        simp only at c0 c1 c2 hds F1 F2 F3 F4
        have hkey : keyOf Try.prog 9 (.string nm) = some (nameL ⟨nm, kd, nl⟩) := keyOf_string_mk Try.underlying9 (by unfold maxLen; omega)
        have HSn := Lib.hid hSn
        have Hd := Lib.hid hd
        have hX : Ext wr (wr.alloc (.cells #[.string nm, .int .i64 kd, .bool nl] 89)) := (Ext.refl wr).alloc _
        clear hSn hd
        cases hnb : nameB nm with
        | false =>
          have He := Lib.hid (F1 hnb)
          have Hnb := Lib.hid hnb
          clear F1 F2 F3 F4 hnb hkey
          go_wp2_with fail
          refine (isName_any _ _ hds).mono ?_
          rintro e w1 ⟨rfl, rfl⟩
          rw [Hnb.out]
          go_wp2
          go_ret
          exact ⟨by rw [He.out]; rfl, hE.trans hX⟩
        | true =>
          cases hkb : kindK kd with
          | false =>
            have He := Lib.hid (F2 hkb)
            have Hnb := Lib.hid hnb
            have Hkb := Lib.hid hkb
            clear F1 F2 F3 F4 hnb hkb hkey
            go_wp2_with fail
            refine (isName_any _ _ hds).mono ?_
            rintro e w1 ⟨rfl, rfl⟩
            rw [Hnb.out]
            go_wp2_with fail
            refine (skind_any _ _).mono ?_
            rintro e w1 ⟨rfl, he1⟩
            rw [Hkb.out]
            have hc1 := he1.cells
            go_wp2
            go_ret
            exact ⟨by rw [He.out]; rfl, (hE.trans hX).trans he1⟩
          | true =>
            have key : (nl = true ∧ (j : Int) < keys) ∨ (nl = true ∧ ¬ (j : Int) < keys) ∨ nl = false := by
              cases nl
              · exact .inr (.inr rfl)
              · by_cases q : (j : Int) < keys
                · exact .inl ⟨rfl, q⟩
                · exact .inr (.inl ⟨rfl, q⟩)
            have Hnb := Lib.hid hnb
            have Hkb := Lib.hid hkb
            have Hkey := Lib.hid hkey
            rcases key with ⟨rfl, q⟩ | key
            · have He := Lib.hid (F3 rfl q)
              clear F1 F2 F3 F4 hnb hkb hkey
              go_wp2_with fail
              refine (isName_any _ _ hds).mono ?_
              rintro e w1 ⟨rfl, rfl⟩
              rw [Hnb.out]
              go_wp2_with fail
              refine (skind_any _ _).mono ?_
              rintro e w1 ⟨rfl, he1⟩
              rw [Hkb.out]
              have hc1 := he1.cells
              go_wp2
              go_ret
              exact ⟨by rw [He.out]; rfl, (hE.trans hX).trans he1⟩
            · have Hcol := Lib.hid (F4 hnb hkb (by rcases key with ⟨_, q⟩ | q; exact .inr q; exact .inl q))
              clear F1 F2 F3 F4 hnb hkb hkey
              have key2 : (nl = true ∧ decide ((j : Int) < keys) = false) ∨ nl = false := by
                rcases key with ⟨q, q2⟩ | q
                · exact .inl ⟨q, decide_eq_false q2⟩
                · exact .inr q
              clear key
              rcases key2 with ⟨rfl, q⟩ | rfl
              all_goals
                go_wp2_with fail
                refine (isName_any _ _ hds).mono ?_
                rintro e w1 ⟨rfl, rfl⟩
                rw [Hnb.out]
                go_wp2_with fail
                refine (skind_any _ _).mono ?_
                rintro e w1 ⟨rfl, he1⟩
                rw [Hkb.out]
                have hc1 := he1.cells
                have hown1 := hown.kept (hX.trans he1).grownBy (by simp)
                have Hown1 := Lib.hid hown1
                clear hown1
                go_wp2_with (at_mapUpdate; refine wpList_mapUpdate_own _ rfl _ _ _ 90 rfl 9 93 lawS Try.underlying90 (unitElem (H := Unit)) (w.heap.size + 1) j _ rfl Hown1.out (by unfold maxLen; omega) _ _ _ rfl rfl Hkey.out _ [] unitElem_mk ?_; intro w2 hown2 hgrow2)
                rw [← HSn.out] at hown2
                have hE2 : Ext w w2 := grownBy_ext ((hE.trans hX).trans he1) hgrow2 (fun g hg => by injection hg with hg; omega)
                have hbk2 := (hgrow2.block w.heap.size (by have := (hX.trans he1).size; omega) (by intro q; injection q with q; omega)).trans (((hX.trans he1).block w.heap.size z0).trans Hbk.out)
                have Hbk2 := Lib.hid hbk2
                clear hbk2 hgrow2
                go_roundw
                case rel => exact ⟨j + 1, by omega, by go_num, hown2, hE2, Lib.hid (fun t d ht hd => by
                  by_cases q : t < j
                  · exact Hs.out t d q hd
                  · obtain rfl : t = j := by omega
                    rw [Hd.out] at hd
                    injection hd with hd
                    subst hd
                    exact Hcol.out), Hbk2⟩
                case measure => simp [intOf]; omega
      · obtain rfl : j = n := by omega
        have hsz := size_Sn (H := Unit) cs
        rw [Hl.out] at hsz
        obtain ⟨M, hM⟩ : ∃ M, M = Maps.size (Sn (H := Unit) cs j) := ⟨_, rfl⟩
        rw [← hM] at hsz
        have HM := Lib.hid hM
        clear hM
        by_cases hnd : (names cs).Nodup
        · have He := Lib.hid (HR.out.trans (schE_ok Hh.out (fun t d hd => Hs.out t d (by have := (List.getElem?_eq_some_iff.1 hd).1; have := Hl.out; omega) hd) hnd))
          have hMj : M = j := hsz.2.2 hnd
          clear hsz hnd
          have HMj := Lib.hid hMj
          clear hMj
          go_wp2_with (at_len; refine wpList_len_own _ rfl _ 90 rfl 9 93 Try.underlying90 _ (w.heap.size + 1) j _ rfl hown ?_; rw [← HM.out, HMj.out])
          go_ret
          exact ⟨by rw [He.out]; rfl, hE⟩
        · have He := Lib.hid (HR.out.trans (schE_dup hnd))
          have hMj : M < j := by
            have h1 := hsz.1
            have h2 : M ≠ j := fun q => hnd (hsz.2.1 q)
            omega
          clear hsz hnd
          go_wp2_with (at_len; refine wpList_len_own _ rfl _ 90 rfl 9 93 Try.underlying90 _ (w.heap.size + 1) j _ rfl hown ?_; rw [← HM.out])
          go_ret
          exact ⟨by rw [He.out]; rfl, hE⟩
  · have He := Lib.hid (HR.out.trans (schE_shape h))
    have hE0 : Ext w (w.alloc (.cells #[.slice A n c, .int .i64 keys] 24)) := (Ext.refl w).alloc _
    have key : (decide ((n : Int) < 1) = true) ∨ (decide ((n : Int) < 1) = false ∧ decide ((12 : Int) < (n : Int)) = true) ∨ (decide ((n : Int) < 1) = false ∧ decide ((12 : Int) < (n : Int)) = false ∧ decide (keys < 1) = true) ∨ (decide ((n : Int) < 1) = false ∧ decide ((12 : Int) < (n : Int)) = false ∧ decide (keys < 1) = false ∧ min (3 : Int) (n : Int) < keys) := by
      simp only [decide_eq_true_eq, decide_eq_false_iff_not]
      omega
    clear h hl
    rcases key with q1 | ⟨q1, q2⟩ | ⟨q1, q2, q3⟩ | ⟨q1, q2, q3, q4⟩
    all_goals
      go_enter Try.func12, Try.ntmps12
      go_wp2
      go_ret
      exact ⟨by rw [He.out]; rfl, hE0⟩

end Go.Proofs.Ytpjichclpnebjaa
