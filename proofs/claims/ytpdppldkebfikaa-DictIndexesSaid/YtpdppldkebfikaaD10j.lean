/-
  Layer 10: is each number an entry's, and each entry there?
-/
import Derived.Test.YtpdppldkebfikaaDM1
import Derived.Test.YtpdppldkebfikaaM10b
import Derived.Maps.OwnSet
import Derived.OpenShut
namespace Go.Proofs.Ytpdppldkebfikaa
open Go.RowKit Go.Maps Go.WideMaps

theorem lawU : Keyed Try.prog 71 := int_keyed Try.underlying71
theorem run_mkU (w : World) : (Instr.makeMap 107 none).run Try.prog w = .ok (.map (some w.heap.size)) (w.alloc (.map #[] 0)) := by
  simp [Instr.makeMap, Result.andThen]
theorem u64_min : IntKind.u64.min = 0 := by decide
theorem u64_max : IntKind.u64.max = 18446744073709551615 := by decide
theorem keyU_of (u : Nat) (h : u < 18446744073709551616) : keyOf Try.prog 71 (.int .u64 (u : Int)) = some (.int .u64 (u : Int)) := by
  refine keyOf_int_mk Try.underlying71 ?_
  have h1 : IntKind.u64.min ≤ (u : Int) := by rw [u64_min]; omega
  have h2 : (u : Int) ≤ IntKind.u64.max := by rw [u64_max]; omega
  simp [Lit.wf, h1]
  omega

theorem elI_wrap {H : Type} (z : Int) : elI H (.int .i64 (wrap64 z)) = some (.lit (.int .i64 (wrap64 z)), []) :=
  plainElem_int Try.underlying3 (wrap64_wf z)

/-- How many numbers below n are among these. -/
def kc (n : Nat) (us : List Nat) : Nat := (List.range n).countP fun i => decide (i ∈ us)
theorem kc_nil (n : Nat) : kc n [] = 0 := by simp [kc]
theorem kc_succ (n : Nat) (us : List Nat) : kc (n + 1) us = kc n us + if n ∈ us then 1 else 0 := by
  unfold kc
  rw [List.range_succ, List.countP_append, List.countP_singleton]
  by_cases h : n ∈ us <;> simp [h]
theorem kc_same {us : List Nat} {u : Nat} (h : u ∈ us) : ∀ n, kc n (us ++ [u]) = kc n us
  | 0 => rfl
  | n + 1 => by
    rw [kc_succ, kc_succ, kc_same h n]
    congr 1
    by_cases q : n ∈ us
    · simp [q]
    · have : ¬ n = u := fun e => q (by rw [e]; exact h)
      simp [q, this]
theorem kc_above {us : List Nat} {u : Nat} : ∀ n, n ≤ u → kc n (us ++ [u]) = kc n us
  | 0, _ => rfl
  | n + 1, h => by
    rw [kc_succ, kc_succ, kc_above n (by omega)]
    congr 1
    have : ¬ n = u := by omega
    simp [this]
theorem kc_new {us : List Nat} {u : Nat} (h : ¬ u ∈ us) : ∀ n, u < n → kc n (us ++ [u]) = kc n us + 1
  | 0, hu => by omega
  | n + 1, hu => by
    rw [kc_succ, kc_succ]
    by_cases e : u = n
    · subst e
      rw [kc_above u (Nat.le_refl _)]
      simp [h]
    · rw [kc_new h n (by omega)]
      have : ¬ n = u := fun q => e q.symm
      have e2 : (n ∈ us ++ [u]) = (n ∈ us) := by simp [this]
      simp only [e2]
      omega
theorem kc_le : ∀ (n : Nat) (us : List Nat), kc n us ≤ n
  | 0, _ => Nat.le_refl _
  | n + 1, us => by
    have := kc_le n us
    rw [kc_succ]
    split <;> omega
theorem kc_all {us : List Nat} : ∀ (n : Nat), kc n us = n ↔ ∀ i, i < n → i ∈ us
  | 0 => by simp [kc]
  | n + 1 => by
    have h1 := kc_le n us
    rw [kc_succ]
    by_cases h : n ∈ us
    · rw [if_pos h]
      constructor
      · intro e i hi
        by_cases q : i = n
        · subst q; exact h
        · exact (kc_all n).1 (by omega) i (by omega)
      · intro e
        rw [(kc_all n).2 (fun i hi => e i (by omega))]
    · rw [if_neg h]
      constructor
      · intro e; omega
      · intro e; exact absurd (e n (by omega)) h

/-- The map of the numbers seen. -/
def SeenD (D : DataW Unit) (us : List Nat) (n : Nat) : Prop := Tidy D ∧ (∀ x : Nat, has D (.int .u64 (x : Int)) = true ↔ x ∈ us) ∧ Maps.size D = kc n us
theorem SeenD.step {D : DataW Unit} {us : List Nat} {n u : Nat} (h : SeenD D us n) (hu : u < n) (d : DataW Unit) : SeenD (D.put (.int .u64 (u : Int)) d) (us ++ [u]) n := by
  obtain ⟨h1, h2, h3⟩ := h
  refine ⟨h1.put (show WideAt.IsKeyLit (.int .u64 (u : Int)) from trivial) d, fun x => ?_, ?_⟩
  · by_cases e : x = u
    · subst e
      rw [has_put_same h1.isMap (show WideAt.IsKeyLit (.int .u64 (x : Int)) from trivial)]
      simp
    · rw [has_put_other (fun q => e (by injection q with _ q; omega)), h2]
      simp [e]
  · rw [size_put h1]
    by_cases q : u ∈ us
    · rw [(h2 u).2 q, if_pos rfl, kc_same q, h3]
    · have : has D (.int .u64 (u : Int)) = false := by
        cases hh : has D (.int .u64 (u : Int)) with
        | false => rfl
        | true => exact absurd ((h2 u).1 hh) q
      rw [this, kc_new q n hu, h3]
      rfl

set_option maxHeartbeats 1600000 in
set_option maxRecDepth 100000 in
theorem allMeant_any (A : Option Addr) (m c n : Nat) (us : List Nat) (w : World) (hx : Rd .u64 w A m us) (hm : m ≤ 1000000) (hn : n ≤ 1000000) (hu : U64 us) :
    Calls Try.prog 56 #[.slice A m c, .int .i64 (n : Int)] w fun e w' => e = .returned (.bool (meant us n)) ∧ Ext w w' := by
  have Hl := Lib.hid hx.len
  have Hu := Lib.hid hu
  have hmk := run_mkU
  clear hu
  go_enter Try.func56, Try.ntmps56
  go_wp2_with fail
  clear hmk
  obtain ⟨g, hg⟩ : ∃ g, g = w.heap.size := ⟨_, rfl⟩
  have hown0 := World.ownsMap_made (H := Unit) w Try.prog 71 (elI Unit)
  rw [← hg] at hown0 ⊢
  have Hg := Lib.hid hg
  have Hown0 := Lib.hid hown0
  clear hown0 hg
  go_loopw [7, 11] (fun _ i wr => ∃ (j : Nat) (D : DataW Unit), j ≤ m ∧ i = .int .i64 j ∧ Hid (wr.ownsMap Try.prog 71 (elI Unit) g j D) ∧ Hid (SeenD D (us.take j) n) ∧ Hid (Ext w wr) ∧ Hid (∀ u ∈ us.take j, u < n)) (fun _ i _ => m - (intOf i).toNat)
  case atStart => exact ⟨0, _, Nat.zero_le _, rfl, Hown0.out, ⟨tidy_empty, fun x => by simp [has], by rw [List.take_zero, kc_nil]; rfl⟩, (Ext.refl w).alloc _, fun u hu => by rw [List.take_zero] at hu; cases hu⟩
  case round =>
    clear Hown0
    obtain ⟨j, D, hj, rfl, HM, HS, HE, HA⟩ := hrel
    by_cases hlt : j < m
    · obtain ⟨b, o, rfl, hbb, hc⟩ := (hx.ext HE.out).at_ hlt
      have hvs : us[j]? = some (us.getD j 0) := by simp [List.getD, show j < us.length by rw [Hl.out]; exact hlt]
      have hv := Hu.out _ (List.mem_of_getElem? hvs)
      have htk : us.take (j + 1) = us.take j ++ [us.getD j 0] := take_nextG us j hvs
      have hmem := List.mem_of_getElem? hvs
      obtain ⟨u, hue⟩ : ∃ u, u = us.getD j 0 := ⟨_, rfl⟩
      rw [← hue] at hc hv htk hmem
      have Hk := Lib.hid (keyU_of u hv)
      have Htk := Lib.hid htk
      have Hmem := Lib.hid hmem
      clear hvs htk hue hmem
      by_cases hge : n ≤ u
      · have HR := Lib.hid (show meant us n = false by
          cases q : meant us n with
          | false => rfl
          | true => have := (meant_iff.1 q).1 u Hmem.out; omega)
        go_wp2_with fail
        go_ret
        exact ⟨by rw [HR.out]; rfl, HE.out⟩
      · have HS2 := fun d => HS.out.step (u := u) (by omega) d
        have HS3 := Lib.hid HS2
        have HA2 := Lib.hid (show ∀ x ∈ us.take (j + 1), x < n by
          intro x hx2
          rw [Htk.out] at hx2
          rcases List.mem_append.1 hx2 with h | h
          · exact HA.out x h
          · simp at h; omega)
        clear HS2
        go_wp2_with (first
          | (at_lookup; refine wpList_lookup_own_int _ rfl _ _ 107 rfl 71 3 .i64 lawU Try.underlying107 Try.underlying3 (zero_int _) g _ _ rfl HM.out _ _ rfl Hk.out ?_; intro cc hat hwc; clear hat hwc)
          | (at_mapUpdate; refine wpList_mapUpdate_own _ rfl _ _ _ 107 rfl 71 3 lawU Try.underlying107 (elI Unit) g j _ rfl HM.out (by unfold maxLen; omega) _ _ _ rfl rfl Hk.out _ [] (elI_wrap _) ?_; intro w2 hown2 hg2)
          | fail)
        have HM2 := Lib.hid hown2
        have HE2 := Lib.hid (show Ext w w2 from grownBy_ext HE.out hg2 (fun g' hg' => by injection hg' with hg'; have := Hg.out; omega))
        clear hown2 hg2
        go_wp2_with fail
        go_roundw
        case rel => exact ⟨j + 1, _, by omega, by go_num, HM2.out, by rw [Htk.out]; exact HS3.out _, HE2.out, HA2.out⟩
        case measure => simp [intOf]; omega
    · obtain rfl : j = m := by omega
      have htk : us.take j = us := List.take_of_length_le (by rw [Hl.out]; exact Nat.le_refl _)
      have hsz := HS.out.2.2
      have hal := HA.out
      rw [htk] at hsz hal
      have hle := kc_le n us
      have hR : meant us n = decide (kc n us = n) := by
        by_cases h : kc n us = n
        · rw [decide_eq_true h]; exact meant_iff.2 ⟨hal, (kc_all n).1 h⟩
        · rw [decide_eq_false h]
          cases q : meant us n with
          | false => rfl
          | true => exact absurd ((kc_all n).2 (meant_iff.1 q).2) h
      obtain ⟨z, hz⟩ : ∃ z, z = kc n us := ⟨_, rfl⟩
      rw [← hz] at hsz hle hR
      have Hsz := Lib.hid hsz
      have HR := Lib.hid hR
      clear htk hsz hal hz hR
      go_wp2_with (first | (at_len; refine wpList_len_own _ rfl _ 107 rfl 71 3 Try.underlying107 _ g _ _ rfl HM.out ?_; rw [Hsz.out]) | fail)
      go_ret
      exact ⟨by rw [HR.out]; by_cases h : z = n <;> simp [h] <;> omega, HE.out⟩

end Go.Proofs.Ytpdppldkebfikaa
