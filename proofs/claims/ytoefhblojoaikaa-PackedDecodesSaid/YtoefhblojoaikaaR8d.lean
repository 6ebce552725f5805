/-
  Layer 8: the document's Split.
-/
import Derived.Test.YtoefhblojoaikaaR8c
namespace Go.Proofs.Ytoefhblojoaikaa
open Go.RowKit

theorem rsp_run {vs : List Int} {j m : Nat} {v : Int} (hm : 1 ≤ m) (hjm : j + m ≤ vs.length) (h : ∀ t, t < m → vs.getD (j + t) 0 = v) (hb : lastV none (rsp (vs.take j)) ≠ some v) :
    rsp (vs.take (j + m)) = rsp (vs.take j) ++ [(v, (m : Int))] := by
  obtain ⟨q, rfl⟩ : ∃ q, m = q + 1 := ⟨m - 1, by omega⟩
  have e : vs.take (j + (q + 1)) = vs.take j ++ List.replicate (q + 1) v := by
    rw [List.take_add]
    congr 1
    apply List.ext_getElem
    · simp; omega
    · intro t h1 h2
      have ht : t < q + 1 := by simpa using h2
      have := h t ht
      rw [List.getElem_replicate, List.getElem_take, List.getElem_drop, ← this]
      simp [List.getD, show j + t < vs.length from by omega]
  rw [e, rsp, List.foldl_append]
  exact foldl_rep hb q

theorem Below.chain {B : Nat} {a b d : World} (h : Below B a b) (hB : B ≤ b.heap.size) (k : Ext b d) : Below B a d := Below.trans h (Below.mono k hB)

set_option maxHeartbeats 3200000 in
theorem refSplit_any (A : Option Addr) (n c : Nat) (vs : List Int) (w : World) (hx : RdG shZ w A n vs) (_hv : R64s vs) :
    Calls Try.prog 15 #[.slice A n c] w (SplitPost vs w) := by
  have hl := hx.len
  by_cases hbig : 4096 < n
  · have hs : split8 vs = ([], 4) := by unfold split8; rw [if_pos (by omega)]
    unfold SplitPost
    rw [hs]
    have Hl := Lib.hid hl
    clear hl
    go_enter Try.func15, Try.ntmps15
    go_wp2
    go_ret2
    exact ⟨none, 0, rfl, OwnG.nil _ _ _ _, Ext.refl w⟩
  · have hs : split8 vs = (rsp vs, 0) := by unfold split8; rw [if_neg (by omega)]
    unfold SplitPost
    rw [hs]
    have Hl := Lib.hid hl
    clear hl hs
    go_enter Try.func15, Try.ntmps15
    go_wp2
    go_loopw [4, 5] (fun v i wr => ∃ (j m : Nat) (A' : Option Addr) (c' : Nat), j ≤ n ∧ m ≤ j ∧ i = .int .i64 j ∧ v = .slice A' m c' ∧ m = (rsp (vs.take j)).length ∧ OwnG shR 33 wr w.heap.size A' c' (rsp (vs.take j)) ∧ Hid (j < n → lastV none (rsp (vs.take j)) ≠ some (vs.getD j 0)) ∧ Below w.heap.size w wr) (fun _ i _ => n - (intOf i).toNat)
    case atStart => exact ⟨0, 0, _, _, Nat.zero_le _, Nat.le_refl _, rfl, rfl, rfl, OwnG.made _ _ _ (Nat.le_refl _), Lib.hid (fun _ => by simp [rsp, lastV]), (Ext.refl w).alloc _⟩
    case round =>
      obtain ⟨j, m, A', c', hj, hmj, rfl, rfl, hm, hown, hlast, hb⟩ := hrel
      have hz := hb.size
      by_cases hlt : j < n
      · obtain ⟨b, o, hA, hbl, hc⟩ := (hx.ext hb).atZ hlt
        have HX := Lib.hid (hx.ext hb)
        obtain ⟨v, hve⟩ : ∃ v, v = vs.getD j 0 := ⟨_, rfl⟩
        have Hve := Lib.hid hve
        have Hm := Lib.hid hm
        have Hown := Lib.hid hown
        have HL := Lib.hid (hlast.out hlt)
        rw [← hve] at hc HL
        subst hA
        clear hve hm hown hlast
        go_wp2_with fail
        go_loopw [6] (fun k wr2 => ∃ (t q : Nat), 1 ≤ t ∧ j + t ≤ n ∧ k = .int .i64 t ∧ wr2 = wr.drewN q ∧ Hid (∀ u, u < t → vs.getD (j + u) 0 = v)) (fun k _ => n - (intOf k).toNat)
        case atStart => exact ⟨1, 0, Nat.le_refl _, by omega, rfl, rfl, Lib.hid (fun u hu => by have h0 : u = 0 := (by omega); subst h0; exact Hve.out.symm)⟩
        case round =>
          obtain ⟨t, q, ht1, htn, rfl, rfl, hs⟩ := hrel
          by_cases hend : j + t < n
          · have h1 : ((j : Int) + (t : Int)) < (n : Int) := by omega
            obtain ⟨b2, o2, hA2, hbl2, hc2⟩ := HX.out.atZ hend
            injection hA2 with hA2
            injection hA2 with hb2 ho2
            subst hb2
            subst ho2
            obtain ⟨x, hxe⟩ : ∃ x, x = vs.getD (j + t) 0 := ⟨_, rfl⟩
            have Hxe := Lib.hid hxe
            rw [← hxe] at hc2
            clear hxe
            have hc3 : (wr.drewN q).cell? ⟨b, o + (j + t), none⟩ = some (.int .i64 x) := hc2
            have hc4 : (wr.drewN q).cell? ⟨b, o + j, none⟩ = some (.int .i64 v) := hc
            by_cases hxv : x = v
            · have hne : (x == v) = true := by simpa using hxv
              have HN := Lib.hid (show ∀ u, u < t + 1 → vs.getD (j + u) 0 = v from fun u hu => by
                by_cases h : u < t
                · exact hs.out u h
                · obtain rfl : u = t := by omega
                  rw [← Hxe.out]; exact hxv)
              clear hs hxv
              go_wp2_with fail
              go_quiet (fail)
              go_wp2_with fail
              go_roundw
              case rel => exact ⟨t + 1, _, by omega, by omega, by go_num, rfl, HN⟩
              case measure => simp [intOf]; omega
            · have HR := Lib.hid (rsp_run (vs := vs) (j := j) (m := t) (v := v) ht1 (by have := Hl.out; omega) hs.out HL.out)
              have hw1 : (wr.drewN q).heap.size = wr.heap.size := rfl
              have HF := Lib.hid (show lastV none (rsp (vs.take (j + t))) = some v by rw [HR.out, lastV_snoc])
              have hne : (x == v) = false := by simpa using hxv
              have HST : Hid (j + t < n → lastV none (rsp (vs.take (j + t))) ≠ some (vs.getD (j + t) 0)) := Lib.hid (fun _ => by rw [HF.out, ← Hxe.out]; intro e; injection e with e; exact hxv e.symm)
              have hc4 : (wr.drewN q).cell? ⟨b, o + j, none⟩ = some (.int .i64 v) := hc
              clear hs
              go_wp2_with fail
              go_quiet (fail)
              go_wp2_with (at_builtin; refine wpList_pushG (w0 := w) (base := w.heap.size) shR (v, (t : Int)) 33 rfl _ _ 25 rfl _ 16 Try.underlying25 Try.infoRun rfl (by decide) (Hown.out.ext ((Ext.of_drewN wr _).alloc _)) m Hm.out.symm rfl rfl (heap_alloc_new _ _) (by omega) (by omega) (Below.chain hb hz ((Ext.of_drewN wr _).alloc _)) (by simp; omega) ?_; intro A1 c1 w1 hown1 _ hb1 hz1; rw [← HR.out] at hown1; have Hown1 := Lib.hid hown1; clear hown1)
              go_roundw
              case rel => exact ⟨j + t, m + 1, A1, c1, by omega, by omega, by go_num, rfl, by rw [HR.out, List.length_append, ← Hm.out]; rfl, Hown1.out, HST, hb1⟩
              case measure => simp [intOf]; omega
          · have HR := Lib.hid (rsp_run (vs := vs) (j := j) (m := t) (v := v) ht1 (by have := Hl.out; omega) hs.out HL.out)
            have hw1 : (wr.drewN q).heap.size = wr.heap.size := rfl
            have HF := Lib.hid (show lastV none (rsp (vs.take (j + t))) = some v by rw [HR.out, lastV_snoc])
            have hge : decide ((j : Int) + (t : Int) < (n : Int)) = false := decide_eq_false (by omega)
            have HST : Hid (j + t < n → lastV none (rsp (vs.take (j + t))) ≠ some (vs.getD (j + t) 0)) := Lib.hid (fun h => absurd h hend)
            have hc4 : (wr.drewN q).cell? ⟨b, o + j, none⟩ = some (.int .i64 v) := hc
            clear hs
            go_wp2_with fail
            go_quiet (fail)
            go_wp2_with (at_builtin; refine wpList_pushG (w0 := w) (base := w.heap.size) shR (v, (t : Int)) 33 rfl _ _ 25 rfl _ 16 Try.underlying25 Try.infoRun rfl (by decide) (Hown.out.ext ((Ext.of_drewN wr _).alloc _)) m Hm.out.symm rfl rfl (heap_alloc_new _ _) (by omega) (by omega) (Below.chain hb hz ((Ext.of_drewN wr _).alloc _)) (by simp; omega) ?_; intro A1 c1 w1 hown1 _ hb1 hz1; rw [← HR.out] at hown1; have Hown1 := Lib.hid hown1; clear hown1)
            go_roundw
            case rel => exact ⟨j + t, m + 1, A1, c1, by omega, by omega, by go_num, rfl, by rw [HR.out, List.length_append, ← Hm.out]; rfl, Hown1.out, HST, hb1⟩
            case measure => simp [intOf]; omega
      · obtain rfl : j = n := by omega
        rw [List.take_of_length_le (by have := Hl.out; omega)] at hm hown
        subst hm
        go_wp2_with fail
        go_ret2
        exact ⟨A', c', rfl, hown, hb⟩

end Go.Proofs.Ytoefhblojoaikaa
