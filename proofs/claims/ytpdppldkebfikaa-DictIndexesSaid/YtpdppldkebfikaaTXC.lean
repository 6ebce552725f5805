/-
  The document's copies of lists of texts, and two lists compared.
-/
import Derived.Test.YtpdppldkebfikaaTX
namespace Go.Proofs.Ytpdppldkebfikaa
open Go.RowKit

set_option maxHeartbeats 400000 in
theorem copyT_any (A : Option Addr) (n c : Nat) (ss : List Sl) (w : World) (hx : TxL w A n ss) (hn : n ≤ 5900000000000) :
    Calls Try.prog 12 #[.slice A n c] w fun e w' => ∃ A' c' ts, e = .returned (.slice A' n c') ∧ bodies ts = bodies ss ∧ OwnT w' w.heap.size A' c' ts ∧ Txts w' w.heap.size ts ∧ Ext w w' := by
  have Hl := Lib.hid hx.len
  go_enter Try.func12, Try.ntmps12
  go_wp2
  go_loopw [3, 4] (fun v i wr => ∃ (j : Nat) (A' : Option Addr) (c' : Nat) (ts : List Sl), j ≤ n ∧ i = .int .i64 j ∧ v = .slice A' j c' ∧ Hid (ts.length = j ∧ bodies ts = (bodies ss).take j ∧ OwnT wr w.heap.size A' c' ts ∧ Txts wr w.heap.size ts ∧ Ext w wr)) (fun _ i _ => n - (intOf i).toNat)
  case atStart => exact ⟨0, _, _, [], Nat.zero_le _, rfl, rfl, rfl, rfl, OwnG.made _ _ _ (Nat.le_refl _), Txts.nil .., (Ext.refl w).alloc _⟩
  case round =>
    obtain ⟨j, A', c', ts, hj, rfl, rfl, H⟩ := hrel
    by_cases hlt : j < n
    · obtain ⟨b, o, s, rfl, hf, hc, hs⟩ := (hx.ext H.out.2.2.2.2).at_ hlt
      have hbj := bodies_at hf
      obtain ⟨sA, sc, body⟩ := s
      obtain ⟨srd, _, _, _, slen⟩ := hs
      simp only at hc srd slen hbj
      have htk : (bodies ss).take (j + 1) = (bodies ss).take j ++ [body] := by
        obtain ⟨h1, h2⟩ := List.getElem?_eq_some_iff.1 hbj
        rw [List.take_succ_eq_append_getElem h1, h2]
      have Htk := Lib.hid htk
      obtain ⟨m, hm⟩ : ∃ m, m = body.length := ⟨_, rfl⟩
      rw [← hm] at hc srd slen
      have Hm := Lib.hid hm
      clear hf hbj htk hm
      go_wp2_with fail
      refine (copy_any _ _ _ _ _ srd slen).mono ?_
      rintro e w3 ⟨A3, c3, rfl, hown3, he3⟩
      go_wp2_with (at_builtin; refine wpList_pushT (w0 := w) ⟨A3, c3, body⟩ rfl _ _ rfl ((H.out.2.2.1.ext he3).ext ((Ext.refl _).alloc _)) j H.out.1 rfl rfl ((heap_alloc_new _ _).trans (by rw [Hm.out])) (by omega) (Ext.trans (H.out.2.2.2.2.trans he3) ((Ext.refl _).alloc _)) (by have := (H.out.2.2.2.2.trans he3).size; simp; omega) ?_; intro A4 c4 w4 hown4 hg4 hb4 hz4)
      rw [Hm.out, ← H.out.1] at hg4
      have HN := Lib.hid (show (ts ++ [(⟨A3, c3, body⟩ : Sl)]).length = j + 1 ∧ bodies (ts ++ [⟨A3, c3, body⟩]) = (bodies ss).take (j + 1) ∧ OwnT w4 w.heap.size A4 c4 (ts ++ [⟨A3, c3, body⟩]) ∧ Txts w4 w.heap.size (ts ++ [⟨A3, c3, body⟩]) ∧ Ext w w4 from by
        obtain ⟨e1, e2, e3, e4, e5⟩ := H.out
        refine ⟨by rw [List.length_append, e1]; rfl, by rw [Htk.out, ← e2]; unfold bodies; rw [List.map_append]; rfl, hown4, ?_, hb4⟩
        exact (((e4.ext he3).snoc (s := ⟨A3, c3, body⟩) hown3 e5.size (fun t ht p hp => e4.lt t ht p hp)).ext ((Ext.refl _).alloc _)).grown ((e3.ext he3).ext ((Ext.refl _).alloc _)) hg4)
      clear hg4 hown4
      go_wp2_with fail
      go_roundw
      case rel => exact ⟨j + 1, A4, c4, _, by omega, by go_num, rfl, HN.out⟩
      case measure => simp [intOf]; omega
    · obtain rfl : j = n := by omega
      have HN := Lib.hid (show bodies ts = bodies ss by rw [H.out.2.1, List.take_of_length_le (by rw [bodies_len, Hl.out]; exact Nat.le_refl _)])
      go_wp2
      go_ret
      exact ⟨_, _, ts, rfl, HN.out, H.out.2.2.1, H.out.2.2.2.1, H.out.2.2.2.2⟩

theorem pair_bodies {ss ts : List Sl} (hb : bodies ss = bodies ts) {j : Nat} {s t : Sl} (h1 : ss[j]? = some s) (h2 : ts[j]? = some t) : t.body = s.body := by
  have e1 := bodies_at h1
  rw [hb, bodies_at h2] at e1
  injection e1

theorem sameT_yes (A A' : Option Addr) (n c n' c' : Nat) (ss ts : List Sl) (w : World) (hx : RdL w A n ss) (hy : RdL w A' n' ts) (hb : bodies ss = bodies ts) (hn : n ≤ 140737488355328)
    (hs : ∀ s ∈ ss, Rd .u8 w s.A s.body.length s.body ∧ s.body.length ≤ 140737488355328) (ht : ∀ t ∈ ts, Rd .u8 w t.A t.body.length t.body) :
    Calls Try.prog 16 #[.slice A n c, .slice A' n' c'] w fun e w' => e = .returned (.bool true) ∧ ∃ q, w' = w.drewN q := by
  obtain rfl : n' = n := by rw [← hx.1, ← hy.1, ← bodies_len, ← bodies_len, hb]
  have Hb := Lib.hid hb
  clear hb
  go_enter Try.func16, Try.ntmps16
  go_wp2
  go_loopw [5] (fun i wr => ∃ j q : Nat, j ≤ n' ∧ i = .int .i64 j ∧ wr = w.drewN q) (fun i _ => n' - (intOf i).toNat)
  case atStart => exact ⟨0, 0, Nat.zero_le _, rfl, rfl⟩
  case round =>
    obtain ⟨j, q, hj, rfl, hw⟩ := hrel
    have hE : Ext w wr := by rw [hw]; exact (Ext.refl w).drewN q
    have Hw := Lib.hid hw
    clear hw
    by_cases hlt : j < n'
    · obtain ⟨b, o, s, rfl, hf, h1⟩ := (hx.ext hE).at_ hlt
      obtain ⟨b', o', t, rfl, hg, g1⟩ := (hy.ext hE).at_ hlt
      have hbb := pair_bodies Hb.out hf hg
      obtain ⟨h3, hbf⟩ := hs s (List.mem_of_getElem? hf)
      have g3 := ht t (List.mem_of_getElem? hg)
      replace h3 := h3.ext hE
      replace g3 := g3.ext hE
      rw [hbb] at g1 g3
      obtain ⟨sA, sc, body⟩ := s
      obtain ⟨tA, tc, tbody⟩ := t
      simp only at h1 h3 g1 g3 hbf
      clear hbb hf hg
      have hji : (j : Int) < (n' : Int) := by omega
      have hbf2 : body.length ≤ 281474976710656 := by omega
      go_wp2_with fail
      go_quiet ((go_at_call 25; exact Calls.quiet_of (same_yes (h3.drewN _) (g3.drewN _) hbf2)))
      go_wp2
      go_roundw
      case rel => exact ⟨j + 1, _, by omega, by go_num, by rw [Hw.out, World.drewN_drewN]⟩
      case measure => simp [intOf]; omega
    · obtain rfl : j = n' := by omega
      go_wp2
      go_ret
      exact ⟨by trivial, q, Hw.out⟩

end Go.Proofs.Ytpdppldkebfikaa
