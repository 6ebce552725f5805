/-
  Two lists of texts are the same.
-/
import Derived.Test.YtkmnhapeohlooaaTX
import Derived.Test.YtkmnhapeohlooaaA4
import Derived.Test.YtkmnhapeohlooaaSKB
namespace Go.Proofs.Ytkmnhapeohlooaa
open Go.RowKit
set_option maxRecDepth 100000

theorem pair_bodies {ss ts : List Sl} (hb : bodies ss = bodies ts) {j : Nat} {s t : Sl} (h1 : ss[j]? = some s) (h2 : ts[j]? = some t) : t.body = s.body := by
  have e1 := bodies_at h1
  rw [hb, bodies_at h2] at e1
  injection e1

theorem sameT_yes (A A' : Option Addr) (n c n' c' : Nat) (ss ts : List Sl) (w : World) (hx : RdL w A n ss) (hy : RdL w A' n' ts) (hb : bodies ss = bodies ts) (hn : n ≤ 140737488355328)
    (hs : ∀ s ∈ ss, Rd .u8 w s.A s.body.length s.body ∧ s.body.length ≤ 140737488355328) (ht : ∀ t ∈ ts, Rd .u8 w t.A t.body.length t.body) :
    Calls Try.prog 38 #[.slice A n c, .slice A' n' c'] w fun e w' => e = .returned (.bool true) ∧ ∃ q, w' = w.drewN q := by
  obtain rfl : n' = n := by rw [← hx.1, ← hy.1, ← bodies_len, ← bodies_len, hb]
  have Hb := Lib.hid hb
  clear hb
  go_enter Try.func38, Try.ntmps38
  go_wp2
  go_loopw [5] (fun i wr => ∃ j q : Nat, j ≤ n' ∧ i = .int .i64 j ∧ wr = w.drewN q) (fun i _ => n' - (intOf i).toNat)
  case atStart => exact ⟨0, 0, Nat.zero_le _, rfl, rfl⟩
  case round =>
    obtain ⟨j, q, hj, rfl, hw⟩ := hrel
    have hE : Ext w wr := by rw [hw]; exact (Ext.refl w).drewN q
    have Hw := Lib.hid hw
    clear hw
    by_cases hlt : j < n'
    · obtain ⟨b, o, s, rfl, hf, h1⟩ := (hx.ext hE).at_ hlt
      obtain ⟨b', o', t, rfl, hg, g1⟩ := (hy.ext hE).at_ hlt
      have hbb := pair_bodies Hb.out hf hg
      obtain ⟨h3, hbf⟩ := hs s (List.mem_of_getElem? hf)
      have g3 := ht t (List.mem_of_getElem? hg)
      replace h3 := h3.ext hE
      replace g3 := g3.ext hE
      rw [hbb] at g1 g3
      obtain ⟨sA, sc, body⟩ := s
      obtain ⟨tA, tc, tbody⟩ := t
      simp only at h1 h3 g1 g3 hbf
      clear hbb hf hg
      have hji : (j : Int) < (n' : Int) := by omega
      have hbf2 : body.length ≤ 281474976710656 := by omega
      go_wp2_with fail
      go_quiet ((go_at_call 43; exact Calls.quiet_of (same_yes (h3.drewN _) (g3.drewN _) hbf2)))
      go_wp2
      go_roundw
      case rel => exact ⟨j + 1, _, by omega, by go_num, by rw [Hw.out, World.drewN_drewN]⟩
      case measure => simp [intOf]; omega
    · obtain rfl : j = n' := by omega
      go_wp2
      go_ret
      exact ⟨by trivial, q, Hw.out⟩

end Go.Proofs.Ytkmnhapeohlooaa
