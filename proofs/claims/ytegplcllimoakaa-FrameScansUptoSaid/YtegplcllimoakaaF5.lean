/-
  The document's answers of layer 4, by definition: two lists of frames alike.
-/
import Derived.Test.YtegplcllimoakaaF4
namespace Go.Proofs.Ytegplcllimoakaa
open Go.RowKit

/-- The slice of frames (A, n) reads, in w, as fs. -/
def RdF (w : World) (A : Option Addr) (n : Nat) (fs : List Fr) : Prop :=
  fs.length = n ∧ (0 < n → ∃ b o, A = some ⟨b, o, none⟩ ∧ b < w.heap.size ∧ ∀ j f, fs[j]? = some f →
    w.cell? ⟨b, o + j * 2, none⟩ = some (.int .i64 (f.k : Int)) ∧ w.cell? ⟨b, o + j * 2 + 1, none⟩ = some (.slice f.A f.body.length f.c) ∧ Rd .u8 w f.A f.body.length f.body)

theorem RdF.ext {w w' : World} {A : Option Addr} {n : Nat} {fs : List Fr} (h : RdF w A n fs) (hb : Ext w w') : RdF w' A n fs :=
  ⟨h.1, fun hn => by
    obtain ⟨b, o, e, hlt, hc⟩ := h.2 hn
    refine ⟨b, o, e, Nat.lt_of_lt_of_le hlt hb.size, fun j f hj => ?_⟩
    obtain ⟨h1, h2, h3⟩ := hc j f hj
    exact ⟨(Below.cell hb (p := ⟨b, o + j * 2, none⟩) hlt).trans h1, (Below.cell hb (p := ⟨b, o + j * 2 + 1, none⟩) hlt).trans h2, h3.ext hb⟩⟩

theorem fcells_at {fs : List Fr} {j : Nat} {f : Fr} (h : fs[j]? = some f) : (fcells fs)[j * 2]? = some (.int .i64 (f.k : Int)) ∧ (fcells fs)[j * 2 + 1]? = some (.slice f.A f.body.length f.c) := by
  induction fs generalizing j with
  | nil => simp at h
  | cons g r ih =>
    have hc : fcells (g :: r) = .int .i64 (g.k : Int) :: .slice g.A g.body.length g.c :: fcells r := by simp [fcells, Fr.cells]
    rw [hc]
    cases j with
    | zero => simp at h; subst h; exact ⟨rfl, rfl⟩
    | succ j =>
      have hh := ih (j := j) (by simpa using h)
      rw [show (j + 1) * 2 = j * 2 + 1 + 1 from by omega]
      simpa using hh

theorem OwnF.rdF {w : World} {base base' c : Nat} {A : Option Addr} {fs : List Fr} (h : OwnF w base A c fs) (k : Bods w base' fs) : RdF w A fs.length fs := by
  refine ⟨rfl, fun hn => ?_⟩
  rcases h.2 with ⟨_, h0⟩ | ⟨g, cap, cur, hv, hg, hh, hnc, hcm, hcs, htake⟩
  · omega
  · injection hv with hA hl hc
    subst hA
    have hlt : g < w.heap.size := (Array.getElem?_eq_some_iff.1 hh).1
    refine ⟨g, 0, rfl, hlt, fun j f hj => ?_⟩
    obtain ⟨h1, h2⟩ := fcells_at hj
    have hjl : j < fs.length := (List.getElem?_eq_some_iff.1 hj).1
    have hat : ∀ i, i < fs.length * 2 → cur[i]? = (fcells fs)[i]? := fun i hi => by
      rw [← htake, List.getElem?_take, if_pos hi]
      simp
    refine ⟨?_, ?_, (k.1 f (List.mem_of_getElem? hj)).rd⟩
    · rw [cell_of_row w g _ cur _ (0, 0) hh, Nat.zero_add, hat _ (by omega)]; exact h1
    · rw [cell_of_row w g _ cur _ (0, 0) hh, Nat.zero_add, hat _ (by omega)]; exact h2

theorem RdF.at_ {w : World} {A : Option Addr} {n : Nat} {fs : List Fr} (h : RdF w A n fs) {j : Nat} (hj : j < n) :
    ∃ b o f, A = some ⟨b, o, none⟩ ∧ b < w.heap.size ∧ fs[j]? = some f ∧ w.cell? ⟨b, o + j * 2, none⟩ = some (.int .i64 (f.k : Int)) ∧ w.cell? ⟨b, o + j * 2 + 1, none⟩ = some (.slice f.A f.body.length f.c) ∧ Rd .u8 w f.A f.body.length f.body := by
  obtain ⟨b, o, e, hlt, hc⟩ := h.2 (by omega)
  have hjl : j < fs.length := by rw [h.1]; exact hj
  have hf : fs[j]? = some fs[j] := List.getElem?_eq_getElem hjl
  obtain ⟨h1, h2, h3⟩ := hc j _ hf
  exact ⟨b, o, _, e, hlt, hf, h1, h2, h3⟩

set_option maxHeartbeats 800000 in
theorem alike_yes (A A' : Option Addr) (n c c' : Nat) (fs gs : List Fr) (w : World) (hx : RdF w A n fs) (hy : RdF w A' n gs) (hk : fs.map Fr.kv = gs.map Fr.kv) (hn : n ≤ 1048576) (hb : ∀ f ∈ fs, f.body.length ≤ 281474976710656) :
    Calls Try.prog 37 #[.slice A n c, .slice A' n c'] w fun e w' => e = .returned (.bool true) ∧ ∃ q, w' = w.drewN q := by
  have Hk := Lib.hid hk
  clear hk
  go_enter Try.func37, Try.ntmps37
  go_wp2
  go_loopw [5] (fun i wr => ∃ j q : Nat, j ≤ n ∧ i = .int .i64 j ∧ wr = w.drewN q) (fun i _ => n - (intOf i).toNat)
  case atStart => exact ⟨0, 0, Nat.zero_le _, rfl, rfl⟩
  case round =>
    obtain ⟨j, q, hj, rfl, hw⟩ := hrel
    have hE : Ext w wr := by rw [hw]; exact (Ext.refl w).drewN q
    have Hw := Lib.hid hw
    clear hw
    by_cases hlt : j < n
    · obtain ⟨b, o, f, rfl, hbl, hf, h1, h2, h3⟩ := (hx.ext hE).at_ hlt
      obtain ⟨b', o', g, rfl, hbl', hg, g1, g2, g3⟩ := (hy.ext hE).at_ hlt
      have hfg : Fr.kv f = Fr.kv g := by
        have e1 := congrArg (fun l : List (Nat × List Nat) => l[j]?) Hk.out
        simp only [List.getElem?_map, hf, hg, Option.map_some] at e1
        injection e1
      have hkk : f.k = g.k := congrArg Prod.fst hfg
      have hbb : f.body = g.body := congrArg Prod.snd hfg
      have hbf := hb f (List.mem_of_getElem? hf)
      rw [← hkk] at g1
      rw [← hbb] at g2 g3
      obtain ⟨k, fA, fc, body⟩ := f
      obtain ⟨gk, gA, gc, gbody⟩ := g
      simp only at h1 h2 h3 g1 g2 g3 hbf
      clear hfg hkk hbb hf hg
      have hji : (j : Int) < (n : Int) := by omega
      go_wp2_with fail
      go_quiet ((go_at_call 28; exact Calls.quiet_of (same_yes (h3.drewN _) (g3.drewN _) hbf)))
      go_wp2
      go_roundw
      case rel => exact ⟨j + 1, _, by omega, by go_num, by rw [Hw.out, World.drewN_drewN]⟩
      case measure => simp [intOf]; omega
    · obtain rfl : j = n := by omega
      go_wp2
      go_ret
      exact ⟨rfl, q, Hw.out⟩

end Go.Proofs.Ytegplcllimoakaa
