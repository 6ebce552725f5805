/-
  Layer 4: Scan over more bytes; what the law of frames one behind the other needs.
-/
import Derived.Test.YtegplcllimoakaaW11h
import Derived.Test.YtegplcllimoakaaJ1
namespace Go.Proofs.Ytegplcllimoakaa
open Go.RowKit

theorem OwnF.rdF' {w : World} {base c : Nat} {A : Option Addr} {fs : List Fr} (h : OwnF w base A c fs) (k : ∀ f ∈ fs, Rd .u8 w f.A f.body.length f.body) : RdF w A fs.length fs := by
  refine ⟨rfl, fun hn => ?_⟩
  rcases h.2 with ⟨_, h0⟩ | ⟨g, cap, cur, hv, hg, hh, hnc, hcm, hcs, htake⟩
  · omega
  · injection hv with hA hl hc
    subst hA
    have hlt : g < w.heap.size := (Array.getElem?_eq_some_iff.1 hh).1
    refine ⟨g, 0, rfl, hlt, fun j f hj => ?_⟩
    obtain ⟨h1, h2⟩ := fcells_at hj
    have hjl : j < fs.length := (List.getElem?_eq_some_iff.1 hj).1
    have hat : ∀ i, i < fs.length * 2 → cur[i]? = (fcells fs)[i]? := fun i hi => by
      rw [← htake, List.getElem?_take, if_pos hi]
      simp
    refine ⟨?_, ?_, k f (List.mem_of_getElem? hj)⟩
    · rw [cell_of_row w g _ cur _ (0, 0) hh, Nat.zero_add, hat _ (by omega)]; exact h1
    · rw [cell_of_row w g _ cur _ (0, 0) hh, Nat.zero_add, hat _ (by omega)]; exact h2

theorem RdF.take {w : World} {A : Option Addr} {n m : Nat} {fs : List Fr} (h : RdF w A n fs) (hm : m ≤ n) : RdF w A m (fs.take m) :=
  ⟨by rw [List.length_take, h.1]; omega, fun h0 => by
    obtain ⟨b, o, e, hlt, hc⟩ := h.2 (by omega)
    refine ⟨b, o, e, hlt, fun j f hj => hc j f ?_⟩
    rw [List.getElem?_take] at hj
    split at hj
    · exact hj
    · cases hj⟩

/-- Rows of numbers of unlike kinds lie in unlike blocks, and rows of frames elsewhere than those. -/
theorem own_ne2 {w : World} {base base' c c' : Nat} {A A' : Option Addr} {k k' : IntKind} {e e' : TypeId} {xs ys : List Nat} (h : Own k e w base A c ys) (k : Own k' e' w base' A' c' xs) (hne : e ≠ e') : ∀ a, A' = some a → some a.block ≠ (Value.slice A ys.length c).ownBlock := by
  rintro a rfl q
  rcases h.2 with ⟨hv, _⟩ | ⟨g, cap, cur, hv, hg, hh, _⟩
  · rw [hv] at q; simp [Value.ownBlock] at q
  · rw [hv] at q
    simp [Value.ownBlock] at q
    rcases k.2 with ⟨hv', _⟩ | ⟨g', cap', cur', hv', _, hh', _⟩
    · cases hv'
    · injection hv' with hA
      injection hA with hA
      subst hA
      simp at q
      subst q
      rw [hh] at hh'
      injection hh' with hh'
      injection hh' with h1 h2 h3
      exact absurd h2 hne

/-- The places where the frames end, from the first's beginning on. -/
def EndsL (gl : List (Nat × List Nat)) (ys : List Nat) : Prop := ys.length = gl.length + 1 ∧ ∀ i, i ≤ gl.length → ys.getD i 0 = (allB (gl.take i)).length

theorem EndsL.nil : EndsL [] [0] := ⟨rfl, fun i hi => by
  obtain rfl : i = 0 := (by simpa using hi)
  rfl⟩
theorem EndsL.snoc {gl : List (Nat × List Nat)} {ys : List Nat} (h : EndsL gl ys) (p : Nat × List Nat) : EndsL (gl ++ [p]) (ys ++ [(allB (gl ++ [p])).length]) := by
  refine ⟨by simp [h.1], fun i hi => ?_⟩
  simp at hi
  by_cases hi2 : i ≤ gl.length
  · rw [List.getD_eq_getElem?_getD, List.getElem?_append_left (by have := h.1; omega), ← List.getD_eq_getElem?_getD, h.2 i hi2, List.take_append_of_le_length hi2]
  · obtain rfl : i = gl.length + 1 := by omega
    rw [List.getD_eq_getElem?_getD, List.getElem?_append_right (by have := h.1; omega), h.1, Nat.sub_self, List.take_of_length_le (by simp)]
    rfl

set_option maxHeartbeats 1600000 in
theorem fscan_big (A : Option Addr) (n c : Nat) (bs : List Nat) (w : World) (hx : Rd .u8 w A n bs) (hu : U8 bs) (hA : (∃ b o, A = some ⟨b, o, none⟩) ∨ (A = none ∧ c = 0)) (hn : n ≤ 13631488) (hc : n ≤ c) (hcm : c ≤ 9223372036854775807) :
    Calls Try.prog 35 #[.slice A n c] w (ScanPost bs w) := by
  have Hl := Lib.hid hx.len
  go_enter Try.func35, Try.ntmps35
  go_wp2
  go_loopw [5, 6] (fun v i wr => ∃ (a f c' : Nat) (A' : Option Addr) (fs : List Fr), v = .slice A' fs.length c' ∧ i = .int .i64 (a : Nat) ∧ OwnF wr w.heap.size A' c' fs ∧ Bods wr w.heap.size fs ∧ Below w.heap.size w wr ∧ a ≤ n ∧ n < f + a ∧ fs.length * 13 ≤ a ∧ fscan bs = (fs.map Fr.kv ++ (scn bs f a).1, (scn bs f a).2)) (fun _ i _ => n - (intOf i).toNat)
  case atStart => exact ⟨0, bs.length + 1, 0, none, [], rfl, rfl, OwnF.nil _ _, Bods.nil _ _, Ext.refl w, Nat.zero_le _, by have := Hl.out; omega, Nat.le_refl _, by simp [fscan]⟩
  case round =>
    obtain ⟨a, f, c', A', fs, rfl, rfl, hown, hbods, hb, han, hfu, hfl, hsc⟩ := hrel
    have hz := hb.size
    have Hsc := Lib.hid hsc
    clear hsc
    by_cases hlt : a < n
    · obtain ⟨f, rfl⟩ : ∃ g, f = g + 1 := ⟨f - 1, by omega⟩
      have hin := fget_in (bs := bs) (a := a) (by have := Hl.out; omega)
      have hok := scn_ok (bs := bs) (f := f) (a := a) (by have := Hl.out; omega)
      have her := scn_err (bs := bs) (f := f) (a := a) (by have := Hl.out; omega)
      have hnx := fgetN_next (bs := bs) (a := a)
      have Hin := Lib.hid hin
      have Hok := Lib.hid hok
      have Her := Lib.hid her
      have Hnx := Lib.hid hnx
      clear hin hok her hnx
      go_wp2_with fail
      refine (fget_any _ _ _ _ bs _ (hx.ext hb) hu hA (by omega) hc hcm).mono ?_
      rintro e w1 ⟨A1, c1, rfl, hown1, he1⟩
      rw [Hin.out] at hown1 ⊢
      obtain ⟨g, hg⟩ : ∃ g, fgetN bs a = g := ⟨_, rfl⟩
      rw [hg] at hown1 Hok Her Hnx ⊢
      obtain ⟨k, body, t, r⟩ := g
      simp only at hown1 Hok Her Hnx ⊢
      have hE1 : Below w.heap.size w w1 := Ext.trans hb he1
      have hown2 := hown.ext he1
      have hbods2 := hbods.ext he1
      have hlow : ∀ g ∈ fs, ∀ p, g.A = some p → p.block < wr.heap.size := fun g hg p hp => ((hbods.1 g hg).block p hp).2
      have hsz1 := he1.size
      clear hg
      by_cases hr : r = 0
      · subst hr
        obtain ⟨ht1, ht2⟩ := Hnx.out rfl
        have HL := Lib.hid ht2
        have hsc2 := Hsc.out
        rw [Hok.out rfl] at hsc2
        have Hsc2 := Lib.hid hsc2
        clear Hsc Hok Her Hnx ht2 hsc2
        have hX : Ext w1 ((w1.alloc (.cells #[.int .i64 (k : Int), .slice A1 body.length c1] 45)).alloc (.cells #[.int .i64 (k : Int), .slice A1 body.length c1] 45)) := ((Ext.refl w1).alloc _).alloc _
        have hown3 := hown2.ext hX
        go_wp2_with (at_builtin; refine wpList_pushF (w0 := w) ⟨k, A1, c1, body⟩ rfl _ _ rfl hown3 fs.length rfl rfl rfl (heap_alloc2_new w1 _ _) (by omega) (Ext.trans hE1 hX) (by simp; omega) ?_; intro A3 c3 w3 hown4 hgr hb3 hz3)
        have hbods3 : Bods w3 w.heap.size (fs ++ [⟨k, A1, c1, body⟩]) := Bods.grown (base' := w.heap.size) (Bods.snoc (hbods2.ext hX) (hown1.ext hX) hz hlow) hown3 hgr
        go_wp2_with fail
        go_roundw
        case rel => exact ⟨t, f, c3, A3, _, by simp, rfl, hown4, hbods3, hb3, by have := HL.out; have := Hl.out; omega, by omega, by simp; omega, by rw [Hsc2.out]; simp [Fr.kv]⟩
        case measure => simp [intOf]; omega
      · have hsc2 := Hsc.out
        rw [Her.out hr] at hsc2
        have Hsc2 := Lib.hid hsc2
        have hrb : (r != 0) = true := by simpa using hr
        clear Hsc Hok Her Hnx hsc2
        go_wp2_with fail
        go_ret3
        refine ⟨fs, A', c', ?_, by rw [Hsc2.out]; simp, (hown2.ext ((Ext.refl w1).alloc _)), (hbods2.ext ((Ext.refl w1).alloc _)), Ext.trans hE1 ((Ext.refl w1).alloc _)⟩
        rw [Hsc2.out]
        rfl
    · have hsc2 := Hsc.out
      rw [scn_end (by have := Hl.out; omega)] at hsc2
      have Hsc2 := Lib.hid hsc2
      clear Hsc hsc2
      go_wp2_with fail
      go_ret3
      refine ⟨fs, A', c', ?_, by rw [Hsc2.out]; simp, hown, hbods, hb⟩
      rw [Hsc2.out]
      rfl

end Go.Proofs.Ytegplcllimoakaa
