/-
  Layer 4: what the law of frames read needs of lists of frames.
-/
import Derived.Test.YtegplcllimoakaaW9
import Derived.Test.YtegplcllimoakaaF8
namespace Go.Proofs.Ytegplcllimoakaa
open Go.RowKit

theorem fget_len {bs : List Nat} (hu : U8 bs) (at_ : Int) : (fget bs at_).2.1.length ≤ 65536 := by
  by_cases h : (fget bs at_).2.2.2 = 0
  · obtain ⟨a, k, body, _, hg, _, _, hb, _⟩ := fget_ok0 hu h
    rw [hg]
    exact hb
  · rw [(fget_err0 h).2.1]
    exact Nat.zero_le _

theorem scn_facts {bs : List Nat} (hu : U8 bs) : ∀ f a : Nat, a ≤ bs.length → (scn bs f a).1.length + a ≤ bs.length ∧ (scn bs f a).2.1 ≤ bs.length ∧ ∀ p ∈ (scn bs f a).1, p.2.length ≤ 65536 ∧ U8 p.2 := by
  intro f
  induction f with
  | zero => intro a ha; exact ⟨by simpa [scn] using ha, ha, fun p hp => by cases hp⟩
  | succ f ih =>
    intro a ha
    by_cases h : a < bs.length
    · by_cases h0 : (fgetN bs a).2.2.2 = 0
      · obtain ⟨n1, n2⟩ := fgetN_next h0
        obtain ⟨h1, h2, h3, h4, h5, h6, h7⟩ := fgetN_ok h0
        obtain ⟨i1, i2, i3⟩ := ih _ n2
        rw [scn_ok h h0]
        refine ⟨by rw [List.length_cons]; omega, i2, fun p hp => ?_⟩
        rcases List.mem_cons.1 hp with rfl | hp
        · rw [h7]
          exact ⟨by show (cut bs (a + 9) _).length ≤ 65536; rw [cut_len (by omega)]; exact h4, cut_u8 hu _ _⟩
        · exact i3 p hp
      · rw [scn_err h h0]
        exact ⟨by simpa using ha, ha, fun p hp => by cases hp⟩
    · rw [scn_end (by omega)]
      exact ⟨by simpa using ha, ha, fun p hp => by cases hp⟩

theorem Own.zero {k : IntKind} {e : TypeId} {w : World} {base c : Nat} {A : Option Addr} {xs : List Nat} (h : Own k e w base A c xs) : Own k e w 0 A c xs :=
  ⟨h.1, h.2.imp id fun ⟨g, cap, cur, h1, _, h3⟩ => ⟨g, cap, cur, h1, Nat.zero_le _, h3⟩⟩

theorem OwnS.block {w : World} {base c : Nat} {A : Option Addr} {ss : List Sl} (h : OwnS w base A c ss) : ∀ a, A = some a → base ≤ a.block ∧ a.block < w.heap.size := by
  rintro a rfl
  exact h.lt a.block rfl

theorem OwnF.block {w : World} {base c : Nat} {A : Option Addr} {fs : List Fr} (h : OwnF w base A c fs) : ∀ a, A = some a → base ≤ a.block ∧ a.block < w.heap.size := by
  rintro a rfl
  exact h.lt a.block rfl

theorem Bods.unlike {w : World} {base : Nat} {fs : List Fr} (h : Bods w base fs) : Unlike (fs.map Fr.sl) := by
  have hp := List.pairwise_iff_getElem.1 h.2
  intro i j s t hi hj hne p q hp1 hq1
  rw [List.getElem?_map, Option.map_eq_some_iff] at hi hj
  obtain ⟨f, hf, rfl⟩ := hi
  obtain ⟨g, hg, rfl⟩ := hj
  obtain ⟨li, ei⟩ := List.getElem?_eq_some_iff.1 hf
  obtain ⟨lj, ej⟩ := List.getElem?_eq_some_iff.1 hg
  rcases Nat.lt_or_gt_of_ne hne with hl | hl
  · have := hp i j li lj hl p q (by rw [ei]; exact hp1) (by rw [ej]; exact hq1)
    omega
  · have := hp j i lj li hl q p (by rw [ej]; exact hq1) (by rw [ei]; exact hp1)
    omega

/-- The bodies lie between these two sizes of the memory. -/
def Within (ss : List Sl) (lo hi : Nat) : Prop := ∀ s ∈ ss, ∀ p, s.A = some p → lo ≤ p.block ∧ p.block < hi

theorem Bods.within {w : World} {base : Nat} {fs : List Fr} (h : Bods w base fs) : Within (fs.map Fr.sl) base w.heap.size := by
  intro s hs p hp
  obtain ⟨f, hf, rfl⟩ := List.mem_map.1 hs
  exact (h.1 f hf).block p hp

theorem Within.far_hi {ss : List Sl} {lo hi : Nat} (h : Within ss lo hi) {A : Option Addr} (hA : ∀ a, A = some a → hi ≤ a.block) : Far ss A := by
  intro s hs p q hp hq
  have h1 := h s hs p hp
  have h2 := hA q hq
  omega
theorem Within.far_lo {ss : List Sl} {lo hi : Nat} (h : Within ss lo hi) {A : Option Addr} (hA : ∀ a, A = some a → a.block < lo) : Far ss A := by
  intro s hs p q hp hq
  have h1 := h s hs p hp
  have h2 := hA q hq
  omega

theorem RdF.kept {w wr : World} {A : Option Addr} {n : Nat} {fs : List Fr} {ss : List Sl} (h : RdF w A n fs) (hk : Kept w wr ss) (hf : 0 < n → Far ss A) (hb : ∀ f ∈ fs, 0 < f.body.length → Far ss f.A) : RdF wr A n fs :=
  ⟨h.1, fun hn => by
    obtain ⟨b, o, e, hlt, hc⟩ := h.2 hn
    have hbl : wr.heap[b]? = w.heap[b]? := hk.block b hlt (fun s hs p hp => hf hn s hs p _ hp e)
    refine ⟨b, o, e, Nat.lt_of_lt_of_le hlt hk.size, fun j f hj => ?_⟩
    obtain ⟨h1, h2, h3⟩ := hc j f hj
    exact ⟨(World.cell?_of_block (a := ⟨b, o + j * 2, none⟩) hbl).trans h1, (World.cell?_of_block (a := ⟨b, o + j * 2 + 1, none⟩) hbl).trans h2, h3.kept hk (hb f (List.mem_of_getElem? hj))⟩⟩

theorem Kept.toExt {w w0 wr : World} {ss : List Sl} (h : Kept w wr ss) (he : Ext w0 w) (hs : ∀ s ∈ ss, ∀ p, s.A = some p → w0.heap.size ≤ p.block) : Ext w0 wr :=
  ⟨h.os.trans he.os, h.tape.trans he.tape, h.output.trans he.output, Nat.le_trans he.size h.size, fun b hb => (h.block b (Nat.lt_of_lt_of_le hb he.size) (fun s hs' p hp e => by have := hs s hs' p hp; omega)).trans (he.block b hb)⟩

theorem kv_sl {fs gs : List Fr} (h : fs.map Fr.kv = gs.map Fr.kv) : (fs.map Fr.sl).map Sl.body = (gs.map Fr.sl).map Sl.body := by
  have := congrArg (List.map Prod.snd) h
  simpa [Function.comp_def, Fr.kv, Fr.sl] using this

theorem kv_mem {fs : List Fr} {l : List (Nat × List Nat)} (h : fs.map Fr.kv = l) {f : Fr} (hf : f ∈ fs) : (f.k, f.body) ∈ l := by
  rw [← h]
  exact List.mem_map.2 ⟨f, hf, rfl⟩

end Go.Proofs.Ytegplcllimoakaa
