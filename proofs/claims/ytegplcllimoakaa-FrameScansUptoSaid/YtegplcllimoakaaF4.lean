/-
  The document's answers of layer 4, by definition: frames one behind the other; two lists of frames alike; their bodies.
-/
import Derived.Test.YtegplcllimoakaaG4
import Derived.Test.YtegplcllimoakaaF3
namespace Go.Proofs.Ytegplcllimoakaa
open Go.RowKit

theorem OwnF.made {base : Nat} (w : World) (hb : base ≤ w.heap.size) : OwnF (w.alloc (.cells #[] 45)) base (some ⟨w.heap.size, 0, none⟩) 0 [] :=
  World.ownsRow_made w #[] 0 hb (by simp [maxLen]) (by simp)

set_option maxHeartbeats 1600000 in
theorem refFScan_any (A : Option Addr) (n c : Nat) (bs : List Nat) (w : World) (hx : Rd .u8 w A n bs) (hu : U8 bs) (hn : n ≤ 1048576) :
    Calls Try.prog 36 #[.slice A n c] w (ScanPost bs w) := by
  have Hl := Lib.hid hx.len
  go_enter Try.func36, Try.ntmps36
  go_wp2
  go_loopw [5, 6] (fun v i wr => ∃ (a f c' : Nat) (A' : Option Addr) (fs : List Fr), v = .slice A' fs.length c' ∧ i = .int .i64 (a : Nat) ∧ OwnF wr w.heap.size A' c' fs ∧ Bods wr w.heap.size fs ∧ Below w.heap.size w wr ∧ a ≤ n ∧ n < f + a ∧ fs.length ≤ a ∧ fscan bs = (fs.map Fr.kv ++ (scn bs f a).1, (scn bs f a).2)) (fun _ i _ => n - (intOf i).toNat)
  case atStart => exact ⟨0, bs.length + 1, _, _, [], rfl, rfl, OwnF.made _ (Nat.le_refl _), Bods.nil _ _, (Ext.refl w).alloc _, Nat.zero_le _, by have := Hl.out; omega, Nat.le_refl _, by simp [fscan]⟩
  case round =>
    obtain ⟨a, f, c', A', fs, rfl, rfl, hown, hbods, hb, han, hfu, hfl, hsc⟩ := hrel
    have hz := hb.size
    have Hsc := Lib.hid hsc
    clear hsc
    by_cases hlt : a < n
    · obtain ⟨f, rfl⟩ : ∃ g, f = g + 1 := ⟨f - 1, by omega⟩
      have hin := fget_in (bs := bs) (a := a) (by have := Hl.out; omega)
      have hok := scn_ok (bs := bs) (f := f) (a := a) (by have := Hl.out; omega)
      have her := scn_err (bs := bs) (f := f) (a := a) (by have := Hl.out; omega)
      have hnx := fgetN_next (bs := bs) (a := a)
      have Hin := Lib.hid hin
      have Hok := Lib.hid hok
      have Her := Lib.hid her
      have Hnx := Lib.hid hnx
      clear hin hok her hnx
      go_wp2_with fail
      refine (refFGet_any _ _ _ _ bs _ (hx.ext hb) hu (by omega) (by omega)).mono ?_
      rintro e w1 ⟨A1, c1, rfl, hown1, he1⟩
      rw [Hin.out] at hown1 ⊢
      obtain ⟨g, hg⟩ : ∃ g, fgetN bs a = g := ⟨_, rfl⟩
      rw [hg] at hown1 Hok Her Hnx ⊢
      obtain ⟨k, body, t, r⟩ := g
      simp only at hown1 Hok Her Hnx ⊢
      have hE1 : Below w.heap.size w w1 := Ext.trans hb he1
      have hown2 := hown.ext he1
      have hbods2 := hbods.ext he1
      have hlow : ∀ g ∈ fs, ∀ p, g.A = some p → p.block < wr.heap.size := fun g hg p hp => ((hbods.1 g hg).block p hp).2
      have hsz1 := he1.size
      clear hg
      by_cases hr : r = 0
      · subst hr
        obtain ⟨ht1, ht2⟩ := Hnx.out rfl
        have HL := Lib.hid ht2
        have hsc2 := Hsc.out
        rw [Hok.out rfl] at hsc2
        have Hsc2 := Lib.hid hsc2
        clear Hsc Hok Her Hnx ht2 hsc2
        have hX : Ext w1 ((w1.alloc (.cells #[.int .i64 (k : Int), .slice A1 body.length c1] 45)).alloc (.cells #[.int .i64 (k : Int), .slice A1 body.length c1] 45)) := ((Ext.refl w1).alloc _).alloc _
        have hown3 := hown2.ext hX
        go_wp2_with (at_builtin; refine wpList_pushF (w0 := w) ⟨k, A1, c1, body⟩ rfl _ _ rfl hown3 fs.length rfl rfl rfl (heap_alloc2_new w1 _ _) (by omega) (Ext.trans hE1 hX) (by simp; omega) ?_; intro A3 c3 w3 hown4 hgr hb3 hz3)
        have hbods3 : Bods w3 w.heap.size (fs ++ [⟨k, A1, c1, body⟩]) := Bods.grown (base' := w.heap.size) (Bods.snoc (hbods2.ext hX) (hown1.ext hX) hz hlow) hown3 hgr
        go_wp2_with fail
        go_roundw
        case rel => exact ⟨t, f, c3, A3, _, by simp, rfl, hown4, hbods3, hb3, by have := HL.out; have := Hl.out; omega, by omega, by simp; omega, by rw [Hsc2.out]; simp [Fr.kv]⟩
        case measure => simp [intOf]; omega
      · have hsc2 := Hsc.out
        rw [Her.out hr] at hsc2
        have Hsc2 := Lib.hid hsc2
        have hrb : (r != 0) = true := by simpa using hr
        clear Hsc Hok Her Hnx hsc2
        go_wp2_with fail
        go_ret3
        refine ⟨fs, A', c', ?_, by rw [Hsc2.out]; simp, (hown2.ext ((Ext.refl w1).alloc _)), (hbods2.ext ((Ext.refl w1).alloc _)), Ext.trans hE1 ((Ext.refl w1).alloc _)⟩
        rw [Hsc2.out]
        rfl
    · have hsc2 := Hsc.out
      rw [scn_end (by have := Hl.out; omega)] at hsc2
      have Hsc2 := Lib.hid hsc2
      clear Hsc hsc2
      go_wp2_with fail
      go_ret3
      refine ⟨fs, A', c', ?_, by rw [Hsc2.out]; simp, hown, hbods, hb⟩
      rw [Hsc2.out]
      rfl

end Go.Proofs.Ytegplcllimoakaa
