/-
  Layer 13: the program's Has.
-/
import Derived.Test.YtgmjpilinhmjoaaQ3
namespace Go.Proofs.Ytgmjpilinhmjoaa
open Go.RowKit
set_option maxRecDepth 100000

/-- Is bit k set? -/
def tb (bs : List Nat) (k : Nat) : Bool := (bs.getD (k / 8) 0).testBit (k % 8)
def hasF (fs key : List Nat) : Bool := (List.range 6).all fun i => tb fs (kk (fnv key) (8 * fs.length) i)
theorem hasF_yes {fs key : List Nat} (h : ∀ i ∈ List.range 6, tb fs (kk (fnv key) (8 * fs.length) i) = true) : hasF fs key = true := List.all_eq_true.2 h
theorem hasF_no {fs key : List Nat} {i : Nat} (hi : i ∈ List.range 6) (h : tb fs (kk (fnv key) (8 * fs.length) i) = false) : hasF fs key = false := by
  rw [hasF, List.all_eq_false]
  exact ⟨i, hi, by simp [h]⟩

/-- 1 << e, e less than 8. -/
theorem one_shl {e : Nat} (h : e < 8) : IntKind.u8.wrap (2 ^ e) = ((2 ^ e : Nat) : Int) := by
  rw [IntKind.wrap_u8']
  rcases (show e = 0 ∨ e = 1 ∨ e = 2 ∨ e = 3 ∨ e = 4 ∨ e = 5 ∨ e = 6 ∨ e = 7 by omega) with rfl | rfl | rfl | rfl | rfl | rfl | rfl | rfl <;> decide
theorem and_bit (v e : Nat) : v &&& 2 ^ e = if v.testBit e then 2 ^ e else 0 := by
  apply Nat.eq_of_testBit_eq
  intro i
  rw [Nat.testBit_and, Nat.testBit_two_pow]
  by_cases hi : e = i
  · subst hi
    cases h : v.testBit e <;> simp
  · cases h : v.testBit e <;> simp [hi]

theorem and8 {v e : Nat} (hv : v < 256) (he : e < 8) : bits .and .u8 (v : Int) ((2 : Int) ^ e % 256) = ((if v.testBit e then 2 ^ e else 0 : Nat) : Int) := by
  have h1 := one_shl he
  rw [IntKind.wrap_u8'] at h1
  have h2 : 2 ^ e < 256 := Nat.lt_of_lt_of_le (Nat.pow_lt_pow_right (by decide) he) (by decide)
  rw [h1, u8_and_nat _ _ hv h2, and_bit]

set_option maxHeartbeats 4000000 in
theorem has_in (base g r : Nat) (fs : List Nat) (A : Option Addr) (n c : Nat) (bs : List Nat) (w : World) (hf : Fil w base g r fs) (hx : Rd .u8 w A n bs) (hu : U8 bs) (hn : n ≤ 281474976710656) :
    CallsIn Fence.wide 5 Try.prog 18 #[.pointer (some ⟨g, 0, none⟩), .slice A n c] w fun e w' => e = .returned (.bool (hasF fs bs)) ∧ Ext w w' := by
  have hlo := hf.lo
  have hhi := hf.hi
  have h8 := hf.u8
  have hk : ∀ i, kk (fnv bs) (8 * fs.length) i < 8 * fs.length := fun i => kk_lt (by omega)
  have hcall : ∀ W, Ext w W → Calls Try.prog 32 #[.pointer (some ⟨g, 0, none⟩), .slice A n c] W (BitsPost (fnv bs) (8 * fs.length) W) := fun W hW => bitsOf_any base g r fs A n c bs W (hf.ext hW) (hx.ext hW) hu hn
  obtain ⟨cf, hcf1, hcf2, hcg, hown, hrd⟩ := hf.cell
  have hrw := hf.rlt.2
  have hgw := hf.glt
  have hh := fnv_lt bs
  refine callsIn_of_wp_marks Try.func18 rfl trivial ?_ rfl
  simp only [Try.ntmps18, List.size_toArray, List.length_cons, List.length_nil, Nat.reduceAdd, Nat.reduceSub, Array.replicate_succ, Array.replicate_zero, List.push_toArray, List.append_toArray, List.nil_append, List.cons_append]
  gi_wp2_with (refine ⟨trivial, ?_⟩; gi_at_call 32; refine (callsIn_wide.2 (hcall _ (((Ext.refl _).alloc _).alloc _))).mono ?_; rintro e w1 ⟨Ba, Bb, Bm, rfl, he1, l1, l2, l3, m1, m2, m3, ca, cb, cm⟩)
  have hsz1 : w.heap.size + 2 ≤ w1.heap.size := by have := he1.size; simp at this; omega
  have hw1 : Ext w w1 := (((Ext.refl _).alloc _).alloc _).trans he1
  have c1 : ∀ (W : World) (v : Value) (t : TypeId), (W.alloc (.cells #[v] t)).cell? ⟨W.heap.size, 0, none⟩ = some v ∧ (W.alloc (.cells #[v] t)).frozen? ⟨W.heap.size, 0, none⟩ = false := fun W v t => by
    have h := heap_alloc_new W (.cells #[v] t)
    exact ⟨cell_of_row _ W.heap.size 0 _ t (0, 0) h, by simp only [World.frozen?, h]; rfl⟩
  have hbox : w1.cell? ⟨w.heap.size, 0, none⟩ = some (.pointer (some ⟨g, 0, none⟩)) := (Below.cell he1 (p := ⟨w.heap.size, 0, none⟩) (by simp <;> omega)).trans ((Below.cell ((Ext.refl _).alloc _) (p := ⟨w.heap.size, 0, none⟩) (by simp <;> omega)).trans (c1 w _ _).1)
  have c2 := c1 (w.alloc (.cells #[.pointer (some ⟨g, 0, none⟩)] 25)) (.bool false) 4
  rw [World.size_alloc] at c2
  have hres : w1.cell? ⟨w.heap.size + 1, 0, none⟩ = some (.bool false) := (Below.cell he1 (p := ⟨w.heap.size + 1, 0, none⟩) (by simp <;> omega)).trans c2.1
  have hfro : w1.frozen? ⟨w.heap.size + 1, 0, none⟩ = false := (World.frozen?_of_block (a := ⟨w.heap.size + 1, 0, none⟩) (he1.block _ (by simp <;> omega))).trans c2.2
  refine wpIn_rangeFunc_ownG rfl (by decide) (gf := 48) (lb := #[.pointer (some ⟨Ba, 0, none⟩), .pointer (some ⟨Bb, 0, none⟩), .pointer (some ⟨Bm, 0, none⟩)]) rfl trivial (enters_of Try.func48 (by kernel_rfl) rfl)
    (seq_any Fence.wide 4 trivial rfl (by decide) Ba Bb Bm _ _ _ (Nat.mod_lt _ (by decide)) (hb_lt hh) (by omega) (by omega) w1 m1 m2 m3 ca cb cm) keep3_t (keep3_b m1 m2 m3) (Below.refl _ _) (fun _ => rfl)
    (fun pre W => (∀ i ∈ pre, tb fs (kk (fnv bs) (8 * fs.length) i) = true) ∧ W.cell? ⟨w.heap.size, 0, none⟩ = some (.pointer (some ⟨g, 0, none⟩)) ∧ W.cell? ⟨w.heap.size + 1, 0, none⟩ = some (.bool false) ∧ W.frozen? ⟨w.heap.size + 1, 0, none⟩ = false ∧ Ext w W)
    (fun c pre W => c = .ret ∧ (∃ i ∈ pre, tb fs (kk (fnv bs) (8 * fs.length) i) = false) ∧ W.cell? ⟨w.heap.size + 1, 0, none⟩ = some (.bool false) ∧ Ext w W)
    (fun s A B row hs hg hr => ⟨hs.1, cell_kept hs.2.1 hg (fun r e => (hr r e).2), cell_kept hs.2.2.1 hg (fun r e => (hr r e).2), (frozen_kept hs.2.2.1 hg (fun r e => (hr r e).2)).trans hs.2.2.2.1, grownBy_ext hs.2.2.2.2 hg (fun r e => by have := (hr r e).1; omega)⟩)
    (fun c s A B row hs hg hr => ⟨hs.1, hs.2.1, cell_kept hs.2.2.1 hg (fun r e => (hr r e).2), grownBy_ext hs.2.2.2 hg (fun r e => by have := (hr r e).1; omega)⟩)
    ⟨by simp, hbox, hres, hfro, hw1⟩
    (fun x => { tmps := #[.pointer (some ⟨g, 0, none⟩), .slice A n c, .pointer (some ⟨w.heap.size, 0, none⟩), undef, .pointer (some ⟨w.heap.size + 1, 0, none⟩), .int .u64 (kk (fnv bs) (8 * fs.length) x : Nat), .pointer (some ⟨g, 0, none⟩), .slice A n c, .func (.func 48) #[] #[.pointer (some ⟨Ba, 0, none⟩), .pointer (some ⟨Bb, 0, none⟩), .pointer (some ⟨Bm, 0, none⟩)], .int .u64 (kk (fnv bs) (8 * fs.length) x : Nat), undef, undef, undef, undef, undef, undef, undef, undef, undef, undef, undef, undef, undef], defers := [] }) ?assign ?body ?done ?stop
  case assign =>
    intro l x W K hK
    gi_wp2_with (rw [Oper.semAt_eq _ _ _ (fun c h => by cases h)]; go_simp; try go_bits)
    exact hK
  case body =>
    rintro l pre x W ⟨hpre, hcb, hcr, hfr, hE⟩ _
    have hcg' : W.cell? ⟨g, 0, none⟩ = some (.slice (some ⟨r, 0, none⟩) fs.length cf) := (Below.cell hE (p := ⟨g, 0, none⟩) hgw).trans hcg
    have hkx := hk x
    obtain ⟨b', o', e', hb', hcell⟩ := (hrd.ext hE).at_ (j := kk (fnv bs) (8 * fs.length) x / 8) (by omega)
    injection e' with e'
    injection e' with e1 e2
    subst e1 e2
    have hv := h8.at_ (kk (fnv bs) (8 * fs.length) x / 8)
    obtain ⟨K, hK⟩ : ∃ K, K = kk (fnv bs) (8 * fs.length) x := ⟨_, rfl⟩
    rw [← hK] at hkx hcell hv
    obtain ⟨v, hv'⟩ : ∃ v, v = fs.getD (K / 8) 0 := ⟨_, rfl⟩
    rw [← hv', Nat.zero_add] at hcell
    rw [← hv'] at hv
    rw [← hK]
    have HK := Lib.hid hK
    have Hv := Lib.hid hv'
    clear hK hv'
    have hq1 : (K : Int) / 8 < (fs.length : Int) := by omega
    have hq2 : (0 : Int) ≤ (K : Int) / 8 := by omega
    have hq3 : ((K : Int) / 8).toNat = K / 8 := by omega
    have he8 : K % 8 < 8 := by omega
    have hq4 : ((K : Int) % 8).toNat = K % 8 := by omega
    gi_wp2_with (rw [Oper.semAt_eq _ _ _ (fun c h => by cases h)]; go_simp; try go_bits)
    · have hz : (bits .and .u8 (v : Int) ((2 : Int) ^ (K % 8) % 256) == 0) = true := by assumption
      rw [and8 hv he8] at hz
      have hb0 : v.testBit (K % 8) = false := by
        cases h : v.testBit (K % 8) with
        | false => rfl
        | true =>
          rw [h, if_pos rfl] at hz
          have h1 : 0 < 2 ^ (K % 8) := Nat.pow_pos (by decide)
          have h2 := eq_of_beq hz
          omega
      exact ⟨(KeepsOthers.setCell _ _ _).from _, rfl, ⟨x, by simp, by rw [tb, ← HK.out, ← Hv.out]; exact hb0⟩, World.cell?_setCell_same' _ _ _ (by rw [hcr]; rfl), hE.setCell (p := ⟨w.heap.size + 1, 0, none⟩) (by simp) _⟩
    · have hz : (bits .and .u8 (v : Int) ((2 : Int) ^ (K % 8) % 256) == 0) = false := by assumption
      rw [and8 hv he8] at hz
      have hb1 : v.testBit (K % 8) = true := by
        cases h : v.testBit (K % 8) with
        | true => rfl
        | false => rw [h] at hz; simp at hz
      refine ⟨(KeepsOthers.refl _).from _, ⟨rfl, rfl, rfl⟩, fun i hi => ?_, hcb, hcr, hfr, hE⟩
      rcases List.mem_append.1 hi with hi | hi
      · exact hpre i hi
      · simp at hi
        subst hi
        rw [tb, ← HK.out, ← Hv.out]; exact hb1
  case done =>
    rintro D ys W hD rfl ⟨hall, hcb, hcr, hfr, hE⟩ hKd
    gi_wp2
    have hK' := (KeepsOthers.setCell W ⟨w.heap.size + 1, 0, none⟩ (.bool true)).same D _ hKd rfl
    refine ⟨by simp, .inl ⟨_, _, rfl, run_takeDeferred hK', ?_⟩⟩
    have hc5 := cell_kept (World.cell?_setCell_same' W ⟨w.heap.size + 1, 0, none⟩ (.bool true) (by rw [hcr]; rfl)) (grownBy_putObj' _ D (.deferred none)) (fun r e => by cases e; exact ⟨_, hK', rfl⟩)
    refine ⟨.bool true, ?_, by rw [hasF_yes hall], grownBy_ext (hE.setCell (p := ⟨w.heap.size + 1, 0, none⟩) (by simp) _) (grownBy_putObj' _ D _) (fun g e => by cases e; omega)⟩
    simp [results, Try.results18, go_sem, hc5]
  case stop =>
    rintro D c pre W hD hpre ⟨rfl, ⟨i, hi, hno⟩, hcr, hE⟩ hKd
    gi_wp2
    refine ⟨by simp, .inl ⟨_, _, rfl, run_takeDeferred hKd, ?_⟩⟩
    have hc5 := cell_kept hcr (grownBy_putObj' _ D (.deferred none)) (fun r e => by cases e; exact ⟨_, hKd, rfl⟩)
    refine ⟨.bool false, ?_, by rw [hasF_no (hpre.subset hi) hno], grownBy_ext hE (grownBy_putObj' _ D _) (fun g e => by cases e; omega)⟩
    simp [results, Try.results18, go_sem, hc5]

theorem has_any (base g r : Nat) (fs : List Nat) (A : Option Addr) (n c : Nat) (bs : List Nat) (w : World) (hf : Fil w base g r fs) (hx : Rd .u8 w A n bs) (hu : U8 bs) (hn : n ≤ 281474976710656) :
    Calls Try.prog 18 #[.pointer (some ⟨g, 0, none⟩), .slice A n c] w fun e w' => e = .returned (.bool (hasF fs bs)) ∧ Ext w w' :=
  callsIn_wide.1 (has_in base g r fs A n c bs w hf hx hu hn)

end Go.Proofs.Ytgmjpilinhmjoaa
