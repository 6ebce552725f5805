/-
  Layer 13: a key's bits, one by one: the iterator that bitsOf hands back.
-/
import Derived.RangeFuncNested
import Derived.RangeFuncBound
import Derived.RangeFuncCalls
import Derived.RangeFuncLeaves
import Derived.Shelf.Abstract
import Derived.Shelf.RegionOpen
import Derived.WalkKit
import Derived.OwnWalkIn
import Derived.TacticsInMore
import Derived.LoopNIn
import Derived.LoopIn
import Derived.Test.YtgmjpilinhmjoaaQ2
namespace Go.Proofs.Ytgmjpilinhmjoaa
open Go.RowKit
set_option maxRecDepth 100000

/-- Three blocks lie as they lay. -/
def Keep3 (Ba Bb Bm : Nat) (W W' : World) : Prop := W'.heap[Ba]? = W.heap[Ba]? ∧ W'.heap[Bb]? = W.heap[Bb]? ∧ W'.heap[Bm]? = W.heap[Bm]?
theorem keep3_t {Ba Bb Bm : Nat} {A B C : World} (h : Keep3 Ba Bb Bm A B) (k : Keep3 Ba Bb Bm B C) : Keep3 Ba Bb Bm A C := ⟨k.1.trans h.1, k.2.1.trans h.2.1, k.2.2.trans h.2.2⟩
theorem keep3_b {Ba Bb Bm : Nat} {w : World} (h1 : Ba < w.heap.size) (h2 : Bb < w.heap.size) (h3 : Bm < w.heap.size) (W : World) (l : Nat) (o o' : Obj) (hl : w.heap.size ≤ l) (_ : W.heap[l]? = some o) (_ : o.isCells = false) (_ : o.isWalk = false) : Keep3 Ba Bb Bm W (W.putObj l o') :=
  ⟨World.putObj_heap_other (by omega), World.putObj_heap_other (by omega), World.putObj_heap_other (by omega)⟩
theorem keep3_grown {Ba Bb Bm r : Nat} {W W' : World} (hg : W.grownBy W' (some r)) (h1 : Ba < W.heap.size) (h2 : Bb < W.heap.size) (h3 : Bm < W.heap.size) (k1 : Ba ≠ r) (k2 : Bb ≠ r) (k3 : Bm ≠ r) : Keep3 Ba Bb Bm W W' :=
  ⟨hg.block _ h1 (fun e => k1 (by cases e; rfl)), hg.block _ h2 (fun e => k2 (by cases e; rfl)), hg.block _ h3 (fun e => k3 (by cases e; rfl))⟩

theorem range_pre {j : Nat} (h : j < 6) : List.range (j + 1) <+: List.range 6 := by
  rcases (show j = 0 ∨ j = 1 ∨ j = 2 ∨ j = 3 ∨ j = 4 ∨ j = 5 by omega) with rfl | rfl | rfl | rfl | rfl | rfl <;> decide

set_option maxHeartbeats 2000000 in
theorem iter_in (F : Fence) (n : Nat) (h48 : F.fn 48) (hro : F.round = none) (hn : 1 ≤ n) (l Ba Bb Bm a b m : Nat) (ha : a < 4294967296) (hb : b < 4294967296) (hm0 : 0 < m) (hm : m ≤ 1000000) (J Jx : List Nat → World → Prop)
    (hY : ∀ pre x W, J pre W → pre.length < 6 → YieldAt F (n - 1) Try.prog l #[.int .u64 ((a + x * b) % m : Nat)] W fun e W' =>
      (e = .returned (.bool true) ∧ J (pre ++ [x]) W' ∧ Keep3 Ba Bb Bm W W') ∨ (e = .returned (.bool false) ∧ Jx (pre ++ [x]) W'))
    (W : World) (hca : W.cell? ⟨Ba, 0, none⟩ = some (.int .u64 (a : Nat))) (hcb : W.cell? ⟨Bb, 0, none⟩ = some (.int .u64 (b : Nat))) (hcm : W.cell? ⟨Bm, 0, none⟩ = some (.int .u64 (m : Nat))) (h0 : J [] W) :
    CallsIn F n Try.prog 48 #[.func (.yield l) #[] #[], .pointer (some ⟨Ba, 0, none⟩), .pointer (some ⟨Bb, 0, none⟩), .pointer (some ⟨Bm, 0, none⟩)] W fun e W' => (∃ v, e = .returned v) ∧
      ((∃ ys, ys = List.range 6 ∧ J ys W') ∨ (∃ pre, pre <+: List.range 6 ∧ Jx pre W')) := by
  refine callsIn_of_wp Try.func48 rfl h48 ?_ hro
  simp only [Try.ntmps48, List.size_toArray, List.length_cons, List.length_nil, Nat.reduceAdd, Nat.reduceSub, Array.replicate_succ, Array.replicate_zero, List.push_toArray, List.append_toArray, List.nil_append, List.cons_append]
  gi_wp2
  gi_loopw [6] (fun i wr => ∃ j : Nat, j ≤ 6 ∧ i = .int .u64 (j : Nat) ∧ J (List.range j) wr ∧ wr.cell? ⟨Ba, 0, none⟩ = some (.int .u64 (a : Nat)) ∧ wr.cell? ⟨Bb, 0, none⟩ = some (.int .u64 (b : Nat)) ∧ wr.cell? ⟨Bm, 0, none⟩ = some (.int .u64 (m : Nat)))
    (fun i _ => 6 - (intOf i).toNat)
  case atStart => exact ⟨0, by omega, rfl, h0, hca, hcb, hcm⟩
  case round =>
    obtain ⟨j, hj, rfl, hJ, hca, hcb, hcm⟩ := hrel
    by_cases hlt : j < 6
    · obtain ⟨fn, tmps, assign, body, hy, hR⟩ := hY (List.range j) j wr hJ (by simpa using hlt)
      have hlin : j * b < 25769803776 := by
        calc j * b ≤ 5 * b := Nat.mul_le_mul_right _ (by omega)
          _ ≤ 5 * 4294967295 := Nat.mul_le_mul_left _ (by omega)
          _ < 25769803776 := by decide
      obtain ⟨p, hp⟩ : ∃ p, p = j * b := ⟨_, rfl⟩
      obtain ⟨K, hK⟩ : ∃ K, K = (a + j * b) % m := ⟨_, rfl⟩
      rw [← hK] at hy
      rw [← hp] at hK hlin
      have hu1 : IntKind.u64.wrap ((j : Int) * (b : Int)) = (p : Int) := by rw [show (j : Int) * (b : Int) = (p : Int) from by rw [hp, Int.natCast_mul], IntKind.wrap_u64]; omega
      have hu2 : IntKind.u64.wrap ((a : Int) + (p : Int)) = (a : Int) + (p : Int) := by rw [IntKind.wrap_u64]; omega
      have ht : ((a : Int) + (p : Int)).tmod (m : Int) = (K : Int) := by
        rw [Int.tmod_eq_emod_of_nonneg (by omega), hK, Int.natCast_emod, Int.natCast_add]
      have hK' := Lib.hid hK
      have hp' := Lib.hid hp
      clear hK hp hlin
      gi_wp2
      refine hR.mono ?_
      rintro e W3 (⟨rfl, hJ3, hk3⟩ | ⟨rfl, hJx3⟩)
      · have ca : W3.cell? ⟨Ba, 0, none⟩ = some (.int .u64 (a : Nat)) := (World.cell?_of_block (a := ⟨Ba, 0, none⟩) hk3.1).trans hca
        have cb : W3.cell? ⟨Bb, 0, none⟩ = some (.int .u64 (b : Nat)) := (World.cell?_of_block (a := ⟨Bb, 0, none⟩) hk3.2.1).trans hcb
        have cm : W3.cell? ⟨Bm, 0, none⟩ = some (.int .u64 (m : Nat)) := (World.cell?_of_block (a := ⟨Bm, 0, none⟩) hk3.2.2).trans hcm
        gi_wp2
        go_roundw
        case rel => exact ⟨j + 1, by omega, by go_num, by rw [List.range_succ]; exact hJ3, ca, cb, cm⟩
        case measure => simp [intOf]; omega
      · gi_wp2
        refine bodyPost_ret (results_none rfl _ _ _) rfl ?_
        refine ⟨⟨_, rfl⟩, .inr ⟨List.range j ++ [j], ?_, hJx3⟩⟩
        rw [← List.range_succ]
        exact range_pre hlt
    · obtain rfl : j = 6 := by omega
      gi_wp2
      go_end0
      exact ⟨⟨_, rfl⟩, .inl ⟨_, rfl, hJ⟩⟩

/-- What the iterator says: the six numbers, one by one; a body may stop it. -/
theorem seq_any (F : Fence) (n : Nat) (h48 : F.fn 48) (hro : F.round = none) (hn : 1 ≤ n) (Ba Bb Bm a b m : Nat) (ha : a < 4294967296) (hb : b < 4294967296) (hm0 : 0 < m) (hm : m ≤ 1000000) (w : World)
    (h1 : Ba < w.heap.size) (h2 : Bb < w.heap.size) (h3 : Bm < w.heap.size)
    (hca : w.cell? ⟨Ba, 0, none⟩ = some (.int .u64 (a : Nat))) (hcb : w.cell? ⟨Bb, 0, none⟩ = some (.int .u64 (b : Nat))) (hcm : w.cell? ⟨Bm, 0, none⟩ = some (.int .u64 (m : Nat))) :
    SeqStopsK F n Try.prog 48 #[.pointer (some ⟨Ba, 0, none⟩), .pointer (some ⟨Bb, 0, none⟩), .pointer (some ⟨Bm, 0, none⟩)] (fun x : Nat => #[Value.int .u64 ((a + x * b) % m : Nat)]) (Keep3 Ba Bb Bm) (fun ys => ys = List.range 6) (fun pre => pre <+: List.range 6) 6 w := fun l J Jx W hW _ _ hY h0 =>
  iter_in F n h48 hro hn l Ba Bb Bm a b m ha hb hm0 hm J Jx hY W ((hW.cell (p := ⟨Ba, 0, none⟩) h1).trans hca) ((hW.cell (p := ⟨Bb, 0, none⟩) h2).trans hcb) ((hW.cell (p := ⟨Bm, 0, none⟩) h3).trans hcm) h0

def BitsPost (h m : Nat) (w : World) (e : Ending) (w' : World) : Prop :=
  ∃ Ba Bb Bm, e = .returned (.func (.func 48) #[] #[.pointer (some ⟨Ba, 0, none⟩), .pointer (some ⟨Bb, 0, none⟩), .pointer (some ⟨Bm, 0, none⟩)]) ∧ Ext w w' ∧ w.heap.size ≤ Ba ∧ w.heap.size ≤ Bb ∧ w.heap.size ≤ Bm ∧ Ba < w'.heap.size ∧ Bb < w'.heap.size ∧ Bm < w'.heap.size ∧
    w'.cell? ⟨Ba, 0, none⟩ = some (.int .u64 ((h % 4294967296 : Nat) : Int)) ∧ w'.cell? ⟨Bb, 0, none⟩ = some (.int .u64 (hb h : Nat)) ∧ w'.cell? ⟨Bm, 0, none⟩ = some (.int .u64 (m : Nat))

set_option maxHeartbeats 1000000 in
theorem bitsOf_any (base g r : Nat) (fs : List Nat) (A : Option Addr) (n c : Nat) (bs : List Nat) (w : World) (hf : Fil w base g r fs) (hx : Rd .u8 w A n bs) (hu : U8 bs) (hn : n ≤ 281474976710656) :
    Calls Try.prog 32 #[.pointer (some ⟨g, 0, none⟩), .slice A n c] w (BitsPost (fnv bs) (8 * fs.length) w) := by
  have hh := fnv_lt bs
  have hcall := hash_any A n c bs w hx hu hn
  obtain ⟨h, hH⟩ : ∃ h, h = fnv bs := ⟨_, rfl⟩
  rw [← hH] at hh hcall ⊢
  clear hH hx hu
  have hhi := hf.hi
  have hlo := hf.lo
  have hand : bits .and .u64 (h : Int) 4294967295 = ((h % 4294967296 : Nat) : Int) := by
    rw [show (4294967295 : Int) = ((4294967295 : Nat) : Int) from rfl, u64_and_nat _ _ hh (by decide), show (4294967295 : Nat) = 2 ^ 32 - 1 from rfl, Nat.and_two_pow_sub_one_eq_mod]
  have hor : bits .or .u64 ((h : Int) / 4294967296) 1 = (hb h : Int) := by
    have := u64_or_nat (h / 4294967296) 1 (by omega) (by decide)
    rw [hb, ← this, Int.natCast_ediv]; rfl
  have hb2 := hb_lt hh
  obtain ⟨B, hB⟩ : ∃ B, B = hb h := ⟨_, rfl⟩
  obtain ⟨a, ha⟩ : ∃ a, a = h % 4294967296 := ⟨_, rfl⟩
  rw [← hB] at hor hb2
  rw [← ha] at hand
  have HB := Lib.hid hB
  have Ha := Lib.hid ha
  have Hcall := Lib.hid hcall
  have Hf := Lib.hid hf
  clear hB ha hcall hf
  have hmf : ∀ (fn : Fn) (first cap : Array Value) (w : World), (Instr.makeFunc fn first cap).run Try.prog w = .ok (.func fn first cap) w := fun _ _ _ _ => rfl
  go_enter Try.func32, Try.ntmps32
  go_wp2_with fail
  refine Hcall.out.mono ?_
  rintro e w1 ⟨rfl, rfl⟩
  go_wp2_with fail
  refine (bits_any _ _ _ _ _ (Hf.out.ext (((Ext.refl _).alloc _).alloc _))).mono ?_
  rintro e w2 ⟨rfl, rfl⟩
  have hM : ((8 * fs.length : Nat) : Int) ≤ 40960 := by omega
  go_wp2
  go_ret
  have c1 : ∀ (W : World) (v : Value) (t : TypeId), (W.alloc (.cells #[v] t)).cell? ⟨W.heap.size, 0, none⟩ = some v := fun W v t => cell_of_row _ W.heap.size 0 _ t (0, 0) (heap_alloc_new W _)
  have c2 : ∀ (W : World) (p : Addr) (v : Value) (o : Obj), W.cell? p = some v → p.block < W.heap.size → (W.alloc o).cell? p = some v := fun W p v o hv hp => (Below.cell (Ext.refl W |>.alloc o) (p := p) hp).trans hv
  refine ⟨w.heap.size, w.heap.size + 1, w.heap.size + 2, ?_, (((Ext.refl _).alloc _).alloc _).alloc _, by omega, by omega, by omega, by simp <;> omega, by simp <;> omega, by simp <;> omega, ?_, ?_, ?_⟩
  · rfl
  · rw [← Ha.out]; exact c2 _ _ _ _ (c2 _ _ _ _ (c1 _ _ _) (by simp)) (by simp; omega)
  · rw [← HB.out]
    have := c1 (w.alloc (.cells #[.int .u64 (a : Int)] 38)) (.int .u64 (B : Int)) 38
    rw [World.size_alloc] at this
    exact c2 _ _ _ _ this (by simp)
  · have := c1 ((w.alloc (.cells #[.int .u64 (a : Int)] 38)).alloc (.cells #[.int .u64 (B : Int)] 38)) (.int .u64 ((8 * fs.length : Nat) : Int)) 38
    rw [World.size_alloc, World.size_alloc] at this
    exact this

end Go.Proofs.Ytgmjpilinhmjoaa
