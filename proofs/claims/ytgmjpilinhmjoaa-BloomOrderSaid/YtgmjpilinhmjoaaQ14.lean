/-
  Layer 13: a filter as a list of bits; the reference's New.
-/
import Derived.Test.YtgmjpilinhmjoaaQ12
import Derived.Test.YtgmjpilinhmjoaaQ1b
import Derived.Deep.RegionHeld3
namespace Go.Proofs.Ytgmjpilinhmjoaa
open Go.RowKit
set_option maxRecDepth 100000

/-- The bits of a filter. -/
def bb (fs : List Nat) : List Bool := (List.range (8 * fs.length)).map (tb fs)
theorem bb_len (fs : List Nat) : (bb fs).length = 8 * fs.length := by simp [bb]
theorem bb_get {fs : List Nat} {k : Nat} (h : k < 8 * fs.length) : (bb fs)[k]? = some (tb fs k) := by simp [bb, h]
theorem bb_setB {fs : List Nat} {k : Nat} (h : k < 8 * fs.length) : bb (setB fs k) = (bb fs).set k true := by
  apply List.ext_getElem?
  intro i
  by_cases hi : i < 8 * fs.length
  · rw [bb_get (by rw [setB_len]; exact hi), tb_setB h, List.getElem?_set]
    by_cases hik : k = i
    · subst hik
      rw [if_pos rfl, if_pos (by rw [bb_len]; exact hi), decide_eq_true rfl, Bool.true_or]
    · rw [if_neg hik, bb_get hi, decide_eq_false (fun e => hik e.symm), Bool.false_or]
  · rw [List.getElem?_eq_none (by rw [bb_len, setB_len]; omega), List.getElem?_eq_none (by rw [List.length_set, bb_len]; omega)]
theorem bb_zeros (n : Int) : bb (zeros n) = List.replicate (8 * newLen n) false := by
  apply List.ext_getElem?
  intro i
  by_cases hi : i < 8 * newLen n
  · rw [bb_get (by rw [zeros_len]; exact hi), List.getElem?_replicate, if_pos hi]
    congr 1
    unfold tb zeros
    rw [List.getD, List.getElem?_replicate, if_pos (by omega)]
    simp
  · rw [List.getElem?_eq_none (by rw [bb_len, zeros_len]; omega), List.getElem?_eq_none (by simp; omega)]

/-- A row of bools. -/
def shB : Shape Bool := ⟨fun b => [.bool b], 1, fun _ => rfl, by intro x u hu; simp at hu; subst hu; rfl⟩
theorem Try.infoBool : (Try.prog.info? 4).map (fun i => (i.zero, i.size, i.bytes)) = some (some (.bool false), 1, 1) := by kernel_rfl
theorem OwnG.atB {w : World} {base c : Nat} {A : Option Addr} {xs : List Bool} (h : OwnG shB 4 w base A c xs) {j : Nat} (hj : j < xs.length) :
    ∃ b x, A = some ⟨b, 0, none⟩ ∧ base ≤ b ∧ b < w.heap.size ∧ xs[j]? = some x ∧ w.cell? ⟨b, j, none⟩ = some (.bool x) ∧ w.frozen? ⟨b, j, none⟩ = false ∧
      ∀ y, OwnG shB 4 (w.setCell ⟨b, j, none⟩ (.bool y)) base A c (xs.set j y) ∧ w.grownBy (w.setCell ⟨b, j, none⟩ (.bool y)) (some b) := by
  obtain ⟨b, x, h1, h2, h3, h4, h5, h6, h7⟩ := h.at_ hj
  have e : j * shB.sz + 0 = j := by show j * 1 + 0 = j; omega
  refine ⟨b, x, h1, h2, h3, h4, ?_, h6 j, fun y => ?_⟩
  · have := h5 0 (.bool x) rfl
    rwa [e] at this
  · have := h7 0 y (.bool y) (by decide) rfl
    rwa [e] at this
theorem RdG.atB {w : World} {n : Nat} {A : Option Addr} {xs : List Bool} (h : RdG shB w A n xs) {j : Nat} (hj : j < n) :
    ∃ b o x, A = some ⟨b, o, none⟩ ∧ b < w.heap.size ∧ xs[j]? = some x ∧ w.cell? ⟨b, o + j, none⟩ = some (.bool x) := by
  obtain ⟨b, o, x, h1, h2, h3, h4⟩ := h.at_ hj
  have e : o + j * shB.sz + 0 = o + j := by show o + j * 1 + 0 = o + j; omega
  have := h4 0 (.bool x) rfl
  rw [e] at this
  exact ⟨b, o, x, h1, h2, h3, this⟩

def lenV : Value → Nat
  | .slice _ n _ => n
  | _ => 0

def NewPost (n : Int) (w : World) (e : Ending) (w' : World) : Prop :=
  ∃ A' c', e = .returned (.slice A' (8 * newLen n : Nat) c') ∧ OwnG shB 4 w' w.heap.size A' c' (List.replicate (8 * newLen n) false) ∧ Ext w w'

set_option maxHeartbeats 4000000 in
theorem refNew_any (n : Int) (w : World) (h1 : -9223372036854775808 ≤ n) (h2 : n ≤ 9223372036854775807) :
    Calls Try.prog 9 #[.int .i64 n] w (NewPost n w) := by
  obtain ⟨L, hL⟩ : ∃ L, L = newLen n := ⟨_, rfl⟩
  have HLn := Lib.hid hL
  by_cases hn : n < 0
  · have hLm : L = 8 := by rw [hL, newLen]; omega
    clear hL
    go_enter Try.func9, Try.ntmps9
    go_wp2_with fail
    go_loopw [3] (fun y wr => ∃ (q : Nat) (A' : Option Addr) (c' : Nat), q ≤ L ∧ y = .slice A' (8 * q : Nat) c' ∧ OwnG shB 4 wr w.heap.size A' c' (List.replicate (8 * q) false) ∧ Ext w wr ∧ w.heap.size ≤ wr.heap.size) (fun y _ => 8 * L - lenV y)
    case atStart => exact ⟨0, _, 0, Nat.zero_le _, rfl, by simpa using OwnG.made shB 4 w (Nat.le_refl _), (Ext.refl _).alloc _, by simp⟩
    case round =>
      obtain ⟨q, A', c', hq, rfl, hO, hE, hz⟩ := hrel
      obtain ⟨N, hN⟩ : ∃ N, N = 8 * q := ⟨_, rfl⟩
      rw [← hN] at hO ⊢
      have HN := Lib.hid hN
      clear hN
      by_cases hlt : q < L
      · have HO := Lib.hid hO
        clear hO
        by_cases h8 : q < 8
        · have hc1 : (N : Int) < 64 := by have := HN.out; omega
          go_wp2_with fail
          go_loopw [3, 4] (fun y k wr => ∃ (i : Nat) (A1 : Option Addr) (c1 : Nat), i ≤ 8 ∧ k = .int .i64 (i : Int) ∧ y = .slice A1 (N + i : Nat) c1 ∧ OwnG shB 4 wr w.heap.size A1 c1 (List.replicate (N + i) false) ∧ Ext w wr ∧ w.heap.size ≤ wr.heap.size) (fun _ k _ => 8 - (intOf k).toNat)
          case atStart => exact ⟨0, A', c', by omega, rfl, rfl, HO.out, hE, hz⟩
          case round =>
            obtain ⟨i, A1, c1, hi, rfl, rfl, hO1, hE1, hz1⟩ := hrel
            by_cases hi8 : i < 8
            · have Hl1 := Lib.hid (show (List.replicate (N + i) false).length = N + i from List.length_replicate)
              have HO1 := Lib.hid hO1
              clear hO1
              go_wp2_with (at_builtin; refine wpList_pushG (w0 := w) (base := w.heap.size) shB false 4 rfl _ _ 27 rfl _ 1 Try.underlying27 Try.infoBool rfl (by decide) (HO1.out.ext ((Ext.refl _).alloc _)) (N + i) Hl1.out rfl rfl (heap_alloc_new _ _) (by have := HN.out; omega) (by omega) (Below.alloc hE1 hz1 _) (by simp; omega) ?_; intro A2 c2 w2 hO2 _ hE2 hz2)
              go_roundw
              case rel => exact ⟨i + 1, A2, c2, by omega, by go_num, rfl, by rw [show N + (i + 1) = (N + i) + 1 from rfl, List.replicate_succ']; exact hO2, hE2, hz2⟩
              case measure => simp [intOf]; omega
            · obtain rfl : i = 8 := by omega
              go_wp2
              go_roundw
              case rel => exact ⟨q + 1, A1, c1, by omega, by rw [show 8 * (q + 1) = N + 8 by have := HN.out; omega], by rw [show 8 * (q + 1) = N + 8 by have := HN.out; omega]; exact hO1, hE1, hz1⟩
              case measure => have := HN.out; simp [lenV]; omega
        · exact absurd hlt (by omega)
      · obtain rfl : q = L := by omega
        have hc1 : ¬ (N : Int) < 64 := by have := HN.out; omega
        have hc2 : ¬ (N : Int) < 10 * 0 := by have := HN.out; omega
        go_wp2
        go_ret
        exact ⟨A', c', by rw [← HLn.out, ← HN.out]; rfl, by rw [← HLn.out, ← HN.out]; exact hO, hE⟩
  · by_cases hn2 : 4096 < n
    · have hLm1 : L ≤ 5120 := by rw [hL, newLen]; omega
      have hLm2 : 5120 ≤ L := by rw [hL, newLen]; omega
      clear hL
      go_enter Try.func9, Try.ntmps9
      go_wp2_with fail
      go_loopw [3] (fun y wr => ∃ (q : Nat) (A' : Option Addr) (c' : Nat), q ≤ L ∧ y = .slice A' (8 * q : Nat) c' ∧ OwnG shB 4 wr w.heap.size A' c' (List.replicate (8 * q) false) ∧ Ext w wr ∧ w.heap.size ≤ wr.heap.size) (fun y _ => 8 * L - lenV y)
      case atStart => exact ⟨0, _, 0, Nat.zero_le _, rfl, by simpa using OwnG.made shB 4 w (Nat.le_refl _), (Ext.refl _).alloc _, by simp⟩
      case round =>
        obtain ⟨q, A', c', hq, rfl, hO, hE, hz⟩ := hrel
        obtain ⟨N, hN⟩ : ∃ N, N = 8 * q := ⟨_, rfl⟩
        rw [← hN] at hO ⊢
        have HN := Lib.hid hN
        clear hN
        by_cases hlt : q < L
        · have HO := Lib.hid hO
          clear hO
          by_cases h8 : q < 8
          · have hc1 : (N : Int) < 64 := by have := HN.out; omega
            go_wp2_with fail
            go_loopw [3, 4] (fun y k wr => ∃ (i : Nat) (A1 : Option Addr) (c1 : Nat), i ≤ 8 ∧ k = .int .i64 (i : Int) ∧ y = .slice A1 (N + i : Nat) c1 ∧ OwnG shB 4 wr w.heap.size A1 c1 (List.replicate (N + i) false) ∧ Ext w wr ∧ w.heap.size ≤ wr.heap.size) (fun _ k _ => 8 - (intOf k).toNat)
            case atStart => exact ⟨0, A', c', by omega, rfl, rfl, HO.out, hE, hz⟩
            case round =>
              obtain ⟨i, A1, c1, hi, rfl, rfl, hO1, hE1, hz1⟩ := hrel
              by_cases hi8 : i < 8
              · have Hl1 := Lib.hid (show (List.replicate (N + i) false).length = N + i from List.length_replicate)
                have HO1 := Lib.hid hO1
                clear hO1
                go_wp2_with (at_builtin; refine wpList_pushG (w0 := w) (base := w.heap.size) shB false 4 rfl _ _ 27 rfl _ 1 Try.underlying27 Try.infoBool rfl (by decide) (HO1.out.ext ((Ext.refl _).alloc _)) (N + i) Hl1.out rfl rfl (heap_alloc_new _ _) (by have := HN.out; omega) (by omega) (Below.alloc hE1 hz1 _) (by simp; omega) ?_; intro A2 c2 w2 hO2 _ hE2 hz2)
                go_roundw
                case rel => exact ⟨i + 1, A2, c2, by omega, by go_num, rfl, by rw [show N + (i + 1) = (N + i) + 1 from rfl, List.replicate_succ']; exact hO2, hE2, hz2⟩
                case measure => simp [intOf]; omega
              · obtain rfl : i = 8 := by omega
                go_wp2
                go_roundw
                case rel => exact ⟨q + 1, A1, c1, by omega, by rw [show 8 * (q + 1) = N + 8 by have := HN.out; omega], by rw [show 8 * (q + 1) = N + 8 by have := HN.out; omega]; exact hO1, hE1, hz1⟩
                case measure => have := HN.out; simp [lenV]; omega
          · have hc1 : ¬ (N : Int) < 64 := by have := HN.out; omega
            have hc2 : (N : Int) < 40960 := by have := HN.out; omega
            go_wp2_with fail
            clear hc1 hc2
            go_loopw [3, 4] (fun y k wr => ∃ (i : Nat) (A1 : Option Addr) (c1 : Nat), i ≤ 8 ∧ k = .int .i64 (i : Int) ∧ y = .slice A1 (N + i : Nat) c1 ∧ OwnG shB 4 wr w.heap.size A1 c1 (List.replicate (N + i) false) ∧ Ext w wr ∧ w.heap.size ≤ wr.heap.size) (fun _ k _ => 8 - (intOf k).toNat)
            case atStart => exact ⟨0, A', c', by omega, rfl, rfl, HO.out, hE, hz⟩
            case round =>
              obtain ⟨i, A1, c1, hi, rfl, rfl, hO1, hE1, hz1⟩ := hrel
              by_cases hi8 : i < 8
              · have Hl1 := Lib.hid (show (List.replicate (N + i) false).length = N + i from List.length_replicate)
                have HO1 := Lib.hid hO1
                clear hO1
                go_wp2_with (at_builtin; refine wpList_pushG (w0 := w) (base := w.heap.size) shB false 4 rfl _ _ 27 rfl _ 1 Try.underlying27 Try.infoBool rfl (by decide) (HO1.out.ext ((Ext.refl _).alloc _)) (N + i) Hl1.out rfl rfl (heap_alloc_new _ _) (by have := HN.out; omega) (by omega) (Below.alloc hE1 hz1 _) (by simp; omega) ?_; intro A2 c2 w2 hO2 _ hE2 hz2)
                go_roundw
                case rel => exact ⟨i + 1, A2, c2, by omega, by go_num, rfl, by rw [show N + (i + 1) = (N + i) + 1 from rfl, List.replicate_succ']; exact hO2, hE2, hz2⟩
                case measure => simp [intOf]; omega
              · obtain rfl : i = 8 := by omega
                go_wp2
                go_roundw
                case rel => exact ⟨q + 1, A1, c1, by omega, by rw [show 8 * (q + 1) = N + 8 by have := HN.out; omega], by rw [show 8 * (q + 1) = N + 8 by have := HN.out; omega]; exact hO1, hE1, hz1⟩
                case measure => have := HN.out; simp [lenV]; omega
        · obtain rfl : q = L := by omega
          have hc1 : ¬ (N : Int) < 64 := by have := HN.out; omega
          have hc2 : ¬ (N : Int) < 40960 := by have := HN.out; omega
          go_wp2
          go_ret
          exact ⟨A', c', by rw [← HLn.out, ← HN.out]; rfl, by rw [← HLn.out, ← HN.out]; exact hO, hE⟩
    · obtain ⟨m, rfl⟩ : ∃ m : Nat, n = (m : Int) := ⟨n.toNat, by omega⟩
      have hLm : L = max ((10 * m + 7) / 8) 8 := by rw [hL, newLen]; omega
      have hm : m ≤ 4096 := by omega
      clear hL
      go_enter Try.func9, Try.ntmps9
      go_wp2_with fail
      go_loopw [3] (fun y wr => ∃ (q : Nat) (A' : Option Addr) (c' : Nat), q ≤ L ∧ y = .slice A' (8 * q : Nat) c' ∧ OwnG shB 4 wr w.heap.size A' c' (List.replicate (8 * q) false) ∧ Ext w wr ∧ w.heap.size ≤ wr.heap.size) (fun y _ => 8 * L - lenV y)
      case atStart => exact ⟨0, _, 0, Nat.zero_le _, rfl, by simpa using OwnG.made shB 4 w (Nat.le_refl _), (Ext.refl _).alloc _, by simp⟩
      case round =>
        obtain ⟨q, A', c', hq, rfl, hO, hE, hz⟩ := hrel
        obtain ⟨N, hN⟩ : ∃ N, N = 8 * q := ⟨_, rfl⟩
        rw [← hN] at hO ⊢
        have HN := Lib.hid hN
        clear hN
        by_cases hlt : q < L
        · have HO := Lib.hid hO
          clear hO
          by_cases h8 : q < 8
          · have hc1 : (N : Int) < 64 := by have := HN.out; omega
            go_wp2_with fail
            go_loopw [3, 4] (fun y k wr => ∃ (i : Nat) (A1 : Option Addr) (c1 : Nat), i ≤ 8 ∧ k = .int .i64 (i : Int) ∧ y = .slice A1 (N + i : Nat) c1 ∧ OwnG shB 4 wr w.heap.size A1 c1 (List.replicate (N + i) false) ∧ Ext w wr ∧ w.heap.size ≤ wr.heap.size) (fun _ k _ => 8 - (intOf k).toNat)
            case atStart => exact ⟨0, A', c', by omega, rfl, rfl, HO.out, hE, hz⟩
            case round =>
              obtain ⟨i, A1, c1, hi, rfl, rfl, hO1, hE1, hz1⟩ := hrel
              by_cases hi8 : i < 8
              · have Hl1 := Lib.hid (show (List.replicate (N + i) false).length = N + i from List.length_replicate)
                have HO1 := Lib.hid hO1
                clear hO1
                go_wp2_with (at_builtin; refine wpList_pushG (w0 := w) (base := w.heap.size) shB false 4 rfl _ _ 27 rfl _ 1 Try.underlying27 Try.infoBool rfl (by decide) (HO1.out.ext ((Ext.refl _).alloc _)) (N + i) Hl1.out rfl rfl (heap_alloc_new _ _) (by have := HN.out; omega) (by omega) (Below.alloc hE1 hz1 _) (by simp; omega) ?_; intro A2 c2 w2 hO2 _ hE2 hz2)
                go_roundw
                case rel => exact ⟨i + 1, A2, c2, by omega, by go_num, rfl, by rw [show N + (i + 1) = (N + i) + 1 from rfl, List.replicate_succ']; exact hO2, hE2, hz2⟩
                case measure => simp [intOf]; omega
              · obtain rfl : i = 8 := by omega
                go_wp2
                go_roundw
                case rel => exact ⟨q + 1, A1, c1, by omega, by rw [show 8 * (q + 1) = N + 8 by have := HN.out; omega], by rw [show 8 * (q + 1) = N + 8 by have := HN.out; omega]; exact hO1, hE1, hz1⟩
                case measure => have := HN.out; simp [lenV]; omega
          · have hc1 : ¬ (N : Int) < 64 := by have := HN.out; omega
            have hc2 : (N : Int) < 10 * (m : Int) := by have := HN.out; omega
            go_wp2_with fail
            clear hc1 hc2
            go_loopw [3, 4] (fun y k wr => ∃ (i : Nat) (A1 : Option Addr) (c1 : Nat), i ≤ 8 ∧ k = .int .i64 (i : Int) ∧ y = .slice A1 (N + i : Nat) c1 ∧ OwnG shB 4 wr w.heap.size A1 c1 (List.replicate (N + i) false) ∧ Ext w wr ∧ w.heap.size ≤ wr.heap.size) (fun _ k _ => 8 - (intOf k).toNat)
            case atStart => exact ⟨0, A', c', by omega, rfl, rfl, HO.out, hE, hz⟩
            case round =>
              obtain ⟨i, A1, c1, hi, rfl, rfl, hO1, hE1, hz1⟩ := hrel
              by_cases hi8 : i < 8
              · have Hl1 := Lib.hid (show (List.replicate (N + i) false).length = N + i from List.length_replicate)
                have HO1 := Lib.hid hO1
                clear hO1
                go_wp2_with (at_builtin; refine wpList_pushG (w0 := w) (base := w.heap.size) shB false 4 rfl _ _ 27 rfl _ 1 Try.underlying27 Try.infoBool rfl (by decide) (HO1.out.ext ((Ext.refl _).alloc _)) (N + i) Hl1.out rfl rfl (heap_alloc_new _ _) (by have := HN.out; omega) (by omega) (Below.alloc hE1 hz1 _) (by simp; omega) ?_; intro A2 c2 w2 hO2 _ hE2 hz2)
                go_roundw
                case rel => exact ⟨i + 1, A2, c2, by omega, by go_num, rfl, by rw [show N + (i + 1) = (N + i) + 1 from rfl, List.replicate_succ']; exact hO2, hE2, hz2⟩
                case measure => simp [intOf]; omega
              · obtain rfl : i = 8 := by omega
                go_wp2
                go_roundw
                case rel => exact ⟨q + 1, A1, c1, by omega, by rw [show 8 * (q + 1) = N + 8 by have := HN.out; omega], by rw [show 8 * (q + 1) = N + 8 by have := HN.out; omega]; exact hO1, hE1, hz1⟩
                case measure => have := HN.out; simp [lenV]; omega
        · obtain rfl : q = L := by omega
          have hc1 : ¬ (N : Int) < 64 := by have := HN.out; omega
          have hc2 : ¬ (N : Int) < 10 * (m : Int) := by have := HN.out; omega
          go_wp2
          go_ret
          exact ⟨A', c', by rw [← HLn.out, ← HN.out]; rfl, by rw [← HLn.out, ← HN.out]; exact hO, hE⟩

end Go.Proofs.Ytgmjpilinhmjoaa
