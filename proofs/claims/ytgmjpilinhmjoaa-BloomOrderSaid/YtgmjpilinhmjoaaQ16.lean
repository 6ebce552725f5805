/-
  Layer 13: the reference's Encode.
-/
import Derived.Test.YtgmjpilinhmjoaaQ15
import Derived.Test.YtgmjpilinhmjoaaBR
namespace Go.Proofs.Ytgmjpilinhmjoaa
open Go.RowKit
set_option maxRecDepth 100000

def b01 (b : Bool) : Nat := if b then 1 else 0
def eight (x : Nat) : List Nat := (List.range 8).map fun i => b01 (x.testBit i)
theorem pack_eight : ∀ x : Fin 256, packE 1 (eight x.1) = 0 ∧ packL 1 (eight x.1) = [x.1] := by decide +kernel
theorem bits_cut {fs : List Nat} {q : Nat} (h : q < fs.length) : cut ((bb fs).map b01) (8 * q) 8 = eight (fs.getD q 0) := by
  apply List.ext_getElem?
  intro i
  by_cases hi : i < 8
  · rw [cut, List.getElem?_take_of_lt hi, List.getElem?_drop, List.getElem?_map, bb_get (by omega), eight, List.getElem?_map, List.getElem?_range hi]
    show some (b01 (tb fs (8 * q + i))) = some (b01 ((fs.getD q 0).testBit i))
    unfold tb
    rw [show (8 * q + i) / 8 = q by omega, show (8 * q + i) % 8 = i by omega]
  · rw [List.getElem?_eq_none (by rw [cut_len (by rw [List.length_map, bb_len]; omega)]; omega), List.getElem?_eq_none (by simp [eight]; omega)]
theorem u64_bits (bs : List Bool) : U64 (bs.map b01) := by
  intro x hx
  obtain ⟨b, _, rfl⟩ := List.mem_map.1 hx
  cases b <;> decide

theorem Try.elemU64 : Try.prog.elem 63 = 38 := by kernel_rfl
theorem run_sizeU64 (w : World) : (sizeOf (Try.prog.elem 63)).run Try.prog w = .ok 1 w := by
  obtain ⟨i, hi0, hz, hsz, hbs⟩ := info_parts Try.infoU64
  rw [Try.elemU64]
  simp [sizeOf, typeInfo, hi0, hsz]
theorem Try.underSl64 : Try.prog.underlying 63 = some (.slice (Try.prog.elem 63)) := by kernel_rfl
theorem run_cut64 (b n c l h : Nat) (hl : l < h) (hh : h ≤ c) : ∀ W : World, (Instr.slice 63 (.slice (some ⟨b, 0, none⟩) n c) (some (.int .i64 (l : Int))) (some (.int .i64 (h : Int))) none).run Try.prog W = .ok (.slice (some ⟨b, l, none⟩) (h - l : Nat) (c - l : Nat)) W := by
  intro W
  rw [run_slice_lh W _ (some ⟨b, 0, none⟩) n c Try.underSl64 .i64 .i64 l h (by omega) (by omega) (by omega), run_sizeU64]
  simp only [Result.andThen, sliced, Int.toNat_natCast, Nat.mul_one]
  congr 1
  rw [if_neg (by omega)]
  simp [Addr.add]
  exact fun e => e.symm

def EncPost (fs : List Nat) (w : World) (e : Ending) (w' : World) : Prop :=
  ∃ A' c', e = .returned (.slice A' (encF fs).length c') ∧ Own .u8 5 w' w.heap.size A' c' (encF fs) ∧ Ext w w'

set_option maxHeartbeats 4000000 in
theorem refEncode_any (A : Option Addr) (c : Nat) (fs : List Nat) (w : World) (hx : RdG shB w A (8 * fs.length) (bb fs)) (hu : U8 fs) (lo : 8 ≤ fs.length) (hi : fs.length ≤ 5120) :
    Calls Try.prog 24 #[.slice A (8 * fs.length : Nat) c] w (EncPost fs w) := by
  have hel := encF_len fs
  have hvs := vsize_le (u := fs.length) (by omega)
  have hput : ∀ W, Calls Try.prog 39 #[.int .u64 (fs.length : Nat)] W fun e w' => ∃ A' c', e = .returned (.slice A' (vsize fs.length) c') ∧ Own .u8 5 w' W.heap.size A' c' (vput fs.length) ∧ Ext W w' := fun W => by
    have := refPut_any fs.length W (by omega)
    rwa [vput_len] at this
  have hvl := vput_len fs.length
  have hE : encF fs = sl (vput fs.length ++ fs) := rfl
  have hseal : ∀ A c W, Rd .u8 W A (vsize fs.length + fs.length) (vput fs.length ++ fs) → Calls Try.prog 41 #[.slice A (vsize fs.length + fs.length : Nat) c] W fun e w' => ∃ A' c', e = .returned (.slice A' (vsize fs.length + fs.length + 4 : Nat) c') ∧ Own .u8 5 w' W.heap.size A' c' (encF fs) ∧ Ext W w' := fun A c W h => by
    rw [hE]
    exact refSeal_any A _ c _ W h (u8_append (vput_u8 _) hu) (by omega)
  have hpk : ∀ q, q < fs.length → ∀ B cb W, Rd .u64 W B 8 (cut ((bb fs).map b01) (8 * q) 8) → Calls Try.prog 40 #[.int .i64 1, .slice B 8 cb] W fun e w' => ∃ A' c', e = .returned (.tuple #[.slice A' 1 c', .int .i64 0]) ∧ Own .u8 5 w' W.heap.size A' c' [fs.getD q 0] ∧ Ext W w' := fun q hq B cb W h => by
    rw [bits_cut hq] at h
    have hp := pack_eight ⟨fs.getD q 0, hu.at_ q⟩
    have := refPack_any B 8 cb 1 (eight (fs.getD q 0)) W h (by rw [← bits_cut hq]; exact fun v hv => u64_bits (bb fs) v (List.mem_of_mem_drop (List.mem_of_mem_take hv))) (by decide)
    unfold PackPost at this
    rw [hp.1, hp.2] at this
    exact this
  have hbl : ((bb fs).map b01).length = 8 * fs.length := by rw [List.length_map, bb_len]
  obtain ⟨L, hL⟩ : ∃ L, L = fs.length := ⟨_, rfl⟩
  rw [← hL] at hel hvs hput hvl hseal hpk hbl hx lo hi ⊢
  obtain ⟨M, hM⟩ : ∃ M, M = 8 * L := ⟨_, rfl⟩
  rw [← hM] at hx hbl ⊢
  have hM0 : 64 ≤ M := by omega
  have hM1 : M ≤ 40960 := by omega
  obtain ⟨V, hV⟩ : ∃ V, V = vput L := ⟨_, rfl⟩
  obtain ⟨m, hm⟩ : ∃ m, m = vsize L := ⟨_, rfl⟩
  rw [← hV] at hput hvl hseal
  rw [← hm] at hel hvs hput hvl hseal
  obtain ⟨us, hus⟩ : ∃ us, us = (bb fs).map b01 := ⟨_, rfl⟩
  rw [← hus] at hpk hbl
  have hnx : ∀ j x, (bb fs)[j]? = some x → us.take (j + 1) = us.take j ++ [b01 x] := fun j x h => by
    rw [List.take_add_one, hus, List.getElem?_map, h]; rfl
  have hdiv : (M : Int) / 8 = (L : Int) := by omega
  have hul : IntKind.u64.wrap (L : Int) = (L : Int) := IntWalk.u64_in _ (by omega)
  have Hel := Lib.hid hel
  have Hput := Lib.hid hput
  have Hseal := Lib.hid hseal
  have Hpk := Lib.hid hpk
  have Hbl := Lib.hid hbl
  have Hvl := Lib.hid hvl
  have HL := Lib.hid hL
  have HM := Lib.hid hM
  have Hnx := Lib.hid hnx
  have Hx := Lib.hid hx
  clear hel hput hseal hpk hbl hvl hL hM hV hm hus hnx hx hE hu
  go_enter Try.func24, Try.ntmps24
  go_wp2_with fail
  go_loopw [3, 4] (fun y i wr => ∃ (j : Nat) (A' : Option Addr) (c' : Nat), j ≤ M ∧ i = .int .i64 (j : Int) ∧ y = .slice A' j c' ∧ Own .u64 38 wr w.heap.size A' c' (us.take j) ∧ Ext w wr ∧ w.heap.size ≤ wr.heap.size) (fun _ i _ => M - (intOf i).toNat)
  case atStart => exact ⟨0, _, 0, Nat.zero_le _, rfl, rfl, Own.made .u64 38 w (Nat.le_refl _), (Ext.refl _).alloc _, by simp⟩
  case round =>
    obtain ⟨j, A', c', hj, rfl, rfl, hO, hE, hz⟩ := hrel
    by_cases hlt : j < M
    · obtain ⟨b, o, x, rfl, hb, hxj, hcell⟩ := (Hx.out.ext hE).atB hlt
      have Ht := Lib.hid (Hnx.out j x hxj)
      have Hl := Lib.hid (show (us.take j).length = j by rw [List.length_take, Hbl.out]; omega)
      have HO := Lib.hid hO
      clear hO hxj
      cases x with
      | true =>
        go_wp2_with (at_builtin; refine wpList_push .u64 1 38 rfl _ _ 63 rfl _ 8 Try.underlying63 Try.infoU64 rfl HO.out j Hl.out rfl rfl rfl (by omega) (by omega) hE hz ?_; intro A3 c3 w3 hO3 hE3 hz3)
        go_roundw
        case rel => exact ⟨j + 1, A3, c3, hlt, by go_num, rfl, by rw [Ht.out]; exact hO3, hE3, hz3⟩
        case measure => simp [intOf]; omega
      | false =>
        go_wp2_with (at_builtin; refine wpList_push .u64 0 38 rfl _ _ 63 rfl _ 8 Try.underlying63 Try.infoU64 rfl HO.out j Hl.out rfl rfl rfl (by omega) (by omega) hE hz ?_; intro A3 c3 w3 hO3 hE3 hz3)
        go_roundw
        case rel => exact ⟨j + 1, A3, c3, hlt, by go_num, rfl, by rw [Ht.out]; exact hO3, hE3, hz3⟩
        case measure => simp [intOf]; omega
    · obtain rfl : j = M := by omega
      rw [List.take_of_length_le (by rw [Hbl.out]; exact Nat.le_refl _)] at hO
      obtain ⟨g, rfl, hg1, hg2, hg3, hg4⟩ := hO.form (by rw [Hbl.out]; omega)
      rw [Hbl.out] at hg3
      obtain ⟨wP, hwP⟩ : ∃ wP, wP = wr := ⟨_, rfl⟩
      subst hwP
      have HO := Lib.hid hO
      clear hO
      go_wp2_with fail
      refine (Hput.out _).mono ?_
      rintro e w2 ⟨A2, c2, rfl, hown2, he2⟩
      have hz2 := he2.size
      go_wp2_with fail
      go_loopw [5, 6] (fun y i wr => ∃ (q N : Nat) (A5 : Option Addr) (c5 : Nat), q ≤ L ∧ N = 8 * q ∧ i = .int .i64 (N : Int) ∧ y = .slice A5 (m + q : Nat) c5 ∧ Own .u8 5 wr wP.heap.size A5 c5 (V ++ fs.take q) ∧ Ext wP wr ∧ wP.heap.size ≤ wr.heap.size) (fun _ i _ => j - (intOf i).toNat)
      case atStart => exact ⟨0, 0, A2, c2, Nat.zero_le _, rfl, rfl, rfl, by rw [List.take_zero, List.append_nil]; exact hown2, he2, hz2⟩
      case round =>
        obtain ⟨q, N, A5, c5, hq, hN, rfl, rfl, hO5, hE5, hz5⟩ := hrel
        have HN := Lib.hid hN
        by_cases hql : q < L
        · have hNj : N + 8 ≤ j := by have := HM.out; omega
          have hsl := run_cut64 g j c' N (N + 8) (by omega) (by omega)
          rw [Nat.add_sub_cancel_left] at hsl
          have hcN : ((N + 8 : Nat) : Int) = (N : Int) + 8 := by omega
          rw [hcN] at hsl
          have hrd8 : Rd .u64 wr (some ⟨g, N, none⟩) 8 (cut us (8 * q) 8) := by
            have h0 := (HO.out.ext hE5).rd
            refine ⟨cut_len (by rw [Hbl.out]; omega), fun _ => ?_⟩
            obtain ⟨b, o, e, hb, hc⟩ := h0.2 (by rw [Hbl.out]; omega)
            injection e with e
            injection e with e1 e2
            subst e1 e2
            refine ⟨g, N, rfl, hb, fun i hi => ?_⟩
            have := hc (N + i) (by rw [Hbl.out]; omega)
            rw [Nat.zero_add] at this
            rw [this, cut_at hi, HN.out]
          have HP := Lib.hid (Hpk.out q hql _ (c' - N) _ hrd8)
          have Hfx := Lib.hid (take_next fs q (by rw [← HL.out]; exact hql))
          obtain ⟨x, hx⟩ : ∃ x, x = fs.getD q 0 := ⟨_, rfl⟩
          rw [← hx] at HP Hfx
          have Hl5 := Lib.hid (show (V ++ fs.take q).length = m + q by rw [List.length_append, Hvl.out, List.length_take, ← HL.out]; omega)
          have HO5 := Lib.hid hO5
          have HE5 := Lib.hid hE5
          clear hrd8 hx hO5 hE5 hcN hN
          go_wp2_with fail
          refine HP.out.mono ?_
          rintro e w6 ⟨A6, c6, rfl, hown6, he6⟩
          obtain ⟨b6, o6, rfl, hb6, hc6⟩ := hown6.rd.at_ (j := 0) (by simp)
          have hc60 : w6.cell? ⟨b6, o6, none⟩ = some (.int .u8 (x : Int)) := hc6
          have HO6 := Lib.hid (HO5.out.ext he6)
          have HE6 := Lib.hid (HE5.out.trans he6)
          have hz6 := he6.size
          clear hc6 hown6
          go_wp2_with (at_builtin; refine wpList_push .u8 x 5 rfl _ _ 23 rfl _ 1 Try.underlying23 Try.infoU8 rfl HO6.out (m + q) Hl5.out rfl rfl rfl (by omega) (by omega) HE6.out (by omega) ?_; intro A7 c7 w7 hO7 hE7 hz7)
          go_roundw
          case rel => exact ⟨q + 1, N + 8, A7, c7, hql, by have := HN.out; omega, by go_num, rfl, by rw [Hfx.out, ← List.append_assoc]; exact hO7, hE7, hz7⟩
          case measure => simp [intOf]; omega
        · obtain rfl : q = L := by omega
          have hNj : N = j := by have := HM.out; have := HN.out; omega
          subst hNj
          rw [List.take_of_length_le (by rw [← HL.out]; exact Nat.le_refl _)] at hO5
          have Hl5 := Lib.hid (show (V ++ fs).length = m + q by rw [List.length_append, Hvl.out, ← HL.out])
          have HS := Lib.hid (Hseal.out A5 c5 wr (hO5.rd' Hl5.out))
          have HE5 := Lib.hid hE5
          clear hO5 hE5 hN
          go_wp2_with fail
          refine HS.out.mono ?_
          rintro e w8 ⟨A8, c8, rfl, hown8, he8⟩
          go_wp2_with fail
          go_ret
          have hEw := hE.trans HE5.out
          exact ⟨A8, c8, by rw [Hel.out]; rfl, hown8.mono hEw.size, hEw.trans he8⟩

end Go.Proofs.Ytgmjpilinhmjoaa
