/-
  Layer 13: lists of texts cut; the law's model.
-/
import Derived.Test.YtgmjpilinhmjoaaQ20
namespace Go.Proofs.Ytgmjpilinhmjoaa
open Go.RowKit
set_option maxRecDepth 100000

theorem Try.elemT : Try.prog.elem 22 = 23 := by kernel_rfl
theorem run_sizeT (w : World) : (sizeOf (Try.prog.elem 22)).run Try.prog w = .ok 1 w := by
  obtain ⟨i, hi0, hz, hsz, hbs⟩ := info_parts Try.infoS
  rw [Try.elemT]
  simp [sizeOf, typeInfo, hi0, hsz]
theorem Try.underSlT : Try.prog.underlying 22 = some (.slice (Try.prog.elem 22)) := by kernel_rfl
theorem run_uptoT (A : Option Addr) (n c k : Nat) (hk : k ≤ c) : ∀ W : World, (Instr.slice 22 (.slice A n c) none (some (.int .i64 (k : Int))) none).run Try.prog W = .ok (.slice A k c) W := by
  intro W
  rw [run_slice_h W _ A n c Try.underSlT .i64 k (by omega) (by omega), run_sizeT]
  simp only [Result.andThen, sliced, Int.toNat_natCast, Nat.mul_one, Nat.sub_zero]
  congr 1
  split
  · rfl
  · cases A with
    | none => rfl
    | some a => simp [Addr.add]
theorem run_fromT (A : Option Addr) (n c k : Nat) (hk : k ≤ n) : ∀ W : World, (Instr.slice 22 (.slice A n c) (some (.int .i64 (k : Int))) none none).run Try.prog W = .ok (.slice (offA A k c) (n - k : Nat) (c - k : Nat)) W := by
  intro W
  rw [run_slice_l W _ A n c Try.underSlT .i64 k (by omega) (by omega), run_sizeT]
  simp only [Result.andThen, sliced, Int.toNat_natCast, Nat.mul_one]
  rfl
theorem TxL.upto {w : World} {A : Option Addr} {n k : Nat} {ss : List Sl} (h : TxL w A n ss) (hk : k ≤ n) : TxL w A k (ss.take k) := by
  refine ⟨⟨by rw [List.length_take, h.len]; omega, fun hn => ?_⟩, fun s hs => h.each s (List.mem_of_mem_take hs)⟩
  obtain ⟨b, o, e, hb, hc⟩ := h.rd.2 (by omega)
  refine ⟨b, o, e, hb, fun j s hj => ?_⟩
  refine hc j s ?_
  have hjk : j < k := by
    have := (List.getElem?_eq_some_iff.1 hj).1
    rw [List.length_take] at this
    omega
  rwa [List.getElem?_take_of_lt hjk] at hj
theorem TxL.offA {w : World} {A : Option Addr} {n k m : Nat} {ss : List Sl} (h : TxL w A n ss) (hk : k ≤ n) (hm : n ≤ m) : TxL w (offA A k m) (n - k) (ss.drop k) := by
  refine ⟨⟨by rw [List.length_drop, h.len], fun hn => ?_⟩, fun s hs => h.each s (List.mem_of_mem_drop hs)⟩
  obtain ⟨b, o, rfl, hb, hc⟩ := h.rd.2 (by omega)
  refine ⟨b, o + k, by unfold Go.Proofs.Ytgmjpilinhmjoaa.offA; rw [if_neg (by omega)]; simp [Addr.add], hb, fun j s hj => ?_⟩
  rw [List.getElem?_drop] at hj
  rw [Nat.add_assoc]
  exact hc (k + j) s hj
theorem bodies_drop (ss : List Sl) (j : Nat) : bodies (ss.drop j) = (bodies ss).drop j := List.map_drop ..

/-- The keys as they are handed to Add all at once. -/
theorem TxL.rdss {w : World} {A : Option Addr} {n : Nat} {ss : List Sl} (h : TxL w A n ss) : RdSS w A n (bodies ss) := by
  refine ⟨by rw [bodies_len, h.len], fun hn => ?_⟩
  obtain ⟨b, o, e, hb, hc⟩ := h.rd.2 hn
  refine ⟨b, o, e, hb, fun j hj => ?_⟩
  have hjl : j < ss.length := by rw [h.len]; exact hj
  have hj2 : ss[j]? = some ss[j] := List.getElem?_eq_getElem hjl
  have hti := h.each ss[j] (List.getElem_mem _)
  refine ⟨ss[j].A, ss[j].body.length, ss[j].c, hc j _ hj2, ?_⟩
  rw [bodies_get hj2]
  exact hti.rd
theorem TxL.u8s {w : World} {A : Option Addr} {n : Nat} {ss : List Sl} (h : TxL w A n ss) : U8s (bodies ss) := by
  intro xs hxs
  obtain ⟨s, hs, rfl⟩ := List.mem_map.1 hxs
  exact (h.each s hs).u8

set_option maxHeartbeats 2000000 in
theorem model_any (n : Int) (A : Option Addr) (m c : Nat) (ss : List Sl) (w : World) (h1 : -9223372036854775808 ≤ n) (h2 : n ≤ 9223372036854775807) (hx : TxL w A m ss) (hm : m ≤ 5900000000000) :
    Calls Try.prog 30 #[.int .i64 n, .slice A m c] w fun e w' => ∃ A' c', e = .returned (.slice A' (8 * newLen n : Nat) c') ∧ OwnG shB 4 w' w.heap.size A' c' (bb (addAll (zeros n) (bodies ss))) ∧ Ext w w' := by
  have hlen := hx.len
  have hlo := newLen_lo n
  have hhi := newLen_hi n
  have hnewr : ∀ W, Calls Try.prog 9 #[.int .i64 n] W fun e w' => ∃ A' c', e = .returned (.slice A' (8 * newLen n : Nat) c') ∧ OwnG shB 4 w' W.heap.size A' c' (bb (zeros n)) ∧ Ext W w' := fun W => by
    rw [bb_zeros]; exact refNew_any n W h1 h2
  have hal : ∀ ks, (addAll (zeros n) ks).length = newLen n := fun ks => by rw [addAll_len, zeros_len]
  obtain ⟨Z, hZ⟩ : ∃ Z, Z = zeros n := ⟨_, rfl⟩
  obtain ⟨L, hL⟩ : ∃ L, L = newLen n := ⟨_, rfl⟩
  rw [← hZ, ← hL] at hnewr hal
  rw [← hL] at hlo hhi
  rw [← hZ, ← hL]
  obtain ⟨M, hM⟩ : ∃ M, M = 8 * L := ⟨_, rfl⟩
  rw [← hM] at hnewr ⊢
  have Hnr := Lib.hid hnewr
  have Hal := Lib.hid hal
  have HM := Lib.hid hM
  have Hx := Lib.hid hx
  have Hlen := Lib.hid hlen
  clear hZ hL hnewr hal hM hx hlen
  go_enter Try.func30, Try.ntmps30
  go_wp2_with fail
  refine (Hnr.out w).mono ?_
  rintro e w1 ⟨A1, c1, rfl, hown1, he1⟩
  go_wp2_with fail
  go_loopw [5, 12] (fun y i wr => ∃ (j : Nat) (A' : Option Addr) (c' : Nat), j ≤ m ∧ i = .int .i64 (j : Int) ∧ y = .slice A' M c' ∧ OwnG shB 4 wr w.heap.size A' c' (bb (addAll Z ((bodies ss).take j))) ∧ Ext w wr) (fun _ i _ => m - (intOf i).toNat)
  case atStart => exact ⟨0, A1, c1, Nat.zero_le _, rfl, rfl, hown1, he1⟩
  case round =>
    obtain ⟨j, A', c', hj, rfl, rfl, hO, hE⟩ := hrel
    by_cases hlt : j < m
    · obtain ⟨b, o, s, rfl, hs, hcell, hti⟩ := (Hx.out.ext hE).at_ hlt
      have hbl : (bodies ss).length = m := by rw [bodies_len, Hlen.out]
      have hnext : addAll Z ((bodies ss).take (j + 1)) = addF (addAll Z ((bodies ss).take j)) s.body := by
        rw [take_nextL _ _ (by omega), addAll_snoc, bodies_get hs]
      have hl := hti.len
      have hfl := Hal.out ((bodies ss).take j)
      obtain ⟨F, hFe⟩ : ∃ F, F = addAll Z ((bodies ss).take j) := ⟨_, rfl⟩
      rw [← hFe] at hO hnext hfl
      have hadd : Hid (Calls Try.prog 14 #[.slice A' M c', .slice s.A s.body.length s.c] wr fun e w' => ∃ A'' c'', e = .returned (.slice A'' M c'') ∧ OwnG shB 4 w' wr.heap.size A'' c'' (bb (addF F s.body)) ∧ Ext wr w') := Lib.hid (by
        have hMF : M = 8 * F.length := by rw [HM.out, hfl]
        have hr := hO.rd
        rw [bb_len, ← hMF] at hr
        have := refAdd_any A' c' F s.A s.body.length s.c s.body wr (by rw [← hMF]; exact hr) (by rw [hfl]; exact hlo) (by rw [hfl]; exact hhi) hti.rd hti.u8 (by omega)
        unfold BitsRow at this
        rw [addF_len, ← hMF] at this
        exact this)
      have Hnext := Lib.hid hnext
      have HE := Lib.hid hE
      clear hO hti hnext hFe hfl hbl hs hE
      go_wp2_with fail
      refine hadd.out.mono ?_
      rintro e w7 ⟨A7, c7, rfl, hO7, he7⟩
      rw [← Hnext.out] at hO7
      go_wp2_with fail
      go_roundw
      case rel => exact ⟨j + 1, A7, c7, hlt, by go_num, rfl, hO7.mono HE.out.size, HE.out.trans he7⟩
      case measure => simp [intOf]; omega
    · obtain rfl : j = m := by omega
      rw [List.take_of_length_le (by rw [bodies_len, Hlen.out]; exact Nat.le_refl _)] at hO
      go_wp2
      go_ret
      exact ⟨A', c', rfl, hO, hE⟩

end Go.Proofs.Ytgmjpilinhmjoaa
