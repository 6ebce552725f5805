/-
  Layer 13: the reference's Add, Has, Count.
-/
import Derived.Test.YtgmjpilinhmjoaaQ14
namespace Go.Proofs.Ytgmjpilinhmjoaa
open Go.RowKit
set_option maxRecDepth 100000

def BitsRow (fs : List Nat) (w : World) (base : Nat) (e : Ending) (w' : World) : Prop :=
  ∃ A' c', e = .returned (.slice A' (8 * fs.length : Nat) c') ∧ OwnG shB 4 w' base A' c' (bb fs) ∧ Ext w w'

theorem bb_take {bs : List Bool} {j : Nat} {x : Bool} (h : bs[j]? = some x) : bs.take (j + 1) = bs.take j ++ [x] := by rw [List.take_add_one, h]; rfl

set_option maxHeartbeats 4000000 in
theorem refAdd_any (A : Option Addr) (c : Nat) (fs : List Nat) (A2 : Option Addr) (n2 c2 : Nat) (key : List Nat) (w : World) (hx : RdG shB w A (8 * fs.length) (bb fs)) (lo : 8 ≤ fs.length) (hi : fs.length ≤ 5120) (hy : Rd .u8 w A2 n2 key) (hu : U8 key) (hn2 : n2 ≤ 281474976710656) :
    Calls Try.prog 14 #[.slice A (8 * fs.length : Nat) c, .slice A2 n2 c2] w (BitsRow (addF fs key) w w.heap.size) := by
  have hlen : (addF fs key).length = fs.length := addF_len _ _
  unfold BitsRow
  rw [hlen]
  obtain ⟨M, hM⟩ : ∃ M, M = 8 * fs.length := ⟨_, rfl⟩
  have hF : addF fs key = addK fs (fnv key) M (List.range 6) := by rw [hM]; rfl
  have hbl : (bb fs).length = M := by rw [bb_len, hM]
  have hM0 : 0 < M := by omega
  have hM1 : M ≤ 40960 := by omega
  rw [← hM] at hx ⊢
  have hplace : ∀ (j : Nat) (W : World), j ≤ 5 → Ext w W → Calls Try.prog 33 #[.slice A2 n2 c2, .int .i64 (j : Int), .int .i64 (M : Int)] W fun e w' => e = .returned (.int .i64 (kk (fnv key) M j : Nat)) ∧ W = w' := fun j W hj hW => place_any A2 n2 c2 j M key W (hy.ext hW) hu hn2 hj hM0 (by omega)
  have hbs : ∀ j, bb (addK fs (fnv key) M (List.range (j + 1))) = (bb (addK fs (fnv key) M (List.range j))).set (kk (fnv key) M j) true := fun j => by
    rw [List.range_succ, addK_snoc, bb_setB (by rw [addK_len, ← hM]; exact kk_lt hM0)]
  have hkl : ∀ j, kk (fnv key) M j < M := fun j => kk_lt hM0
  have hbl2 : ∀ j, (bb (addK fs (fnv key) M (List.range j))).length = M := fun j => by rw [bb_len, addK_len, hM]
  have HF := Lib.hid hF
  have Hbl := Lib.hid hbl
  have Hp := Lib.hid hplace
  have Hbs := Lib.hid hbs
  have Hbl2 := Lib.hid hbl2
  have Hx := Lib.hid hx
  clear hM hF hbl hplace hbs hbl2 hx hy hu hlen
  go_enter Try.func14, Try.ntmps14
  go_wp2_with fail
  go_loopw [5, 6] (fun y i wr => ∃ (j : Nat) (A' : Option Addr) (c' : Nat), j ≤ M ∧ i = .int .i64 (j : Int) ∧ y = .slice A' j c' ∧ OwnG shB 4 wr w.heap.size A' c' ((bb fs).take j) ∧ Ext w wr ∧ w.heap.size ≤ wr.heap.size) (fun _ i _ => M - (intOf i).toNat)
  case atStart => exact ⟨0, _, 0, Nat.zero_le _, rfl, rfl, OwnG.made shB 4 w (Nat.le_refl _), (Ext.refl _).alloc _, by simp⟩
  case round =>
    obtain ⟨j, A', c', hj, rfl, rfl, hO, hE, hz⟩ := hrel
    by_cases hlt : j < M
    · obtain ⟨b, o, x, rfl, hb, hxj, hcell⟩ := (Hx.out.ext hE).atB hlt
      have Ht := Lib.hid (bb_take hxj)
      have Hl := Lib.hid (show ((bb fs).take j).length = j by rw [List.length_take, Hbl.out]; omega)
      have HO := Lib.hid hO
      clear hO hxj
      go_wp2_with (at_builtin; refine wpList_pushG (w0 := w) (base := w.heap.size) shB x 4 rfl _ _ 27 rfl _ 1 Try.underlying27 Try.infoBool rfl (by decide) (HO.out.ext ((Ext.refl _).alloc _)) j Hl.out rfl rfl (heap_alloc_new _ _) (by omega) (by omega) (Below.alloc hE hz _) (by simp; omega) ?_; intro A3 c3 w3 hO3 _ hE3 hz3)
      go_roundw
      case rel => exact ⟨j + 1, A3, c3, hlt, by go_num, rfl, by rw [Ht.out]; exact hO3, hE3, hz3⟩
      case measure => simp [intOf]; omega
    · obtain rfl : j = M := by omega
      rw [List.take_of_length_le (by rw [Hbl.out]; exact Nat.le_refl _)] at hO
      obtain ⟨b, x, rfl, hb1, hb2, _⟩ := hO.atB (j := 0) (by rw [Hbl.out]; exact hM0)
      have hge : (0 : Int) < (j : Int) := by omega
      go_wp2_with fail
      go_loopw [7] (fun i wr => ∃ q : Nat, q ≤ 6 ∧ i = .int .i64 (q : Int) ∧ OwnG shB 4 wr w.heap.size (some ⟨b, 0, none⟩) c' (bb (addK fs (fnv key) j (List.range q))) ∧ Ext w wr) (fun i _ => 6 - (intOf i).toNat)
      case atStart => exact ⟨0, by omega, rfl, hO, hE⟩
      case round =>
        obtain ⟨q, hq, rfl, hO1, hE1⟩ := hrel
        by_cases hq6 : q < 6
        · have hk := hkl q
          have HP := Lib.hid (Hp.out q _ (by omega) hE1)
          have Hs := Lib.hid (Hbs.out q)
          obtain ⟨K, hK⟩ : ∃ K, K = kk (fnv key) j q := ⟨_, rfl⟩
          rw [← hK] at hk HP Hs
          obtain ⟨b', y, e', hb3, hb4, hy', hcell, hfr, hset⟩ := hO1.atB (j := K) (by rw [Hbl2.out]; exact hk)
          injection e' with e'
          injection e' with e1
          subst e1
          obtain ⟨hO2, hg2⟩ := hset true
          rw [← Hs.out] at hO2
          have hE2 : Ext w (wr.setCell ⟨b, K, none⟩ (.bool true)) := grownBy_ext hE1 hg2 (fun x e => by have e2 : b = x := Option.some.inj e; omega)
          have HO2 := Lib.hid hO2
          have HE2 := Lib.hid hE2
          clear hO1 hO2 hE2 hset hg2 hO hE hK
          go_wp2_with fail
          refine HP.out.mono ?_
          rintro e w2 ⟨rfl, rfl⟩
          go_wp2_with fail
          go_roundw
          case rel => exact ⟨q + 1, hq6, by go_num, HO2.out, HE2.out⟩
          case measure => simp [intOf]; omega
        · obtain rfl : q = 6 := by omega
          rw [← HF.out] at hO1
          go_wp2
          go_ret
          exact ⟨_, c', rfl, hO1, hE1⟩

set_option maxHeartbeats 2000000 in
theorem refHas_any (A : Option Addr) (c : Nat) (fs : List Nat) (A2 : Option Addr) (n2 c2 : Nat) (key : List Nat) (w : World) (hx : RdG shB w A (8 * fs.length) (bb fs)) (lo : 8 ≤ fs.length) (hi : fs.length ≤ 5120) (hy : Rd .u8 w A2 n2 key) (hu : U8 key) (hn2 : n2 ≤ 281474976710656) :
    Calls Try.prog 19 #[.slice A (8 * fs.length : Nat) c, .slice A2 n2 c2] w fun e w' => e = .returned (.bool (hasF fs key)) ∧ w = w' := by
  obtain ⟨M, hM⟩ : ∃ M, M = 8 * fs.length := ⟨_, rfl⟩
  have hM0 : 0 < M := by omega
  have hM1 : M ≤ 40960 := by omega
  rw [← hM] at hx ⊢
  have hplace : ∀ (j : Nat), j ≤ 5 → Calls Try.prog 33 #[.slice A2 n2 c2, .int .i64 (j : Int), .int .i64 (M : Int)] w fun e w' => e = .returned (.int .i64 (kk (fnv key) M j : Nat)) ∧ w = w' := fun j hj => place_any A2 n2 c2 j M key w hy hu hn2 hj hM0 (by omega)
  have hkl : ∀ j, kk (fnv key) M j < M := fun j => kk_lt hM0
  have hno : ∀ j, j < 6 → tb fs (kk (fnv key) M j) = false → hasF fs key = false := fun j hj h => hasF_no (i := j) (by simpa using hj) (by rw [← hM]; exact h)
  have hyes : (∀ i, i < 6 → tb fs (kk (fnv key) M i) = true) → hasF fs key = true := fun h => hasF_yes (fun i hi => by rw [← hM]; exact h i (by simpa using hi))
  have hget : ∀ k x, k < M → (bb fs)[k]? = some x → x = tb fs k := fun k x hk h => by
    rw [bb_get (by rw [← hM]; exact hk)] at h
    exact (Option.some.inj h).symm
  have Hp := Lib.hid hplace
  have Hno := Lib.hid hno
  have Hyes := Lib.hid hyes
  have Hget := Lib.hid hget
  have Hx := Lib.hid hx
  clear hM hplace hno hyes hget hx hy hu
  have hne : ((M : Int) == 0) = false := beq_eq_false_iff_ne.2 (by omega)
  go_enter Try.func19, Try.ntmps19
  go_wp2_with fail
  go_loop [5] (fun i => ∃ q : Nat, q ≤ 6 ∧ i = .int .i64 (q : Int) ∧ (∀ i, i < q → tb fs (kk (fnv key) M i) = true)) (fun i => 6 - (intOf i).toNat)
  case atStart => exact ⟨0, by omega, rfl, fun i hi => absurd hi (by omega)⟩
  case round =>
    obtain ⟨q, hq, rfl, hall⟩ := hrel
    have Hall := Lib.hid hall
    clear hall
    by_cases hq6 : q < 6
    · have hk := hkl q
      have HP := Lib.hid (Hp.out q (by omega))
      have Hn := Lib.hid (Hno.out q hq6)
      obtain ⟨b, o, x, rfl, hb, hxj, hcell⟩ := Hx.out.atB hk
      have Hxx := Lib.hid (Hget.out _ x hk hxj)
      obtain ⟨K, hK⟩ : ∃ K, K = kk (fnv key) M q := ⟨_, rfl⟩
      rw [← hK] at hk HP Hn hcell Hxx
      have HK := Lib.hid hK
      clear hxj hK
      cases x with
      | true =>
        go_wp2_with fail
        refine HP.out.mono ?_
        rintro e w2 ⟨rfl, rfl⟩
        go_wp2_with fail
        go_round
        case rel =>
          refine ⟨q + 1, hq6, by go_num, fun i hi => ?_⟩
          by_cases h : i < q
          · exact Hall.out i h
          · obtain rfl : i = q := by omega
            rw [← HK.out]; exact Hxx.out.symm
        case measure => simp [intOf]; omega
      | false =>
        go_wp2_with fail
        refine HP.out.mono ?_
        rintro e w2 ⟨rfl, rfl⟩
        go_wp2_with fail
        go_ret
        exact ⟨by rw [Hn.out Hxx.out.symm]; rfl, rfl⟩
    · obtain rfl : q = 6 := by omega
      go_wp2
      go_ret
      exact ⟨by rw [Hyes.out Hall.out]; rfl, rfl⟩

theorem bb_cons (x : Nat) (fs : List Nat) : bb (x :: fs) = (List.range 8).map (fun i => x.testBit i) ++ bb fs := by
  unfold bb
  rw [List.length_cons, show 8 * (fs.length + 1) = 8 + 8 * fs.length by omega, List.range_add, List.map_append, List.map_map]
  congr 1
  · refine List.map_congr_left fun i _ => ?_
    show tb (x :: fs) (8 + i) = tb fs i
    unfold tb
    rw [show (8 + i) / 8 = i / 8 + 1 by omega, show (8 + i) % 8 = i % 8 by omega]; rfl
def ct (bs : List Bool) : Nat := (bs.filter id).length
theorem ct_bb : ∀ fs : List Nat, ct (bb fs) = countF fs := by
  intro fs
  induction fs with
  | nil => rfl
  | cons x fs ih =>
    rw [bb_cons]
    unfold ct at ih ⊢
    rw [List.filter_append, List.length_append, ih, List.filter_map, List.length_map]
    rfl
theorem ct_le (bs : List Bool) : ct bs ≤ bs.length := List.length_filter_le _ _

set_option maxHeartbeats 2000000 in
theorem refCount_any (A : Option Addr) (c : Nat) (fs : List Nat) (w : World) (hx : RdG shB w A (8 * fs.length) (bb fs)) (hi : fs.length ≤ 5120) :
    Calls Try.prog 17 #[.slice A (8 * fs.length : Nat) c] w fun e w' => e = .returned (.int .i64 (countF fs : Nat)) ∧ w = w' := by
  have hbl := bb_len fs
  have hc := ct_bb fs
  obtain ⟨M, hM⟩ : ∃ M, M = 8 * fs.length := ⟨_, rfl⟩
  have hM1 : M ≤ 40960 := by omega
  obtain ⟨bs, hbs⟩ : ∃ bs, bs = bb fs := ⟨_, rfl⟩
  rw [← hM, ← hbs] at hx
  rw [← hM, ← hbs] at hbl
  rw [← hbs] at hc
  rw [← hM, ← hc]
  have Hbl := Lib.hid hbl
  have Hx := Lib.hid hx
  clear hM hbl hc hbs hx
  go_enter Try.func17, Try.ntmps17
  go_wp2_with fail
  go_loop [3, 4] (fun s i => ∃ j : Nat, j ≤ M ∧ i = .int .i64 (j : Int) ∧ s = .int .i64 (ct (bs.take j) : Nat)) (fun _ i => M - (intOf i).toNat)
  case atStart => exact ⟨0, Nat.zero_le _, rfl, rfl⟩
  case round =>
    obtain ⟨j, hj, rfl, rfl⟩ := hrel
    by_cases hlt : j < M
    · obtain ⟨b, o, x, rfl, hb, hxj, hcell⟩ := Hx.out.atB hlt
      have hnext : ct (bs.take (j + 1)) = ct (bs.take j) + (if x then 1 else 0) := by
        rw [bb_take hxj]
        unfold ct
        rw [List.filter_append, List.length_append]
        cases x <;> rfl
      have hle := ct_le (bs.take j)
      have hle2 : (bs.take j).length ≤ 40960 := by rw [List.length_take]; omega
      obtain ⟨S, hS⟩ : ∃ S, S = ct (bs.take j) := ⟨_, rfl⟩
      rw [← hS] at hnext hle ⊢
      have hS2 : S ≤ 40960 := by omega
      have Hn := Lib.hid hnext
      clear hnext hle hle2 hS hxj
      cases x with
      | true =>
        go_wp2_with fail
        go_round
        case rel => exact ⟨j + 1, hlt, by go_num, by rw [Hn.out]; go_num⟩
        case measure => simp [intOf]; omega
      | false =>
        go_wp2_with fail
        go_round
        case rel => exact ⟨j + 1, hlt, by go_num, by rw [Hn.out]; rfl⟩
        case measure => simp [intOf]; omega
    · obtain rfl : j = M := by omega
      rw [List.take_of_length_le (Nat.le_of_eq Hbl.out)]
      go_wp2
      go_ret
      exact ⟨rfl, rfl⟩

end Go.Proofs.Ytgmjpilinhmjoaa
