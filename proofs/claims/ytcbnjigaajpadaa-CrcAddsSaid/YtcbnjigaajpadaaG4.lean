import Derived.Test.YtcbnjigaajpadaaG3

/-
  Layer 3: the law of added sums, one of three cases.
-/
namespace Go.Proofs.Ytcbnjigaajpadaa
open Go.RowKit

set_option maxHeartbeats 3200000 in
theorem crcAdds_n1 (A : Option Addr) (n c : Nat) (xs : List Nat) (A2 : Option Addr) (n2 c2 : Nat) (ys : List Nat) (A3 : Option Addr) (n3 c3 : Nat) (zs : List Nat) (w : World) (hx : Rd .u8 w A n xs) (hu : U8 xs) (hn : n ≤ 140737488351232) (hy : Rd .u8 w A2 n2 ys) (hv : U8 ys) (hn2 : n2 ≤ 140737488351232)
    (hz : Rd .u8 w A3 n3 zs) (ht : U8 zs) (hn3 : n3 ≤ 140737488351232) (hc : n ≤ c) (hc2 : n2 ≤ c2) (hc3 : n3 ≤ c3) (h12 : n ≤ n2) (h13 : n ≤ n3) :
    Calls Try.prog 7 #[.slice A n c, .slice A2 n2 c2, .slice A3 n3 c3] w fun e w' => e = .returned (.bool true) ∧ Ext w w' := by
  obtain ⟨m, hm⟩ : ∃ m, m = n := ⟨_, rfl⟩
  have hm1 : m ≤ n := by omega
  have hm2 : m ≤ n2 := by omega
  have hm3 : m ≤ n3 := by omega
  have hmc1 : m ≤ c := by omega
  have hmc2 : m ≤ c2 := by omega
  have hmc3 : m ≤ c3 := by omega
  have hlx : (xs.take m).length = m := by rw [List.length_take, hx.len]; omega
  have hly : (ys.take m).length = m := by rw [List.length_take, hy.len]; omega
  have hlz : (zs.take m).length = m := by rw [List.length_take, hz.len]; omega
  have hsum := crc_xor3 (u8_take hu m) (u8_take hv m) (u8_take ht m) (hly.trans hlx.symm) (hlz.trans hlx.symm)
  have hxl := xor3_len (hly.trans hlx.symm) (hlz.trans hlx.symm)
  have hxu := xor3_u8 (u8_take hu m) (u8_take hv m) (u8_take ht m)
  have h1l := crc_lt (u8_take hu m)
  have h2l := crc_lt (u8_take hv m)
  have h3l := crc_lt (u8_take ht m)
  have hlex : xs.length = n := hx.len
  have hley : ys.length = n2 := hy.len
  have hlez : zs.length = n3 := hz.len
  have Hsum := Lib.hid hsum
  have Hxl := Lib.hid (hxl.trans hlx)
  have Hlx := Lib.hid hlx
  have Hly := Lib.hid hly
  have Hlz := Lib.hid hlz
  have Hex := Lib.hid hlex
  have Hey := Lib.hid hley
  have Hez := Lib.hid hlez
  have Hm := Lib.hid hm
  clear hsum hxl hlx hly hlz hlex hley hlez hm
  go_enter Try.func7, Try.ntmps7
  go_wp2_with fail
  refine (alive3 _).mono ?_
  rintro e w1 ⟨rfl, he1⟩
  have hx1 := hx.ext he1
  have hy1 := hy.ext he1
  have hz1 := hz.ext he1
  clear hx hy hz
  go_wp2_with fail
  rw [← Hm.out]
  go_loopw [8, 9] (fun v i wr => ∃ (j : Nat) (A' : Option Addr) (c' : Nat), j ≤ m ∧ i = .int .i64 j ∧ v = .slice A' j c' ∧ Own .u8 5 wr w1.heap.size A' c' (xor3 (xs.take j) (ys.take j) (zs.take j)) ∧ Below w1.heap.size w1 wr) (fun _ i _ => m - (intOf i).toNat)
  case atStart => exact ⟨0, _, _, Nat.zero_le _, rfl, rfl, Own.made _ _ _ (Nat.le_refl _), (Ext.refl w1).alloc _⟩
  case round =>
    obtain ⟨j, A', c', hj, rfl, rfl, hown, hb⟩ := hrel
    have hsz := hb.size
    by_cases hlt : j < m
    · obtain ⟨b1, o1, rfl, hl1, hc1⟩ := hx1.at_ (show j < n by omega)
      obtain ⟨b2, o2, rfl, hl2, hc2'⟩ := hy1.at_ (show j < n2 by omega)
      obtain ⟨b3, o3, rfl, hl3, hc3'⟩ := hz1.at_ (show j < n3 by omega)
      have hnx := xor3_take (x := xs) (y := ys) (z := zs) (j := j) (by have := Hex.out; omega) (by have := Hey.out; omega) (by have := Hez.out; omega)
      have htl : (xor3 (xs.take j) (ys.take j) (zs.take j)).length = j := by
        rw [xor3_len (by rw [List.length_take, List.length_take, Hex.out, Hey.out]; omega) (by rw [List.length_take, List.length_take, Hex.out, Hez.out]; omega), List.length_take, Hex.out]; omega
      have hv1 := hu.at_ j
      have hv2 := hv.at_ j
      have hv3 := ht.at_ j
      obtain ⟨x, hx'⟩ : ∃ x, x = xs.getD j 0 := ⟨_, rfl⟩
      obtain ⟨y, hy'⟩ : ∃ x, x = ys.getD j 0 := ⟨_, rfl⟩
      obtain ⟨z, hz'⟩ : ∃ x, x = zs.getD j 0 := ⟨_, rfl⟩
      rw [← hx'] at hc1 hv1 hnx
      rw [← hy'] at hc2' hv2 hnx
      rw [← hz'] at hc3' hv3 hnx
      have K1 : Hid (∀ w', Below w1.heap.size w1 w' → w'.cell? ⟨b1, o1 + j, none⟩ = some (.int .u8 (x : Int))) := Lib.hid (fun w' h => (Below.cell h (p := ⟨b1, o1 + j, none⟩) hl1).trans hc1)
      have K2 : Hid (∀ w', Below w1.heap.size w1 w' → w'.cell? ⟨b2, o2 + j, none⟩ = some (.int .u8 (y : Int))) := Lib.hid (fun w' h => (Below.cell h (p := ⟨b2, o2 + j, none⟩) hl2).trans hc2')
      have K3 : Hid (∀ w', Below w1.heap.size w1 w' → w'.cell? ⟨b3, o3 + j, none⟩ = some (.int .u8 (z : Int))) := Lib.hid (fun w' h => (Below.cell h (p := ⟨b3, o3 + j, none⟩) hl3).trans hc3')
      have g1 := K1.out _ hb
      have g2 := K2.out _ hb
      have g3 := K3.out _ hb
      clear hc1 hc2' hc3'
      have hxy : x ^^^ y < 256 := Nat.xor_lt_two_pow (n := 8) hv1 hv2
      have e1 : bits .xor .u8 (x : Int) (y : Int) = ((x ^^^ y : Nat) : Int) := u8_xor_nat _ _ hv1 hv2
      have e2 : bits .xor .u8 ((x ^^^ y : Nat) : Int) (z : Int) = ((x ^^^ y ^^^ z : Nat) : Int) := u8_xor_nat _ _ hxy hv3
      have hji1 : (j : Int) < (n : Int) := by omega
      have hji2 : (j : Int) < (n2 : Int) := by omega
      have hji3 : (j : Int) < (n3 : Int) := by omega
      have hj0 : (0 : Int) ≤ (j : Int) := by omega
      have Hnx := Lib.hid hnx
      have Htl := Lib.hid htl
      clear hx' hy' hz' hnx htl
      obtain ⟨t1, ht1⟩ : ∃ t, t = x ^^^ y := ⟨_, rfl⟩
      rw [← ht1] at e1 e2 hxy
      obtain ⟨t2, ht2⟩ : ∃ t, t = t1 ^^^ z := ⟨_, rfl⟩
      rw [← ht2] at e2
      have Ht2 := Lib.hid (show t2 = x ^^^ y ^^^ z by rw [ht2, ht1])
      clear ht1 ht2
      go_wp2_with fail
      go_region_held3 (fun w' => w'.cell? ⟨b1, o1 + j, none⟩ = some (.int .u8 (x : Int)) ∧ w'.cell? ⟨b2, o2 + j, none⟩ = some (.int .u8 (y : Int)) ∧ w'.cell? ⟨b3, o3 + j, none⟩ = some (.int .u8 (z : Int)))
        (first | exact ⟨K1.out _ hb1, K2.out _ hb1, K3.out _ hb1⟩ | exact ⟨K1.out _ ((Ext.trans hb ((Ext.refl wr).alloc (.cells #[.int .u8 (t2 : Int)] 5))).drew), K2.out _ ((Ext.trans hb ((Ext.refl wr).alloc (.cells #[.int .u8 (t2 : Int)] 5))).drew), K3.out _ ((Ext.trans hb ((Ext.refl wr).alloc (.cells #[.int .u8 (t2 : Int)] 5))).drew)⟩ | exact ⟨g1, g2, g3⟩)
        ((refine step_push (w0 := w1) .u8 t2 5 (by rfl) _ _ 22 (by rfl) _ 1 Try.underlying22 Try.infoU8 rfl (hown.ext ((Ext.refl _).alloc _).drew) j Htl.out (by rfl) (by rfl) (cell_of_row _ _ 0 _ _ (0, 0) (heap_alloc_new wr _)) (by omega) (by omega) (Ext.drew (a := w1) (Below.alloc hb hsz (.cells #[.int .u8 (t2 : Int)] 5))) (by simp; omega) ?_; intro A1 c1 w5 hown1 hb1 hz1))
      clear g1 g2 g3
      rw [Ht2.out, ← Hnx.out] at hown1
      go_wp2_with fail
      go_roundw
      case rel => exact ⟨j + 1, A1, c1, by omega, by go_num, rfl, hown1, hb1⟩
      case measure => simp [intOf]; omega
    · obtain rfl : j = m := by omega
      obtain ⟨hcap, _⟩ := hown.cap
      have hrd := hown.rd' Hxl.out
      have hX1 := (hx1.ext hb).take_any hm1
      have hY1 := (hy1.ext hb).take_any hm2
      have hZ1 := (hz1.ext hb).take_any hm3
      have hle1 : (xs.take j).length ≤ 180000000000000 := by have := Hlx.out; omega
      have hle2 : (ys.take j).length ≤ 180000000000000 := by have := Hly.out; omega
      have hle3 : (zs.take j).length ≤ 180000000000000 := by have := Hlz.out; omega
      have hle0 : (xor3 (xs.take j) (ys.take j) (zs.take j)).length ≤ 180000000000000 := by have := Hxl.out; omega
      have huX := u8_take hu j
      have huY := u8_take hv j
      have huZ := u8_take ht j
      clear hown
      obtain ⟨X, hX⟩ : ∃ X, X = xs.take j := ⟨_, rfl⟩
      obtain ⟨Y, hY⟩ : ∃ X, X = ys.take j := ⟨_, rfl⟩
      obtain ⟨Z, hZ⟩ : ∃ X, X = zs.take j := ⟨_, rfl⟩
      rw [← hX] at hrd hX1 hle1 hle0 h1l hxu Hsum huX
      rw [← hY] at hrd hY1 hle2 hle0 h2l hxu Hsum huY
      rw [← hZ] at hrd hZ1 hle3 hle0 h3l hxu Hsum huZ
      clear hX hY hZ Hlx Hly Hlz Hxl
      obtain ⟨T, hT⟩ : ∃ T, T = xor3 X Y Z := ⟨_, rfl⟩
      rw [← hT] at hrd hle0 hxu Hsum
      clear hT
      obtain ⟨S1, hS1⟩ : ∃ S, S = crc X := ⟨_, rfl⟩
      obtain ⟨S2, hS2⟩ : ∃ S, S = crc Y := ⟨_, rfl⟩
      obtain ⟨S3, hS3⟩ : ∃ S, S = crc Z := ⟨_, rfl⟩
      rw [← hS1] at h1l Hsum
      rw [← hS2] at h2l Hsum
      rw [← hS3] at h3l Hsum
      have HS1 := Lib.hid hS1
      have HS2 := Lib.hid hS2
      have HS3 := Lib.hid hS3
      have e1 : bits .xor .u32 (S1 : Int) (S2 : Int) = ((S1 ^^^ S2 : Nat) : Int) := u32_xor_nat _ _ h1l h2l
      have e2 : bits .xor .u32 ((S1 ^^^ S2 : Nat) : Int) (S3 : Int) = ((S1 ^^^ S2 ^^^ S3 : Nat) : Int) := u32_xor_nat _ _ (xor_lt32 h1l h2l) h3l
      clear hS1 hS2 hS3
      have hi1 : (j : Int) ≤ (c : Int) := by omega
      have hi2 : (j : Int) ≤ (c2 : Int) := by omega
      have hi3 : (j : Int) ≤ (c3 : Int) := by omega
      have hj0 : (0 : Int) ≤ (j : Int) := by omega
      go_wp2_with fail
      refine wp_region_posts (by kernel_rfl) (by kernel_rfl) (fun k => ((addW (.slice A' j c') (.slice A j c) (.slice A2 n2 c2) (.slice A3 n3 c3) (.slice A j c) (.slice A2 j c2) (.slice A3 j c3) (.int .i64 (j : Int)) (.int .u32 ((S1 ^^^ S2 ^^^ S3 : Nat) : Int)) (.int .u32 (S1 : Int)) (.int .u32 (S2 : Int)) (.int .u32 ((S1 ^^^ S2 : Nat) : Int)) (.int .u32 (S3 : Int))) k).ok 22) (fun _ _ _ _ h he => Lv.stable h he) ?hstep ?hdone
      case hstep =>
        intro i o a w2 hi hE hun hdep K hK
        have h8 : a.eval (.tmp 8) = Value.slice A' j c' := (hun 8 (notDst_spec (by kernel_rfl))).trans rfl
        have h0 : a.eval (.tmp 0) = Value.slice A j c := (hun 0 (notDst_spec (by kernel_rfl))).trans rfl
        have h7 : a.eval (.tmp 7) = Value.int .i64 (j : Int) := (hun 7 (notDst_spec (by kernel_rfl))).trans rfl
        have h1 : a.eval (.tmp 1) = Value.slice A2 n2 c2 := (hun 1 (notDst_spec (by kernel_rfl))).trans rfl
        have h2 : a.eval (.tmp 2) = Value.slice A3 n3 c3 := (hun 2 (notDst_spec (by kernel_rfl))).trans rfl
        have hlt2 : i < 22 := (Array.getElem?_eq_some_iff.1 hi).1
        rcases (show i = 0 ∨ i = 1 ∨ i = 2 ∨ i = 3 ∨ i = 4 ∨ i = 5 ∨ i = 6 ∨ i = 7 ∨ i = 8 ∨ i = 9 ∨ i = 10 ∨ i = 11 ∨ i = 12 ∨ i = 13 ∨ i = 14 ∨ i = 15 ∨ i = 16 ∨ i = 17 ∨ i = 18 ∨ i = 19 ∨ i = 20 ∨ i = 21 by omega) with rfl | rfl | rfl | rfl | rfl | rfl | rfl | rfl | rfl | rfl | rfl | rfl | rfl | rfl | rfl | rfl | rfl | rfl | rfl | rfl | rfl | rfl
        · simp only [List.getElem?_toArray, List.getElem?_cons_zero, List.getElem?_cons_succ, Option.some.injEq] at hi; subst hi
          exact op_val rfl rfl (o_move rfl) (hK _ _ (Ext.refl _) h8)
        · simp only [List.getElem?_toArray, List.getElem?_cons_zero, List.getElem?_cons_succ, Option.some.injEq] at hi; subst hi
          have d0 := hdep ⟨0, .data⟩ (by simp) rfl _ 42 rfl rfl
          exact op_val rfl rfl (o_row rfl d0) (hK _ _ ((Ext.refl _).alloc _) ⟨_, rfl, heap_alloc_new _ _⟩)
        · simp only [List.getElem?_toArray, List.getElem?_cons_zero, List.getElem?_cons_succ, Option.some.injEq] at hi; subst hi
          have d1 := hdep ⟨1, .data⟩ (by simp) rfl _ 43 rfl rfl
          obtain ⟨g, q1, q2⟩ := d1
          refine op_by rfl rfl (o_call (S := S1 ^^^ S2 ^^^ S3) rfl q1 ?_ (hK _ _ (Ext.refl _) rfl))
          rw [← Hsum.out]
          exact sum1_any _ T _ (RdSS.of_block q2 (hrd.ext hE)) hxu hle0
        · simp only [List.getElem?_toArray, List.getElem?_cons_zero, List.getElem?_cons_succ, Option.some.injEq] at hi; subst hi
          exact op_val rfl rfl (o_move rfl) (hK _ _ (Ext.refl _) h0)
        · simp only [List.getElem?_toArray, List.getElem?_cons_zero, List.getElem?_cons_succ, Option.some.injEq] at hi; subst hi
          exact op_val rfl rfl (o_move rfl) (hK _ _ (Ext.refl _) h7)
        · simp only [List.getElem?_toArray, List.getElem?_cons_zero, List.getElem?_cons_succ, Option.some.injEq] at hi; subst hi
          have d3 := hdep ⟨3, .data⟩ (by simp) rfl _ 45 rfl rfl
          have d4 := hdep ⟨4, .data⟩ (by simp) rfl _ 46 rfl rfl
          exact op_val rfl rfl (o_slice rfl d3 d4 hj0 hi1) (hK _ _ (Ext.refl _) rfl)
        · simp only [List.getElem?_toArray, List.getElem?_cons_zero, List.getElem?_cons_succ, Option.some.injEq] at hi; subst hi
          have d5 := hdep ⟨5, .data⟩ (by simp) rfl _ 47 rfl rfl
          exact op_val rfl rfl (o_row rfl d5) (hK _ _ ((Ext.refl _).alloc _) ⟨_, rfl, heap_alloc_new _ _⟩)
        · simp only [List.getElem?_toArray, List.getElem?_cons_zero, List.getElem?_cons_succ, Option.some.injEq] at hi; subst hi
          have d6 := hdep ⟨6, .data⟩ (by simp) rfl _ 48 rfl rfl
          obtain ⟨g, q1, q2⟩ := d6
          refine op_by rfl rfl (o_call (S := S1) rfl q1 ?_ (hK _ _ (Ext.refl _) rfl))
          rw [HS1.out]
          exact sum1_any _ X _ (RdSS.of_block q2 (hX1.ext hE)) huX hle1
        · simp only [List.getElem?_toArray, List.getElem?_cons_zero, List.getElem?_cons_succ, Option.some.injEq] at hi; subst hi
          exact op_val rfl rfl (o_move rfl) (hK _ _ (Ext.refl _) h1)
        · simp only [List.getElem?_toArray, List.getElem?_cons_zero, List.getElem?_cons_succ, Option.some.injEq] at hi; subst hi
          exact op_val rfl rfl (o_move rfl) (hK _ _ (Ext.refl _) h7)
        · simp only [List.getElem?_toArray, List.getElem?_cons_zero, List.getElem?_cons_succ, Option.some.injEq] at hi; subst hi
          have d8 := hdep ⟨8, .data⟩ (by simp) rfl _ 50 rfl rfl
          have d9 := hdep ⟨9, .data⟩ (by simp) rfl _ 51 rfl rfl
          exact op_val rfl rfl (o_slice rfl d8 d9 hj0 hi2) (hK _ _ (Ext.refl _) rfl)
        · simp only [List.getElem?_toArray, List.getElem?_cons_zero, List.getElem?_cons_succ, Option.some.injEq] at hi; subst hi
          have d10 := hdep ⟨10, .data⟩ (by simp) rfl _ 52 rfl rfl
          exact op_val rfl rfl (o_row rfl d10) (hK _ _ ((Ext.refl _).alloc _) ⟨_, rfl, heap_alloc_new _ _⟩)
        · simp only [List.getElem?_toArray, List.getElem?_cons_zero, List.getElem?_cons_succ, Option.some.injEq] at hi; subst hi
          have d11 := hdep ⟨11, .data⟩ (by simp) rfl _ 53 rfl rfl
          obtain ⟨g, q1, q2⟩ := d11
          refine op_by rfl rfl (o_call (S := S2) rfl q1 ?_ (hK _ _ (Ext.refl _) rfl))
          rw [HS2.out]
          exact sum1_any _ Y _ (RdSS.of_block q2 (hY1.ext hE)) huY hle2
        · simp only [List.getElem?_toArray, List.getElem?_cons_zero, List.getElem?_cons_succ, Option.some.injEq] at hi; subst hi
          have d7 := hdep ⟨7, .data⟩ (by simp) rfl _ 49 rfl rfl
          have d12 := hdep ⟨12, .data⟩ (by simp) rfl _ 54 rfl rfl
          exact op_val rfl rfl (o_xor rfl d7 d12 e1) (hK _ _ (Ext.refl _) rfl)
        · simp only [List.getElem?_toArray, List.getElem?_cons_zero, List.getElem?_cons_succ, Option.some.injEq] at hi; subst hi
          exact op_val rfl rfl (o_move rfl) (hK _ _ (Ext.refl _) h2)
        · simp only [List.getElem?_toArray, List.getElem?_cons_zero, List.getElem?_cons_succ, Option.some.injEq] at hi; subst hi
          exact op_val rfl rfl (o_move rfl) (hK _ _ (Ext.refl _) h7)
        · simp only [List.getElem?_toArray, List.getElem?_cons_zero, List.getElem?_cons_succ, Option.some.injEq] at hi; subst hi
          have d14 := hdep ⟨14, .data⟩ (by simp) rfl _ 56 rfl rfl
          have d15 := hdep ⟨15, .data⟩ (by simp) rfl _ 57 rfl rfl
          exact op_val rfl rfl (o_slice rfl d14 d15 hj0 hi3) (hK _ _ (Ext.refl _) rfl)
        · simp only [List.getElem?_toArray, List.getElem?_cons_zero, List.getElem?_cons_succ, Option.some.injEq] at hi; subst hi
          have d16 := hdep ⟨16, .data⟩ (by simp) rfl _ 58 rfl rfl
          exact op_val rfl rfl (o_row rfl d16) (hK _ _ ((Ext.refl _).alloc _) ⟨_, rfl, heap_alloc_new _ _⟩)
        · simp only [List.getElem?_toArray, List.getElem?_cons_zero, List.getElem?_cons_succ, Option.some.injEq] at hi; subst hi
          have d17 := hdep ⟨17, .data⟩ (by simp) rfl _ 59 rfl rfl
          obtain ⟨g, q1, q2⟩ := d17
          refine op_by rfl rfl (o_call (S := S3) rfl q1 ?_ (hK _ _ (Ext.refl _) rfl))
          rw [HS3.out]
          exact sum1_any _ Z _ (RdSS.of_block q2 (hZ1.ext hE)) huZ hle3
        · simp only [List.getElem?_toArray, List.getElem?_cons_zero, List.getElem?_cons_succ, Option.some.injEq] at hi; subst hi
          have d13 := hdep ⟨13, .data⟩ (by simp) rfl _ 55 rfl rfl
          have d18 := hdep ⟨18, .data⟩ (by simp) rfl _ 60 rfl rfl
          exact op_val rfl rfl (o_xor rfl d13 d18 e2) (hK _ _ (Ext.refl _) rfl)
        · simp only [List.getElem?_toArray, List.getElem?_cons_zero, List.getElem?_cons_succ, Option.some.injEq] at hi; subst hi
          have d2 := hdep ⟨2, .data⟩ (by simp) rfl _ 44 rfl rfl
          have d19 := hdep ⟨19, .data⟩ (by simp) rfl _ 61 rfl rfl
          exact op_val rfl rfl (o_eql rfl d2 d19) (hK _ _ (Ext.refl _) rfl)
        · simp only [List.getElem?_toArray, List.getElem?_cons_zero, List.getElem?_cons_succ, Option.some.injEq] at hi; subst hi
          have d20 := hdep ⟨20, .data⟩ (by simp) rfl _ 62 rfl rfl
          exact op_val rfl rfl (o_assign rfl) (hK _ _ (Ext.refl _) d20)
      case hdone =>
        intro a w2 hE hdf hsz hun hP
        have h6 : a.eval (.tmp 6) = .bool true := hP 21 _ 6 rfl rfl
        clear hun hP
        go_wp2_with fail
        have h6' : a.tmps[6]?.getD undef = .bool true := by
          rw [← h6]
          simp [Act.eval, Array.getD_eq_getD_getElem?]
        refine bodyPost_ret (v := .bool true) (by simp [results, Try.results7, go_sem, h6']) hdf ?_
        exact ⟨rfl, (he1.trans hb).trans hE⟩

end Go.Proofs.Ytcbnjigaajpadaa

/-
  Layer 3: the law of added sums, one of three cases.
-/
namespace Go.Proofs.Ytcbnjigaajpadaa
open Go.RowKit

set_option maxHeartbeats 3200000 in
theorem crcAdds_n2 (A : Option Addr) (n c : Nat) (xs : List Nat) (A2 : Option Addr) (n2 c2 : Nat) (ys : List Nat) (A3 : Option Addr) (n3 c3 : Nat) (zs : List Nat) (w : World) (hx : Rd .u8 w A n xs) (hu : U8 xs) (hn : n ≤ 140737488351232) (hy : Rd .u8 w A2 n2 ys) (hv : U8 ys) (hn2 : n2 ≤ 140737488351232)
    (hz : Rd .u8 w A3 n3 zs) (ht : U8 zs) (hn3 : n3 ≤ 140737488351232) (hc : n ≤ c) (hc2 : n2 ≤ c2) (hc3 : n3 ≤ c3) (h12 : n2 < n) (h23 : n2 ≤ n3) :
    Calls Try.prog 7 #[.slice A n c, .slice A2 n2 c2, .slice A3 n3 c3] w fun e w' => e = .returned (.bool true) ∧ Ext w w' := by
  obtain ⟨m, hm⟩ : ∃ m, m = n2 := ⟨_, rfl⟩
  have hm1 : m ≤ n := by omega
  have hm2 : m ≤ n2 := by omega
  have hm3 : m ≤ n3 := by omega
  have hmc1 : m ≤ c := by omega
  have hmc2 : m ≤ c2 := by omega
  have hmc3 : m ≤ c3 := by omega
  have hlx : (xs.take m).length = m := by rw [List.length_take, hx.len]; omega
  have hly : (ys.take m).length = m := by rw [List.length_take, hy.len]; omega
  have hlz : (zs.take m).length = m := by rw [List.length_take, hz.len]; omega
  have hsum := crc_xor3 (u8_take hu m) (u8_take hv m) (u8_take ht m) (hly.trans hlx.symm) (hlz.trans hlx.symm)
  have hxl := xor3_len (hly.trans hlx.symm) (hlz.trans hlx.symm)
  have hxu := xor3_u8 (u8_take hu m) (u8_take hv m) (u8_take ht m)
  have h1l := crc_lt (u8_take hu m)
  have h2l := crc_lt (u8_take hv m)
  have h3l := crc_lt (u8_take ht m)
  have hlex : xs.length = n := hx.len
  have hley : ys.length = n2 := hy.len
  have hlez : zs.length = n3 := hz.len
  have Hsum := Lib.hid hsum
  have Hxl := Lib.hid (hxl.trans hlx)
  have Hlx := Lib.hid hlx
  have Hly := Lib.hid hly
  have Hlz := Lib.hid hlz
  have Hex := Lib.hid hlex
  have Hey := Lib.hid hley
  have Hez := Lib.hid hlez
  have Hm := Lib.hid hm
  clear hsum hxl hlx hly hlz hlex hley hlez hm
  go_enter Try.func7, Try.ntmps7
  go_wp2_with fail
  refine (alive3 _).mono ?_
  rintro e w1 ⟨rfl, he1⟩
  have hx1 := hx.ext he1
  have hy1 := hy.ext he1
  have hz1 := hz.ext he1
  clear hx hy hz
  go_wp2_with fail
  rw [← Hm.out]
  go_loopw [8, 9] (fun v i wr => ∃ (j : Nat) (A' : Option Addr) (c' : Nat), j ≤ m ∧ i = .int .i64 j ∧ v = .slice A' j c' ∧ Own .u8 5 wr w1.heap.size A' c' (xor3 (xs.take j) (ys.take j) (zs.take j)) ∧ Below w1.heap.size w1 wr) (fun _ i _ => m - (intOf i).toNat)
  case atStart => exact ⟨0, _, _, Nat.zero_le _, rfl, rfl, Own.made _ _ _ (Nat.le_refl _), (Ext.refl w1).alloc _⟩
  case round =>
    obtain ⟨j, A', c', hj, rfl, rfl, hown, hb⟩ := hrel
    have hsz := hb.size
    by_cases hlt : j < m
    · obtain ⟨b1, o1, rfl, hl1, hc1⟩ := hx1.at_ (show j < n by omega)
      obtain ⟨b2, o2, rfl, hl2, hc2'⟩ := hy1.at_ (show j < n2 by omega)
      obtain ⟨b3, o3, rfl, hl3, hc3'⟩ := hz1.at_ (show j < n3 by omega)
      have hnx := xor3_take (x := xs) (y := ys) (z := zs) (j := j) (by have := Hex.out; omega) (by have := Hey.out; omega) (by have := Hez.out; omega)
      have htl : (xor3 (xs.take j) (ys.take j) (zs.take j)).length = j := by
        rw [xor3_len (by rw [List.length_take, List.length_take, Hex.out, Hey.out]; omega) (by rw [List.length_take, List.length_take, Hex.out, Hez.out]; omega), List.length_take, Hex.out]; omega
      have hv1 := hu.at_ j
      have hv2 := hv.at_ j
      have hv3 := ht.at_ j
      obtain ⟨x, hx'⟩ : ∃ x, x = xs.getD j 0 := ⟨_, rfl⟩
      obtain ⟨y, hy'⟩ : ∃ x, x = ys.getD j 0 := ⟨_, rfl⟩
      obtain ⟨z, hz'⟩ : ∃ x, x = zs.getD j 0 := ⟨_, rfl⟩
      rw [← hx'] at hc1 hv1 hnx
      rw [← hy'] at hc2' hv2 hnx
      rw [← hz'] at hc3' hv3 hnx
      have K1 : Hid (∀ w', Below w1.heap.size w1 w' → w'.cell? ⟨b1, o1 + j, none⟩ = some (.int .u8 (x : Int))) := Lib.hid (fun w' h => (Below.cell h (p := ⟨b1, o1 + j, none⟩) hl1).trans hc1)
      have K2 : Hid (∀ w', Below w1.heap.size w1 w' → w'.cell? ⟨b2, o2 + j, none⟩ = some (.int .u8 (y : Int))) := Lib.hid (fun w' h => (Below.cell h (p := ⟨b2, o2 + j, none⟩) hl2).trans hc2')
      have K3 : Hid (∀ w', Below w1.heap.size w1 w' → w'.cell? ⟨b3, o3 + j, none⟩ = some (.int .u8 (z : Int))) := Lib.hid (fun w' h => (Below.cell h (p := ⟨b3, o3 + j, none⟩) hl3).trans hc3')
      have g1 := K1.out _ hb
      have g2 := K2.out _ hb
      have g3 := K3.out _ hb
      clear hc1 hc2' hc3'
      have hxy : x ^^^ y < 256 := Nat.xor_lt_two_pow (n := 8) hv1 hv2
      have e1 : bits .xor .u8 (x : Int) (y : Int) = ((x ^^^ y : Nat) : Int) := u8_xor_nat _ _ hv1 hv2
      have e2 : bits .xor .u8 ((x ^^^ y : Nat) : Int) (z : Int) = ((x ^^^ y ^^^ z : Nat) : Int) := u8_xor_nat _ _ hxy hv3
      have hji1 : (j : Int) < (n : Int) := by omega
      have hji2 : (j : Int) < (n2 : Int) := by omega
      have hji3 : (j : Int) < (n3 : Int) := by omega
      have hj0 : (0 : Int) ≤ (j : Int) := by omega
      have Hnx := Lib.hid hnx
      have Htl := Lib.hid htl
      clear hx' hy' hz' hnx htl
      obtain ⟨t1, ht1⟩ : ∃ t, t = x ^^^ y := ⟨_, rfl⟩
      rw [← ht1] at e1 e2 hxy
      obtain ⟨t2, ht2⟩ : ∃ t, t = t1 ^^^ z := ⟨_, rfl⟩
      rw [← ht2] at e2
      have Ht2 := Lib.hid (show t2 = x ^^^ y ^^^ z by rw [ht2, ht1])
      clear ht1 ht2
      go_wp2_with fail
      go_region_held3 (fun w' => w'.cell? ⟨b1, o1 + j, none⟩ = some (.int .u8 (x : Int)) ∧ w'.cell? ⟨b2, o2 + j, none⟩ = some (.int .u8 (y : Int)) ∧ w'.cell? ⟨b3, o3 + j, none⟩ = some (.int .u8 (z : Int)))
        (first | exact ⟨K1.out _ hb1, K2.out _ hb1, K3.out _ hb1⟩ | exact ⟨K1.out _ ((Ext.trans hb ((Ext.refl wr).alloc (.cells #[.int .u8 (t2 : Int)] 5))).drew), K2.out _ ((Ext.trans hb ((Ext.refl wr).alloc (.cells #[.int .u8 (t2 : Int)] 5))).drew), K3.out _ ((Ext.trans hb ((Ext.refl wr).alloc (.cells #[.int .u8 (t2 : Int)] 5))).drew)⟩ | exact ⟨g1, g2, g3⟩)
        ((refine step_push (w0 := w1) .u8 t2 5 (by rfl) _ _ 22 (by rfl) _ 1 Try.underlying22 Try.infoU8 rfl (hown.ext ((Ext.refl _).alloc _).drew) j Htl.out (by rfl) (by rfl) (cell_of_row _ _ 0 _ _ (0, 0) (heap_alloc_new wr _)) (by omega) (by omega) (Ext.drew (a := w1) (Below.alloc hb hsz (.cells #[.int .u8 (t2 : Int)] 5))) (by simp; omega) ?_; intro A1 c1 w5 hown1 hb1 hz1))
      clear g1 g2 g3
      rw [Ht2.out, ← Hnx.out] at hown1
      go_wp2_with fail
      go_roundw
      case rel => exact ⟨j + 1, A1, c1, by omega, by go_num, rfl, hown1, hb1⟩
      case measure => simp [intOf]; omega
    · obtain rfl : j = m := by omega
      obtain ⟨hcap, _⟩ := hown.cap
      have hrd := hown.rd' Hxl.out
      have hX1 := (hx1.ext hb).take_any hm1
      have hY1 := (hy1.ext hb).take_any hm2
      have hZ1 := (hz1.ext hb).take_any hm3
      have hle1 : (xs.take j).length ≤ 180000000000000 := by have := Hlx.out; omega
      have hle2 : (ys.take j).length ≤ 180000000000000 := by have := Hly.out; omega
      have hle3 : (zs.take j).length ≤ 180000000000000 := by have := Hlz.out; omega
      have hle0 : (xor3 (xs.take j) (ys.take j) (zs.take j)).length ≤ 180000000000000 := by have := Hxl.out; omega
      have huX := u8_take hu j
      have huY := u8_take hv j
      have huZ := u8_take ht j
      clear hown
      obtain ⟨X, hX⟩ : ∃ X, X = xs.take j := ⟨_, rfl⟩
      obtain ⟨Y, hY⟩ : ∃ X, X = ys.take j := ⟨_, rfl⟩
      obtain ⟨Z, hZ⟩ : ∃ X, X = zs.take j := ⟨_, rfl⟩
      rw [← hX] at hrd hX1 hle1 hle0 h1l hxu Hsum huX
      rw [← hY] at hrd hY1 hle2 hle0 h2l hxu Hsum huY
      rw [← hZ] at hrd hZ1 hle3 hle0 h3l hxu Hsum huZ
      clear hX hY hZ Hlx Hly Hlz Hxl
      obtain ⟨T, hT⟩ : ∃ T, T = xor3 X Y Z := ⟨_, rfl⟩
      rw [← hT] at hrd hle0 hxu Hsum
      clear hT
      obtain ⟨S1, hS1⟩ : ∃ S, S = crc X := ⟨_, rfl⟩
      obtain ⟨S2, hS2⟩ : ∃ S, S = crc Y := ⟨_, rfl⟩
      obtain ⟨S3, hS3⟩ : ∃ S, S = crc Z := ⟨_, rfl⟩
      rw [← hS1] at h1l Hsum
      rw [← hS2] at h2l Hsum
      rw [← hS3] at h3l Hsum
      have HS1 := Lib.hid hS1
      have HS2 := Lib.hid hS2
      have HS3 := Lib.hid hS3
      have e1 : bits .xor .u32 (S1 : Int) (S2 : Int) = ((S1 ^^^ S2 : Nat) : Int) := u32_xor_nat _ _ h1l h2l
      have e2 : bits .xor .u32 ((S1 ^^^ S2 : Nat) : Int) (S3 : Int) = ((S1 ^^^ S2 ^^^ S3 : Nat) : Int) := u32_xor_nat _ _ (xor_lt32 h1l h2l) h3l
      clear hS1 hS2 hS3
      have hi1 : (j : Int) ≤ (c : Int) := by omega
      have hi2 : (j : Int) ≤ (c2 : Int) := by omega
      have hi3 : (j : Int) ≤ (c3 : Int) := by omega
      have hj0 : (0 : Int) ≤ (j : Int) := by omega
      go_wp2_with fail
      refine wp_region_posts (by kernel_rfl) (by kernel_rfl) (fun k => ((addW (.slice A' j c') (.slice A n c) (.slice A2 j c2) (.slice A3 n3 c3) (.slice A j c) (.slice A2 j c2) (.slice A3 j c3) (.int .i64 (j : Int)) (.int .u32 ((S1 ^^^ S2 ^^^ S3 : Nat) : Int)) (.int .u32 (S1 : Int)) (.int .u32 (S2 : Int)) (.int .u32 ((S1 ^^^ S2 : Nat) : Int)) (.int .u32 (S3 : Int))) k).ok 22) (fun _ _ _ _ h he => Lv.stable h he) ?hstep ?hdone
      case hstep =>
        intro i o a w2 hi hE hun hdep K hK
        have h8 : a.eval (.tmp 8) = Value.slice A' j c' := (hun 8 (notDst_spec (by kernel_rfl))).trans rfl
        have h0 : a.eval (.tmp 0) = Value.slice A n c := (hun 0 (notDst_spec (by kernel_rfl))).trans rfl
        have h7 : a.eval (.tmp 7) = Value.int .i64 (j : Int) := (hun 7 (notDst_spec (by kernel_rfl))).trans rfl
        have h1 : a.eval (.tmp 1) = Value.slice A2 j c2 := (hun 1 (notDst_spec (by kernel_rfl))).trans rfl
        have h2 : a.eval (.tmp 2) = Value.slice A3 n3 c3 := (hun 2 (notDst_spec (by kernel_rfl))).trans rfl
        have hlt2 : i < 22 := (Array.getElem?_eq_some_iff.1 hi).1
        rcases (show i = 0 ∨ i = 1 ∨ i = 2 ∨ i = 3 ∨ i = 4 ∨ i = 5 ∨ i = 6 ∨ i = 7 ∨ i = 8 ∨ i = 9 ∨ i = 10 ∨ i = 11 ∨ i = 12 ∨ i = 13 ∨ i = 14 ∨ i = 15 ∨ i = 16 ∨ i = 17 ∨ i = 18 ∨ i = 19 ∨ i = 20 ∨ i = 21 by omega) with rfl | rfl | rfl | rfl | rfl | rfl | rfl | rfl | rfl | rfl | rfl | rfl | rfl | rfl | rfl | rfl | rfl | rfl | rfl | rfl | rfl | rfl
        · simp only [List.getElem?_toArray, List.getElem?_cons_zero, List.getElem?_cons_succ, Option.some.injEq] at hi; subst hi
          exact op_val rfl rfl (o_move rfl) (hK _ _ (Ext.refl _) h8)
        · simp only [List.getElem?_toArray, List.getElem?_cons_zero, List.getElem?_cons_succ, Option.some.injEq] at hi; subst hi
          have d0 := hdep ⟨0, .data⟩ (by simp) rfl _ 42 rfl rfl
          exact op_val rfl rfl (o_row rfl d0) (hK _ _ ((Ext.refl _).alloc _) ⟨_, rfl, heap_alloc_new _ _⟩)
        · simp only [List.getElem?_toArray, List.getElem?_cons_zero, List.getElem?_cons_succ, Option.some.injEq] at hi; subst hi
          have d1 := hdep ⟨1, .data⟩ (by simp) rfl _ 43 rfl rfl
          obtain ⟨g, q1, q2⟩ := d1
          refine op_by rfl rfl (o_call (S := S1 ^^^ S2 ^^^ S3) rfl q1 ?_ (hK _ _ (Ext.refl _) rfl))
          rw [← Hsum.out]
          exact sum1_any _ T _ (RdSS.of_block q2 (hrd.ext hE)) hxu hle0
        · simp only [List.getElem?_toArray, List.getElem?_cons_zero, List.getElem?_cons_succ, Option.some.injEq] at hi; subst hi
          exact op_val rfl rfl (o_move rfl) (hK _ _ (Ext.refl _) h0)
        · simp only [List.getElem?_toArray, List.getElem?_cons_zero, List.getElem?_cons_succ, Option.some.injEq] at hi; subst hi
          exact op_val rfl rfl (o_move rfl) (hK _ _ (Ext.refl _) h7)
        · simp only [List.getElem?_toArray, List.getElem?_cons_zero, List.getElem?_cons_succ, Option.some.injEq] at hi; subst hi
          have d3 := hdep ⟨3, .data⟩ (by simp) rfl _ 45 rfl rfl
          have d4 := hdep ⟨4, .data⟩ (by simp) rfl _ 46 rfl rfl
          exact op_val rfl rfl (o_slice rfl d3 d4 hj0 hi1) (hK _ _ (Ext.refl _) rfl)
        · simp only [List.getElem?_toArray, List.getElem?_cons_zero, List.getElem?_cons_succ, Option.some.injEq] at hi; subst hi
          have d5 := hdep ⟨5, .data⟩ (by simp) rfl _ 47 rfl rfl
          exact op_val rfl rfl (o_row rfl d5) (hK _ _ ((Ext.refl _).alloc _) ⟨_, rfl, heap_alloc_new _ _⟩)
        · simp only [List.getElem?_toArray, List.getElem?_cons_zero, List.getElem?_cons_succ, Option.some.injEq] at hi; subst hi
          have d6 := hdep ⟨6, .data⟩ (by simp) rfl _ 48 rfl rfl
          obtain ⟨g, q1, q2⟩ := d6
          refine op_by rfl rfl (o_call (S := S1) rfl q1 ?_ (hK _ _ (Ext.refl _) rfl))
          rw [HS1.out]
          exact sum1_any _ X _ (RdSS.of_block q2 (hX1.ext hE)) huX hle1
        · simp only [List.getElem?_toArray, List.getElem?_cons_zero, List.getElem?_cons_succ, Option.some.injEq] at hi; subst hi
          exact op_val rfl rfl (o_move rfl) (hK _ _ (Ext.refl _) h1)
        · simp only [List.getElem?_toArray, List.getElem?_cons_zero, List.getElem?_cons_succ, Option.some.injEq] at hi; subst hi
          exact op_val rfl rfl (o_move rfl) (hK _ _ (Ext.refl _) h7)
        · simp only [List.getElem?_toArray, List.getElem?_cons_zero, List.getElem?_cons_succ, Option.some.injEq] at hi; subst hi
          have d8 := hdep ⟨8, .data⟩ (by simp) rfl _ 50 rfl rfl
          have d9 := hdep ⟨9, .data⟩ (by simp) rfl _ 51 rfl rfl
          exact op_val rfl rfl (o_slice rfl d8 d9 hj0 hi2) (hK _ _ (Ext.refl _) rfl)
        · simp only [List.getElem?_toArray, List.getElem?_cons_zero, List.getElem?_cons_succ, Option.some.injEq] at hi; subst hi
          have d10 := hdep ⟨10, .data⟩ (by simp) rfl _ 52 rfl rfl
          exact op_val rfl rfl (o_row rfl d10) (hK _ _ ((Ext.refl _).alloc _) ⟨_, rfl, heap_alloc_new _ _⟩)
        · simp only [List.getElem?_toArray, List.getElem?_cons_zero, List.getElem?_cons_succ, Option.some.injEq] at hi; subst hi
          have d11 := hdep ⟨11, .data⟩ (by simp) rfl _ 53 rfl rfl
          obtain ⟨g, q1, q2⟩ := d11
          refine op_by rfl rfl (o_call (S := S2) rfl q1 ?_ (hK _ _ (Ext.refl _) rfl))
          rw [HS2.out]
          exact sum1_any _ Y _ (RdSS.of_block q2 (hY1.ext hE)) huY hle2
        · simp only [List.getElem?_toArray, List.getElem?_cons_zero, List.getElem?_cons_succ, Option.some.injEq] at hi; subst hi
          have d7 := hdep ⟨7, .data⟩ (by simp) rfl _ 49 rfl rfl
          have d12 := hdep ⟨12, .data⟩ (by simp) rfl _ 54 rfl rfl
          exact op_val rfl rfl (o_xor rfl d7 d12 e1) (hK _ _ (Ext.refl _) rfl)
        · simp only [List.getElem?_toArray, List.getElem?_cons_zero, List.getElem?_cons_succ, Option.some.injEq] at hi; subst hi
          exact op_val rfl rfl (o_move rfl) (hK _ _ (Ext.refl _) h2)
        · simp only [List.getElem?_toArray, List.getElem?_cons_zero, List.getElem?_cons_succ, Option.some.injEq] at hi; subst hi
          exact op_val rfl rfl (o_move rfl) (hK _ _ (Ext.refl _) h7)
        · simp only [List.getElem?_toArray, List.getElem?_cons_zero, List.getElem?_cons_succ, Option.some.injEq] at hi; subst hi
          have d14 := hdep ⟨14, .data⟩ (by simp) rfl _ 56 rfl rfl
          have d15 := hdep ⟨15, .data⟩ (by simp) rfl _ 57 rfl rfl
          exact op_val rfl rfl (o_slice rfl d14 d15 hj0 hi3) (hK _ _ (Ext.refl _) rfl)
        · simp only [List.getElem?_toArray, List.getElem?_cons_zero, List.getElem?_cons_succ, Option.some.injEq] at hi; subst hi
          have d16 := hdep ⟨16, .data⟩ (by simp) rfl _ 58 rfl rfl
          exact op_val rfl rfl (o_row rfl d16) (hK _ _ ((Ext.refl _).alloc _) ⟨_, rfl, heap_alloc_new _ _⟩)
        · simp only [List.getElem?_toArray, List.getElem?_cons_zero, List.getElem?_cons_succ, Option.some.injEq] at hi; subst hi
          have d17 := hdep ⟨17, .data⟩ (by simp) rfl _ 59 rfl rfl
          obtain ⟨g, q1, q2⟩ := d17
          refine op_by rfl rfl (o_call (S := S3) rfl q1 ?_ (hK _ _ (Ext.refl _) rfl))
          rw [HS3.out]
          exact sum1_any _ Z _ (RdSS.of_block q2 (hZ1.ext hE)) huZ hle3
        · simp only [List.getElem?_toArray, List.getElem?_cons_zero, List.getElem?_cons_succ, Option.some.injEq] at hi; subst hi
          have d13 := hdep ⟨13, .data⟩ (by simp) rfl _ 55 rfl rfl
          have d18 := hdep ⟨18, .data⟩ (by simp) rfl _ 60 rfl rfl
          exact op_val rfl rfl (o_xor rfl d13 d18 e2) (hK _ _ (Ext.refl _) rfl)
        · simp only [List.getElem?_toArray, List.getElem?_cons_zero, List.getElem?_cons_succ, Option.some.injEq] at hi; subst hi
          have d2 := hdep ⟨2, .data⟩ (by simp) rfl _ 44 rfl rfl
          have d19 := hdep ⟨19, .data⟩ (by simp) rfl _ 61 rfl rfl
          exact op_val rfl rfl (o_eql rfl d2 d19) (hK _ _ (Ext.refl _) rfl)
        · simp only [List.getElem?_toArray, List.getElem?_cons_zero, List.getElem?_cons_succ, Option.some.injEq] at hi; subst hi
          have d20 := hdep ⟨20, .data⟩ (by simp) rfl _ 62 rfl rfl
          exact op_val rfl rfl (o_assign rfl) (hK _ _ (Ext.refl _) d20)
      case hdone =>
        intro a w2 hE hdf hsz hun hP
        have h6 : a.eval (.tmp 6) = .bool true := hP 21 _ 6 rfl rfl
        clear hun hP
        go_wp2_with fail
        have h6' : a.tmps[6]?.getD undef = .bool true := by
          rw [← h6]
          simp [Act.eval, Array.getD_eq_getD_getElem?]
        refine bodyPost_ret (v := .bool true) (by simp [results, Try.results7, go_sem, h6']) hdf ?_
        exact ⟨rfl, (he1.trans hb).trans hE⟩

end Go.Proofs.Ytcbnjigaajpadaa

/-
  Layer 3: the law of added sums, one of three cases.
-/
namespace Go.Proofs.Ytcbnjigaajpadaa
open Go.RowKit

set_option maxHeartbeats 3200000 in
theorem crcAdds_n3 (A : Option Addr) (n c : Nat) (xs : List Nat) (A2 : Option Addr) (n2 c2 : Nat) (ys : List Nat) (A3 : Option Addr) (n3 c3 : Nat) (zs : List Nat) (w : World) (hx : Rd .u8 w A n xs) (hu : U8 xs) (hn : n ≤ 140737488351232) (hy : Rd .u8 w A2 n2 ys) (hv : U8 ys) (hn2 : n2 ≤ 140737488351232)
    (hz : Rd .u8 w A3 n3 zs) (ht : U8 zs) (hn3 : n3 ≤ 140737488351232) (hc : n ≤ c) (hc2 : n2 ≤ c2) (hc3 : n3 ≤ c3) (h13 : n3 < n) (h23 : n3 < n2) :
    Calls Try.prog 7 #[.slice A n c, .slice A2 n2 c2, .slice A3 n3 c3] w fun e w' => e = .returned (.bool true) ∧ Ext w w' := by
  obtain ⟨m, hm⟩ : ∃ m, m = n3 := ⟨_, rfl⟩
  have hm1 : m ≤ n := by omega
  have hm2 : m ≤ n2 := by omega
  have hm3 : m ≤ n3 := by omega
  have hmc1 : m ≤ c := by omega
  have hmc2 : m ≤ c2 := by omega
  have hmc3 : m ≤ c3 := by omega
  have hlx : (xs.take m).length = m := by rw [List.length_take, hx.len]; omega
  have hly : (ys.take m).length = m := by rw [List.length_take, hy.len]; omega
  have hlz : (zs.take m).length = m := by rw [List.length_take, hz.len]; omega
  have hsum := crc_xor3 (u8_take hu m) (u8_take hv m) (u8_take ht m) (hly.trans hlx.symm) (hlz.trans hlx.symm)
  have hxl := xor3_len (hly.trans hlx.symm) (hlz.trans hlx.symm)
  have hxu := xor3_u8 (u8_take hu m) (u8_take hv m) (u8_take ht m)
  have h1l := crc_lt (u8_take hu m)
  have h2l := crc_lt (u8_take hv m)
  have h3l := crc_lt (u8_take ht m)
  have hlex : xs.length = n := hx.len
  have hley : ys.length = n2 := hy.len
  have hlez : zs.length = n3 := hz.len
  have Hsum := Lib.hid hsum
  have Hxl := Lib.hid (hxl.trans hlx)
  have Hlx := Lib.hid hlx
  have Hly := Lib.hid hly
  have Hlz := Lib.hid hlz
  have Hex := Lib.hid hlex
  have Hey := Lib.hid hley
  have Hez := Lib.hid hlez
  have Hm := Lib.hid hm
  clear hsum hxl hlx hly hlz hlex hley hlez hm
  go_enter Try.func7, Try.ntmps7
  go_wp2_with fail
  refine (alive3 _).mono ?_
  rintro e w1 ⟨rfl, he1⟩
  have hx1 := hx.ext he1
  have hy1 := hy.ext he1
  have hz1 := hz.ext he1
  clear hx hy hz
  go_wp2_with fail
  rw [← Hm.out]
  go_loopw [8, 9] (fun v i wr => ∃ (j : Nat) (A' : Option Addr) (c' : Nat), j ≤ m ∧ i = .int .i64 j ∧ v = .slice A' j c' ∧ Own .u8 5 wr w1.heap.size A' c' (xor3 (xs.take j) (ys.take j) (zs.take j)) ∧ Below w1.heap.size w1 wr) (fun _ i _ => m - (intOf i).toNat)
  case atStart => exact ⟨0, _, _, Nat.zero_le _, rfl, rfl, Own.made _ _ _ (Nat.le_refl _), (Ext.refl w1).alloc _⟩
  case round =>
    obtain ⟨j, A', c', hj, rfl, rfl, hown, hb⟩ := hrel
    have hsz := hb.size
    by_cases hlt : j < m
    · obtain ⟨b1, o1, rfl, hl1, hc1⟩ := hx1.at_ (show j < n by omega)
      obtain ⟨b2, o2, rfl, hl2, hc2'⟩ := hy1.at_ (show j < n2 by omega)
      obtain ⟨b3, o3, rfl, hl3, hc3'⟩ := hz1.at_ (show j < n3 by omega)
      have hnx := xor3_take (x := xs) (y := ys) (z := zs) (j := j) (by have := Hex.out; omega) (by have := Hey.out; omega) (by have := Hez.out; omega)
      have htl : (xor3 (xs.take j) (ys.take j) (zs.take j)).length = j := by
        rw [xor3_len (by rw [List.length_take, List.length_take, Hex.out, Hey.out]; omega) (by rw [List.length_take, List.length_take, Hex.out, Hez.out]; omega), List.length_take, Hex.out]; omega
      have hv1 := hu.at_ j
      have hv2 := hv.at_ j
      have hv3 := ht.at_ j
      obtain ⟨x, hx'⟩ : ∃ x, x = xs.getD j 0 := ⟨_, rfl⟩
      obtain ⟨y, hy'⟩ : ∃ x, x = ys.getD j 0 := ⟨_, rfl⟩
      obtain ⟨z, hz'⟩ : ∃ x, x = zs.getD j 0 := ⟨_, rfl⟩
      rw [← hx'] at hc1 hv1 hnx
      rw [← hy'] at hc2' hv2 hnx
      rw [← hz'] at hc3' hv3 hnx
      have K1 : Hid (∀ w', Below w1.heap.size w1 w' → w'.cell? ⟨b1, o1 + j, none⟩ = some (.int .u8 (x : Int))) := Lib.hid (fun w' h => (Below.cell h (p := ⟨b1, o1 + j, none⟩) hl1).trans hc1)
      have K2 : Hid (∀ w', Below w1.heap.size w1 w' → w'.cell? ⟨b2, o2 + j, none⟩ = some (.int .u8 (y : Int))) := Lib.hid (fun w' h => (Below.cell h (p := ⟨b2, o2 + j, none⟩) hl2).trans hc2')
      have K3 : Hid (∀ w', Below w1.heap.size w1 w' → w'.cell? ⟨b3, o3 + j, none⟩ = some (.int .u8 (z : Int))) := Lib.hid (fun w' h => (Below.cell h (p := ⟨b3, o3 + j, none⟩) hl3).trans hc3')
      have g1 := K1.out _ hb
      have g2 := K2.out _ hb
      have g3 := K3.out _ hb
      clear hc1 hc2' hc3'
      have hxy : x ^^^ y < 256 := Nat.xor_lt_two_pow (n := 8) hv1 hv2
      have e1 : bits .xor .u8 (x : Int) (y : Int) = ((x ^^^ y : Nat) : Int) := u8_xor_nat _ _ hv1 hv2
      have e2 : bits .xor .u8 ((x ^^^ y : Nat) : Int) (z : Int) = ((x ^^^ y ^^^ z : Nat) : Int) := u8_xor_nat _ _ hxy hv3
      have hji1 : (j : Int) < (n : Int) := by omega
      have hji2 : (j : Int) < (n2 : Int) := by omega
      have hji3 : (j : Int) < (n3 : Int) := by omega
      have hj0 : (0 : Int) ≤ (j : Int) := by omega
      have Hnx := Lib.hid hnx
      have Htl := Lib.hid htl
      clear hx' hy' hz' hnx htl
      obtain ⟨t1, ht1⟩ : ∃ t, t = x ^^^ y := ⟨_, rfl⟩
      rw [← ht1] at e1 e2 hxy
      obtain ⟨t2, ht2⟩ : ∃ t, t = t1 ^^^ z := ⟨_, rfl⟩
      rw [← ht2] at e2
      have Ht2 := Lib.hid (show t2 = x ^^^ y ^^^ z by rw [ht2, ht1])
      clear ht1 ht2
      go_wp2_with fail
      go_region_held3 (fun w' => w'.cell? ⟨b1, o1 + j, none⟩ = some (.int .u8 (x : Int)) ∧ w'.cell? ⟨b2, o2 + j, none⟩ = some (.int .u8 (y : Int)) ∧ w'.cell? ⟨b3, o3 + j, none⟩ = some (.int .u8 (z : Int)))
        (first | exact ⟨K1.out _ hb1, K2.out _ hb1, K3.out _ hb1⟩ | exact ⟨K1.out _ ((Ext.trans hb ((Ext.refl wr).alloc (.cells #[.int .u8 (t2 : Int)] 5))).drew), K2.out _ ((Ext.trans hb ((Ext.refl wr).alloc (.cells #[.int .u8 (t2 : Int)] 5))).drew), K3.out _ ((Ext.trans hb ((Ext.refl wr).alloc (.cells #[.int .u8 (t2 : Int)] 5))).drew)⟩ | exact ⟨g1, g2, g3⟩)
        ((refine step_push (w0 := w1) .u8 t2 5 (by rfl) _ _ 22 (by rfl) _ 1 Try.underlying22 Try.infoU8 rfl (hown.ext ((Ext.refl _).alloc _).drew) j Htl.out (by rfl) (by rfl) (cell_of_row _ _ 0 _ _ (0, 0) (heap_alloc_new wr _)) (by omega) (by omega) (Ext.drew (a := w1) (Below.alloc hb hsz (.cells #[.int .u8 (t2 : Int)] 5))) (by simp; omega) ?_; intro A1 c1 w5 hown1 hb1 hz1))
      clear g1 g2 g3
      rw [Ht2.out, ← Hnx.out] at hown1
      go_wp2_with fail
      go_roundw
      case rel => exact ⟨j + 1, A1, c1, by omega, by go_num, rfl, hown1, hb1⟩
      case measure => simp [intOf]; omega
    · obtain rfl : j = m := by omega
      obtain ⟨hcap, _⟩ := hown.cap
      have hrd := hown.rd' Hxl.out
      have hX1 := (hx1.ext hb).take_any hm1
      have hY1 := (hy1.ext hb).take_any hm2
      have hZ1 := (hz1.ext hb).take_any hm3
      have hle1 : (xs.take j).length ≤ 180000000000000 := by have := Hlx.out; omega
      have hle2 : (ys.take j).length ≤ 180000000000000 := by have := Hly.out; omega
      have hle3 : (zs.take j).length ≤ 180000000000000 := by have := Hlz.out; omega
      have hle0 : (xor3 (xs.take j) (ys.take j) (zs.take j)).length ≤ 180000000000000 := by have := Hxl.out; omega
      have huX := u8_take hu j
      have huY := u8_take hv j
      have huZ := u8_take ht j
      clear hown
      obtain ⟨X, hX⟩ : ∃ X, X = xs.take j := ⟨_, rfl⟩
      obtain ⟨Y, hY⟩ : ∃ X, X = ys.take j := ⟨_, rfl⟩
      obtain ⟨Z, hZ⟩ : ∃ X, X = zs.take j := ⟨_, rfl⟩
      rw [← hX] at hrd hX1 hle1 hle0 h1l hxu Hsum huX
      rw [← hY] at hrd hY1 hle2 hle0 h2l hxu Hsum huY
      rw [← hZ] at hrd hZ1 hle3 hle0 h3l hxu Hsum huZ
      clear hX hY hZ Hlx Hly Hlz Hxl
      obtain ⟨T, hT⟩ : ∃ T, T = xor3 X Y Z := ⟨_, rfl⟩
      rw [← hT] at hrd hle0 hxu Hsum
      clear hT
      obtain ⟨S1, hS1⟩ : ∃ S, S = crc X := ⟨_, rfl⟩
      obtain ⟨S2, hS2⟩ : ∃ S, S = crc Y := ⟨_, rfl⟩
      obtain ⟨S3, hS3⟩ : ∃ S, S = crc Z := ⟨_, rfl⟩
      rw [← hS1] at h1l Hsum
      rw [← hS2] at h2l Hsum
      rw [← hS3] at h3l Hsum
      have HS1 := Lib.hid hS1
      have HS2 := Lib.hid hS2
      have HS3 := Lib.hid hS3
      have e1 : bits .xor .u32 (S1 : Int) (S2 : Int) = ((S1 ^^^ S2 : Nat) : Int) := u32_xor_nat _ _ h1l h2l
      have e2 : bits .xor .u32 ((S1 ^^^ S2 : Nat) : Int) (S3 : Int) = ((S1 ^^^ S2 ^^^ S3 : Nat) : Int) := u32_xor_nat _ _ (xor_lt32 h1l h2l) h3l
      clear hS1 hS2 hS3
      have hi1 : (j : Int) ≤ (c : Int) := by omega
      have hi2 : (j : Int) ≤ (c2 : Int) := by omega
      have hi3 : (j : Int) ≤ (c3 : Int) := by omega
      have hj0 : (0 : Int) ≤ (j : Int) := by omega
      go_wp2_with fail
      refine wp_region_posts (by kernel_rfl) (by kernel_rfl) (fun k => ((addW (.slice A' j c') (.slice A n c) (.slice A2 n2 c2) (.slice A3 j c3) (.slice A j c) (.slice A2 j c2) (.slice A3 j c3) (.int .i64 (j : Int)) (.int .u32 ((S1 ^^^ S2 ^^^ S3 : Nat) : Int)) (.int .u32 (S1 : Int)) (.int .u32 (S2 : Int)) (.int .u32 ((S1 ^^^ S2 : Nat) : Int)) (.int .u32 (S3 : Int))) k).ok 22) (fun _ _ _ _ h he => Lv.stable h he) ?hstep ?hdone
      case hstep =>
        intro i o a w2 hi hE hun hdep K hK
        have h8 : a.eval (.tmp 8) = Value.slice A' j c' := (hun 8 (notDst_spec (by kernel_rfl))).trans rfl
        have h0 : a.eval (.tmp 0) = Value.slice A n c := (hun 0 (notDst_spec (by kernel_rfl))).trans rfl
        have h7 : a.eval (.tmp 7) = Value.int .i64 (j : Int) := (hun 7 (notDst_spec (by kernel_rfl))).trans rfl
        have h1 : a.eval (.tmp 1) = Value.slice A2 n2 c2 := (hun 1 (notDst_spec (by kernel_rfl))).trans rfl
        have h2 : a.eval (.tmp 2) = Value.slice A3 j c3 := (hun 2 (notDst_spec (by kernel_rfl))).trans rfl
        have hlt2 : i < 22 := (Array.getElem?_eq_some_iff.1 hi).1
        rcases (show i = 0 ∨ i = 1 ∨ i = 2 ∨ i = 3 ∨ i = 4 ∨ i = 5 ∨ i = 6 ∨ i = 7 ∨ i = 8 ∨ i = 9 ∨ i = 10 ∨ i = 11 ∨ i = 12 ∨ i = 13 ∨ i = 14 ∨ i = 15 ∨ i = 16 ∨ i = 17 ∨ i = 18 ∨ i = 19 ∨ i = 20 ∨ i = 21 by omega) with rfl | rfl | rfl | rfl | rfl | rfl | rfl | rfl | rfl | rfl | rfl | rfl | rfl | rfl | rfl | rfl | rfl | rfl | rfl | rfl | rfl | rfl
        · simp only [List.getElem?_toArray, List.getElem?_cons_zero, List.getElem?_cons_succ, Option.some.injEq] at hi; subst hi
          exact op_val rfl rfl (o_move rfl) (hK _ _ (Ext.refl _) h8)
        · simp only [List.getElem?_toArray, List.getElem?_cons_zero, List.getElem?_cons_succ, Option.some.injEq] at hi; subst hi
          have d0 := hdep ⟨0, .data⟩ (by simp) rfl _ 42 rfl rfl
          exact op_val rfl rfl (o_row rfl d0) (hK _ _ ((Ext.refl _).alloc _) ⟨_, rfl, heap_alloc_new _ _⟩)
        · simp only [List.getElem?_toArray, List.getElem?_cons_zero, List.getElem?_cons_succ, Option.some.injEq] at hi; subst hi
          have d1 := hdep ⟨1, .data⟩ (by simp) rfl _ 43 rfl rfl
          obtain ⟨g, q1, q2⟩ := d1
          refine op_by rfl rfl (o_call (S := S1 ^^^ S2 ^^^ S3) rfl q1 ?_ (hK _ _ (Ext.refl _) rfl))
          rw [← Hsum.out]
          exact sum1_any _ T _ (RdSS.of_block q2 (hrd.ext hE)) hxu hle0
        · simp only [List.getElem?_toArray, List.getElem?_cons_zero, List.getElem?_cons_succ, Option.some.injEq] at hi; subst hi
          exact op_val rfl rfl (o_move rfl) (hK _ _ (Ext.refl _) h0)
        · simp only [List.getElem?_toArray, List.getElem?_cons_zero, List.getElem?_cons_succ, Option.some.injEq] at hi; subst hi
          exact op_val rfl rfl (o_move rfl) (hK _ _ (Ext.refl _) h7)
        · simp only [List.getElem?_toArray, List.getElem?_cons_zero, List.getElem?_cons_succ, Option.some.injEq] at hi; subst hi
          have d3 := hdep ⟨3, .data⟩ (by simp) rfl _ 45 rfl rfl
          have d4 := hdep ⟨4, .data⟩ (by simp) rfl _ 46 rfl rfl
          exact op_val rfl rfl (o_slice rfl d3 d4 hj0 hi1) (hK _ _ (Ext.refl _) rfl)
        · simp only [List.getElem?_toArray, List.getElem?_cons_zero, List.getElem?_cons_succ, Option.some.injEq] at hi; subst hi
          have d5 := hdep ⟨5, .data⟩ (by simp) rfl _ 47 rfl rfl
          exact op_val rfl rfl (o_row rfl d5) (hK _ _ ((Ext.refl _).alloc _) ⟨_, rfl, heap_alloc_new _ _⟩)
        · simp only [List.getElem?_toArray, List.getElem?_cons_zero, List.getElem?_cons_succ, Option.some.injEq] at hi; subst hi
          have d6 := hdep ⟨6, .data⟩ (by simp) rfl _ 48 rfl rfl
          obtain ⟨g, q1, q2⟩ := d6
          refine op_by rfl rfl (o_call (S := S1) rfl q1 ?_ (hK _ _ (Ext.refl _) rfl))
          rw [HS1.out]
          exact sum1_any _ X _ (RdSS.of_block q2 (hX1.ext hE)) huX hle1
        · simp only [List.getElem?_toArray, List.getElem?_cons_zero, List.getElem?_cons_succ, Option.some.injEq] at hi; subst hi
          exact op_val rfl rfl (o_move rfl) (hK _ _ (Ext.refl _) h1)
        · simp only [List.getElem?_toArray, List.getElem?_cons_zero, List.getElem?_cons_succ, Option.some.injEq] at hi; subst hi
          exact op_val rfl rfl (o_move rfl) (hK _ _ (Ext.refl _) h7)
        · simp only [List.getElem?_toArray, List.getElem?_cons_zero, List.getElem?_cons_succ, Option.some.injEq] at hi; subst hi
          have d8 := hdep ⟨8, .data⟩ (by simp) rfl _ 50 rfl rfl
          have d9 := hdep ⟨9, .data⟩ (by simp) rfl _ 51 rfl rfl
          exact op_val rfl rfl (o_slice rfl d8 d9 hj0 hi2) (hK _ _ (Ext.refl _) rfl)
        · simp only [List.getElem?_toArray, List.getElem?_cons_zero, List.getElem?_cons_succ, Option.some.injEq] at hi; subst hi
          have d10 := hdep ⟨10, .data⟩ (by simp) rfl _ 52 rfl rfl
          exact op_val rfl rfl (o_row rfl d10) (hK _ _ ((Ext.refl _).alloc _) ⟨_, rfl, heap_alloc_new _ _⟩)
        · simp only [List.getElem?_toArray, List.getElem?_cons_zero, List.getElem?_cons_succ, Option.some.injEq] at hi; subst hi
          have d11 := hdep ⟨11, .data⟩ (by simp) rfl _ 53 rfl rfl
          obtain ⟨g, q1, q2⟩ := d11
          refine op_by rfl rfl (o_call (S := S2) rfl q1 ?_ (hK _ _ (Ext.refl _) rfl))
          rw [HS2.out]
          exact sum1_any _ Y _ (RdSS.of_block q2 (hY1.ext hE)) huY hle2
        · simp only [List.getElem?_toArray, List.getElem?_cons_zero, List.getElem?_cons_succ, Option.some.injEq] at hi; subst hi
          have d7 := hdep ⟨7, .data⟩ (by simp) rfl _ 49 rfl rfl
          have d12 := hdep ⟨12, .data⟩ (by simp) rfl _ 54 rfl rfl
          exact op_val rfl rfl (o_xor rfl d7 d12 e1) (hK _ _ (Ext.refl _) rfl)
        · simp only [List.getElem?_toArray, List.getElem?_cons_zero, List.getElem?_cons_succ, Option.some.injEq] at hi; subst hi
          exact op_val rfl rfl (o_move rfl) (hK _ _ (Ext.refl _) h2)
        · simp only [List.getElem?_toArray, List.getElem?_cons_zero, List.getElem?_cons_succ, Option.some.injEq] at hi; subst hi
          exact op_val rfl rfl (o_move rfl) (hK _ _ (Ext.refl _) h7)
        · simp only [List.getElem?_toArray, List.getElem?_cons_zero, List.getElem?_cons_succ, Option.some.injEq] at hi; subst hi
          have d14 := hdep ⟨14, .data⟩ (by simp) rfl _ 56 rfl rfl
          have d15 := hdep ⟨15, .data⟩ (by simp) rfl _ 57 rfl rfl
          exact op_val rfl rfl (o_slice rfl d14 d15 hj0 hi3) (hK _ _ (Ext.refl _) rfl)
        · simp only [List.getElem?_toArray, List.getElem?_cons_zero, List.getElem?_cons_succ, Option.some.injEq] at hi; subst hi
          have d16 := hdep ⟨16, .data⟩ (by simp) rfl _ 58 rfl rfl
          exact op_val rfl rfl (o_row rfl d16) (hK _ _ ((Ext.refl _).alloc _) ⟨_, rfl, heap_alloc_new _ _⟩)
        · simp only [List.getElem?_toArray, List.getElem?_cons_zero, List.getElem?_cons_succ, Option.some.injEq] at hi; subst hi
          have d17 := hdep ⟨17, .data⟩ (by simp) rfl _ 59 rfl rfl
          obtain ⟨g, q1, q2⟩ := d17
          refine op_by rfl rfl (o_call (S := S3) rfl q1 ?_ (hK _ _ (Ext.refl _) rfl))
          rw [HS3.out]
          exact sum1_any _ Z _ (RdSS.of_block q2 (hZ1.ext hE)) huZ hle3
        · simp only [List.getElem?_toArray, List.getElem?_cons_zero, List.getElem?_cons_succ, Option.some.injEq] at hi; subst hi
          have d13 := hdep ⟨13, .data⟩ (by simp) rfl _ 55 rfl rfl
          have d18 := hdep ⟨18, .data⟩ (by simp) rfl _ 60 rfl rfl
          exact op_val rfl rfl (o_xor rfl d13 d18 e2) (hK _ _ (Ext.refl _) rfl)
        · simp only [List.getElem?_toArray, List.getElem?_cons_zero, List.getElem?_cons_succ, Option.some.injEq] at hi; subst hi
          have d2 := hdep ⟨2, .data⟩ (by simp) rfl _ 44 rfl rfl
          have d19 := hdep ⟨19, .data⟩ (by simp) rfl _ 61 rfl rfl
          exact op_val rfl rfl (o_eql rfl d2 d19) (hK _ _ (Ext.refl _) rfl)
        · simp only [List.getElem?_toArray, List.getElem?_cons_zero, List.getElem?_cons_succ, Option.some.injEq] at hi; subst hi
          have d20 := hdep ⟨20, .data⟩ (by simp) rfl _ 62 rfl rfl
          exact op_val rfl rfl (o_assign rfl) (hK _ _ (Ext.refl _) d20)
      case hdone =>
        intro a w2 hE hdf hsz hun hP
        have h6 : a.eval (.tmp 6) = .bool true := hP 21 _ 6 rfl rfl
        clear hun hP
        go_wp2_with fail
        have h6' : a.tmps[6]?.getD undef = .bool true := by
          rw [← h6]
          simp [Act.eval, Array.getD_eq_getD_getElem?]
        refine bodyPost_ret (v := .bool true) (by simp [results, Try.results7, go_sem, h6']) hdf ?_
        exact ⟨rfl, (he1.trans hb).trans hE⟩

end Go.Proofs.Ytcbnjigaajpadaa

/-
  Layer 3: the law of added sums.
-/
namespace Go.Proofs.Ytcbnjigaajpadaa
open Go.RowKit

theorem walk_CrcAdds (A : Option Addr) (n c : Nat) (xs : List Nat) (A2 : Option Addr) (n2 c2 : Nat) (ys : List Nat) (A3 : Option Addr) (n3 c3 : Nat) (zs : List Nat) (w : World) (hx : Rd .u8 w A n xs) (hu : U8 xs) (hn : n ≤ 140737488351232) (hc : n ≤ c) (hy : Rd .u8 w A2 n2 ys) (hv : U8 ys) (hn2 : n2 ≤ 140737488351232) (hc2 : n2 ≤ c2)
    (hz : Rd .u8 w A3 n3 zs) (ht : U8 zs) (hn3 : n3 ≤ 140737488351232) (hc3 : n3 ≤ c3) :
    Calls Try.prog 7 #[.slice A n c, .slice A2 n2 c2, .slice A3 n3 c3] w fun e w' => e = .returned (.bool true) ∧ Ext w w' := by
  by_cases h1 : n ≤ n2 ∧ n ≤ n3
  · exact crcAdds_n1 A n c xs A2 n2 c2 ys A3 n3 c3 zs w hx hu hn hy hv hn2 hz ht hn3 hc hc2 hc3 h1.1 h1.2
  · by_cases h2 : n2 < n ∧ n2 ≤ n3
    · exact crcAdds_n2 A n c xs A2 n2 c2 ys A3 n3 c3 zs w hx hu hn hy hv hn2 hz ht hn3 hc hc2 hc3 h2.1 h2.2
    · exact crcAdds_n3 A n c xs A2 n2 c2 ys A3 n3 c3 zs w hx hu hn hy hv hn2 hz ht hn3 hc hc2 hc3 (by omega) (by omega)

end Go.Proofs.Ytcbnjigaajpadaa
