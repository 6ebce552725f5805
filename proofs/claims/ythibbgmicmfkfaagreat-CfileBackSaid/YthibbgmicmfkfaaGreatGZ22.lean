import Derived.Test.YthibbgmicmfkfaaGreatGZ21
namespace Go.Proofs.YthibbgmicmfkfaaGreat
open Go.RowKit
set_option maxRecDepth 100000
theorem quietS {P : Program} {f : FuncId} {args : Array Value} {w : World} {n : Nat} {v : Value} (h : Calls P f args (w.drewN n) fun e w' => e = .returned v ∧ w.drewN n = w') : Calls P f args (w.drewN n) fun e w'' => e = .returned v ∧ ∃ m, w'' = w.drewN m :=
  h.mono fun _ _ ⟨he, hq⟩ => ⟨he, n, hq.symm⟩
theorem FilR.c {w : World} {g : Nat} {f : FlM} (h : FilR w g f) : ∃ Ab cb vf, ∀ q, FilC (w.drewN q) g (f.k : Int) f.ks (f.rows : Int) (f.per : Int) (.slice Ab f.bs.length cb) vf := by
  obtain ⟨Ab, cb, Af, cf, bs, fs, hF, _⟩ := h.ex
  exact ⟨Ab, cb, _, fun q => hF.grownR (Ext.toGrown ((Ext.refl w).drewN q) none) (by simp)⟩
theorem cfb_bad (kind per : Int) (A : Option Addr) (n c : Nat) (xs : List Ci) (fr0 n0 : Int) (w : World) (hx : RdX w A n xs) (hn : n * 40 ≤ 140737488351232) (hcx : CapX xs) (hc : n ≤ c) (h0 : (buildR kind per xs).2 ≠ 0) :
    Calls Tryz.prog 5 #[.int .i64 kind, .int .i64 per, .slice A n c, .int .i64 fr0, .int .i64 n0] w fun e w' => e = .returned (.bool true) ∧ Ext w w' := by
  have HB := Lib.hid (fun W (hW : Ext w W) => pbuild_any kind per A n c xs W (hx.ext hW) hcx (by omega) hc)
  have HF := Lib.hid (fun W (hW : Ext w W) => refBuildC_any kind per A n c xs W (hx.ext hW) hcx (by omega))
  have hP0 : (buildR kind per xs).1 = [] := by
    unfold buildR at h0 ⊢
    split
    · rfl
    · rename_i q
      rw [if_neg q] at h0
      exact bld_bad h0
  obtain ⟨F, hF⟩ : ∃ F, F = (buildR kind per xs).2 := ⟨_, rfl⟩
  unfold PEncPost at HB HF
  rw [← hF] at HB HF h0
  rw [hP0] at HB HF
  simp only [List.length_nil] at HB HF
  have k1 : (F == F) = true := by simp
  have k2 : (F != 0) = true := by simp [h0]
  clear hP0 hF hx hcx hn h0
  go_enter Tryz.func5, Tryz.ntmps5
  go_wp2_with fail
  refine (alive15 _).mono ?_
  rintro e w1 ⟨rfl, he1⟩
  go_wp2_with fail
  refine (HB.out _ he1).mono ?_
  rintro e w2 ⟨A2, c2, rfl, ho2, he2⟩
  have hE2 := he1.trans he2
  go_wp2_with fail
  refine (HF.out _ hE2).mono ?_
  rintro e w3 ⟨A3, c3, rfl, ho3, he3⟩
  have hE3 := hE2.trans he3
  clear ho2 ho3
  go_wp2_with fail
  go_ret
  exact ⟨rfl, hE3⟩
theorem RdX.part {w : World} {A : Option Addr} {n : Nat} {xs : List Ci} (h : RdX w A n xs) {a m c : Nat} (ha : a + m ≤ n) (hc : n ≤ c) : RdX w (Go.Proofs.YthibbgmicmfkfaaGreat.offX A a c) m ((xs.drop a).take m) :=
  (h.offX (k := a) (m := c) (by omega) hc).takeF (m := m) (by omega)
theorem run_cutX (A : Option Addr) (n c l h : Nat) (h1 : l ≤ h) (h2 : h ≤ c) : ∀ W : World, (Instr.slice 25 (.slice A n c) (some (.int .i64 (l : Int))) (some (.int .i64 (h : Int))) none).run Tryz.prog W = .ok (.slice (offX A l c) (h - l : Nat) (c - l : Nat)) W := by
  intro W
  rw [run_slice_lh (P := Tryz.prog) (w := W) _ A n c Tryz.underX .i64 .i64 l h (by omega) (by omega) (by omega), run_sizeX]
  simp only [Result.andThen, sliced, Int.toNat_natCast]
  rfl
set_option maxHeartbeats 12800000 in
theorem cfb_bd (k p : Nat) (A : Option Addr) (n c : Nat) (xs : List Ci) (fr0 n0 : Int) (w : World) (hx : RdX w A n xs) (hn : n ≤ 4096) (hcx : CapX xs) (hc : n ≤ c) (hp1 : 1 ≤ p) (hp2 : p ≤ 4096) (h0 : (buildR k p xs).2 = 0) (ho : openR (buildR k p xs).1 = some (fileC k false p xs)) (hu : U8 (buildR k p xs).1) (hbl : (buildR k p xs).1.length ≤ 1048576) (hgood : ∀ i, i < cntC p xs → (bstC k p xs i).2 = 0)
    (a m : Nat) (ham : a + m ≤ n) (hA : ¬ fr0 < 0) (hA2 : ¬ (n : Int) < fr0) (hC : ¬ n0 < 0) (hC2 : ¬ (n : Int) - (a : Int) < n0) (ea : fr0 = (a : Int)) (em : n0 = (m : Int)) :
    Calls Tryz.prog 5 #[.int .i64 (k : Int), .int .i64 (p : Int), .slice A n c, .int .i64 fr0, .int .i64 n0] w fun e w' => e = .returned (.bool true) ∧ Ext w w' := by
  have HB := Lib.hid (fun W (hW : Ext w W) => pbuild_any k p A n c xs W (hx.ext hW) hcx (by omega) hc)
  unfold PEncPost at HB
  rw [h0] at HB
  obtain ⟨B, hB⟩ : ∃ B, B = (buildR k p xs).1 := ⟨_, rfl⟩
  rw [← hB] at HB ho hu hbl
  obtain ⟨nB, hnB⟩ : ∃ n, n = B.length := ⟨_, rfl⟩
  rw [← hnB] at HB hbl
  have HnB := Lib.hid hnB.symm
  have HO := Lib.hid (fun W A' c' (hr : Rd .u8 W A' nB B) hs (h1 : nB ≤ c') (h2 : c' ≤ 9223372036854775807) => openC_any A' nB c' B W hr hu hs (by omega) h1 h2)
  have Ho := Lib.hid ho
  have hl := hx.1
  have hok := openR_ok hu ho
  have hnum := hx.nums
  have hu8 : ∀ x ∈ xs, U8 x.txt := fun x h => (hx.all x h).u8
  have HR1 := Lib.hid (fun W g (hf : FilR W g (fileC k false p xs)) => readC_any g (fileC k false p xs) 0 (n : Int) W hf hok (by omega) (by omega) (by omega))
  have HR2 := Lib.hid (fun W g (hf : FilR W g (fileC k false p xs)) => readC_any g (fileC k false p xs) (a : Int) (m : Int) W hf hok (by omega) (by omega) (by omega))
  have hrf0 : readF (fileC k false p xs) 0 (n : Int) = (((xs.map Ci.val).drop 0).take n, 0) := readF_file (fr := 0) hp1 hnum hu8 hgood (by omega)
  rw [hrf0] at HR1
  rw [readF_file hp1 hnum hu8 hgood (by omega)] at HR2
  clear hrf0
  have hgl : ∀ x ∈ xs, x.txt.length ≤ 200 := fun x hxm => by
    obtain ⟨j, hj⟩ := List.getElem?_of_mem hxm
    have hjl : j < xs.length := (List.getElem?_eq_some_iff.1 hj).1
    have hi : j / p < cntC p xs := by
      unfold cntC
      have h1 : (xs.length + p - 1) / p = (xs.length - 1) / p + 1 := by
        rw [show xs.length + p - 1 = xs.length - 1 + p by omega, Nat.add_div_right _ (by omega)]
      rw [h1]
      exact Nat.lt_succ_of_le (Nat.div_le_div_right (by omega))
    have hb := bbest_good (k := (k : Int)) (xs := pcX xs p (j / p)) (fun v hv => by
      obtain ⟨y, hy1, rfl⟩ := List.mem_map.1 hv
      exact hnum _ (List.mem_map_of_mem (pcX_mem hy1))) (fun y hy => hu8 y (pcX_mem hy)) (hgood _ hi)
    have hdm : j / p * p + j % p = j := by rw [Nat.mul_comm]; exact Nat.div_add_mod j p
    have hmem : x ∈ pcX xs p (j / p) := by
      have hr : j % p < p := Nat.mod_lt _ (by omega)
      have hq : (pcX xs p (j / p))[j % p]? = some x := by rw [pcX_get rfl (by omega), hdm]; exact hj
      exact List.mem_of_getElem? hq
    exact (chkB_good hb.2.1).2.2 x hmem
  have Hvi := Lib.hid (val_in12 hx.all hgl)
  have hv1 : ((xs.map Ci.val).drop 0).take n = xs.map Ci.val := by rw [List.drop_zero, List.take_of_length_le (by rw [List.length_map, hl]; exact Nat.le_refl _)]
  have hv2 : ((xs.map Ci.val).drop a).take m = ((xs.drop a).take m).map Ci.val := by rw [List.map_take, List.map_drop]
  rw [hv1] at HR1
  rw [hv2] at HR2
  unfold GcPost at HR1 HR2
  have hvl : (xs.map Ci.val).length = n := by rw [List.length_map]; exact hl
  have hvl2 : (((xs.drop a).take m).map Ci.val).length = m := by rw [List.length_map, List.length_take, List.length_drop, hl]; omega
  simp only [hvl] at HR1
  simp only [hvl2] at HR2
  have Hvl := Lib.hid hvl
  have Hvl2 := Lib.hid hvl2
  have Hx := Lib.hid hx
  have Hpt := Lib.hid (fun W (hW : Ext w W) => (hx.ext hW).part ham hc)
  have hrc := run_cutX A n c a (a + m) (by omega) (by omega)
  rw [show a + m - a = m by omega, show ((a + m : Nat) : Int) = (a : Int) + (m : Int) by omega] at hrc
  obtain ⟨q, hq⟩ : ∃ q, q = cntC p xs := ⟨_, rfl⟩
  have hqd : q = (n + p - 1) / p := by rw [hq]; unfold cntC; rw [hl]
  have hq4 : q ≤ 4096 := by rw [hq]; exact cnt_le hp1 (by omega)
  have HFc := Lib.hid (fun W g (hf : FilR W g (fileC k false p xs)) => (show ∃ Ab cb vf, ∀ d, FilC (W.drewN d) g (k : Int) false (n : Int) (p : Int) (.slice Ab q cb) vf from by
    obtain ⟨Ab, cb, vf, h⟩ := hf.c
    have e1 : (fileC k false p xs).rows = n := hl
    have e2 : (fileC k false p xs).bs.length = q := by rw [hq]; show ((List.range _).map _).length = _; rw [List.length_map, List.length_range]
    rw [e1, e2] at h
    exact ⟨Ab, cb, vf, h⟩))
  have hw1 : IntKind.i64.wrap ((n : Int) + (p : Int)) = (n : Int) + (p : Int) := IntWalk.i64_in _ (by omega)
  have hw2 : IntKind.i64.wrap ((n : Int) + (p : Int) - 1) = (n : Int) + (p : Int) - 1 := IntWalk.i64_in _ (by omega)
  have hd1 : ((n : Int) + (p : Int) - 1).tdiv (p : Int) = (q : Int) := by
    rw [show (n : Int) + (p : Int) - 1 = ((n + p - 1 : Nat) : Int) by omega, hqd]; rfl
  have hd2 : ((n : Int) + (p : Int) - 1) / (p : Int) = (q : Int) := by rw [← hd1, Int.tdiv_eq_ediv_of_nonneg (by omega)]
  have hd3 : IntKind.i64.wrap (((n : Int) + (p : Int) - 1).tdiv (p : Int)) = (q : Int) := by rw [hd1]; exact IntWalk.i64_in _ (by omega)
  have hd4 : IntKind.i64.wrap (q : Int) = (q : Int) := IntWalk.i64_in _ (by omega)
  have hnz : ((p : Int) == 0) = false := by simp; omega
  have hnz2 : ¬ (p : Int) = 0 := by omega
  have hnz3 : ¬ p = 0 := by omega
  have hpp : (1 : Int) ≤ (p : Int) := by omega
  have hs0 : (0 : Int) ≤ (n : Int) + (p : Int) - 1 := by omega
  have hw3 : IntKind.i64.wrap ((n : Int) - (a : Int)) = (n : Int) - (a : Int) := IntWalk.i64_in _ (by omega)
  have hw4 : IntKind.i64.wrap ((a : Int) + (m : Int)) = (a : Int) + (m : Int) := IntWalk.i64_in _ (by omega)
  have hz0 : IntKind.i64.wrap 0 = 0 := by decide
  obtain ⟨f, hf⟩ : ∃ f, f = fileC k false p xs := ⟨_, rfl⟩
  rw [← hf] at HR1 HR2 HFc Ho
  clear h0 hB hnB ho hu hl hok hnum hu8 hgl hv1 hv2 hvl hvl2 hx hq hqd hf hgood
  subst ea em
  go_enter Tryz.func5, Tryz.ntmps5
  go_wp2_with fail
  refine (alive15 _).mono ?_
  rintro e w1 ⟨rfl, he1⟩
  go_wp2_with fail
  refine (HB.out _ he1).mono ?_
  rintro e w2 ⟨A2, c2, rfl, ho2, he2⟩
  have hE2 := he1.trans he2
  have hcp2 := ho2.cap
  rw [HnB.out] at hcp2
  have hop := HO.out w2 A2 c2 (ho2.rd' HnB.out) ho2.shape hcp2.1 hcp2.2
  clear ho2 hcp2
  go_wp2_with fail
  refine hop.mono ?_
  intro e w3 hp
  obtain ⟨g, rfl, hf, he3⟩ := hp.some Ho.out
  have hE3 := hE2.trans he3
  have hfr := hf.rd
  obtain ⟨Ab, cb, vf, hFq⟩ := HFc.out w3 g hfr
  clear hp hf hop
  go_wp2_with fail
  go_quiet (first
    | (go_at_call 26; exact quietS (rowsC_any g _ _ _ _ Ab _ cb _ _ (hFq _)))
    | (go_at_call 27; exact quietS (kindC_any g _ _ _ _ Ab _ cb _ _ (hFq _)))
    | (go_at_call 28; exact quietS (keysC_any g _ _ _ _ Ab _ cb _ _ (hFq _)))
    | (go_at_call 29; exact quietS (blocksC_any g _ _ _ _ Ab _ cb _ _ (hFq _)))
    | fail)
  have hE4 : Ext w3 (w3.drewN nq) := (Ext.refl _).drewN _
  have hE4' := hE3.trans hE4
  have hfr4 := hfr.ext hE4
  have HRd1 := HR1.out _ g hfr4
  clear hfr hFq
  go_wp2_with fail
  refine HRd1.mono ?_
  rintro e w5 ⟨gs, A5, c5, rfl, hv5, ho5, ht5, he5⟩
  have hE5 := hE4'.trans he5
  have hf5 : gs.length = n := by rw [← Hvl.out, ← hv5, List.length_map]
  have hr5 := Lib.hid (ans_rdX hv5 hf5 Hvi.out ho5 (fun f hf => (ht5.1 f hf).rd))
  have Hv5 := Lib.hid hv5
  have HRd2 := HR2.out _ g (hfr4.ext he5)
  clear ho5 ht5 hv5 hf5 HRd1
  go_wp2_with fail
  refine HRd2.mono ?_
  rintro e w6 ⟨hs, A6, c6, rfl, hv6, ho6, ht6, he6⟩
  have hE6 := hE5.trans he6
  have hf6 : hs.length = m := by rw [← Hvl2.out, ← hv6, List.length_map]
  have Hvi2 : ∀ v ∈ ((xs.drop a).take m).map Ci.val, VIn v := fun v hv => by
    obtain ⟨x, hx, rfl⟩ := List.mem_map.1 hv
    exact Hvi.out _ (List.mem_map_of_mem (List.mem_of_mem_drop (List.mem_of_mem_take hx)))
  have hr6 := Lib.hid (ans_rdX hv6 hf6 Hvi2 ho6 (fun f hf => (ht6.1 f hf).rd))
  have hA1 := Lib.hid (fun W (hW : Ext w6 W) => alikeRow_any A5 n c5 gs A n c xs W ((hr5.out.ext he6).ext hW) (Hx.out.ext (hE6.trans hW)) (by omega) (by omega))
  have hA2 := Lib.hid (fun W (hW : Ext w6 W) => alikeRow_any A6 m c6 hs (offX A a c) m (c - a) ((xs.drop a).take m) W (hr6.out.ext hW) (Hpt.out W (hE6.trans hW)) (by omega) (by omega))
  rw [alkR_iff.2 Hv5.out] at hA1
  rw [alkR_iff.2 hv6] at hA2
  clear ho6 ht6 hv6 hf6
  go_wp2_with fail
  refine (hA1.out _ (Ext.refl _)).mono ?_
  rintro e w7 ⟨rfl, he7⟩
  go_wp2_with fail
  refine (hA2.out _ he7).mono ?_
  rintro e w8 ⟨rfl, he8⟩
  go_wp2_with fail
  go_ret
  exact ⟨rfl, (hE6.trans he7).trans he8⟩
set_option maxHeartbeats 12800000 in
theorem cfb_bc (k p : Nat) (A : Option Addr) (n c : Nat) (xs : List Ci) (fr0 n0 : Int) (w : World) (hx : RdX w A n xs) (hn : n ≤ 4096) (hcx : CapX xs) (hc : n ≤ c) (hp1 : 1 ≤ p) (hp2 : p ≤ 4096) (h0 : (buildR k p xs).2 = 0) (ho : openR (buildR k p xs).1 = some (fileC k false p xs)) (hu : U8 (buildR k p xs).1) (hbl : (buildR k p xs).1.length ≤ 1048576) (hgood : ∀ i, i < cntC p xs → (bstC k p xs i).2 = 0)
    (a m : Nat) (ham : a + m ≤ n) (hA : ¬ fr0 < 0) (hA2 : ¬ (n : Int) < fr0) (hC : n0 < 0 ∨ (¬ n0 < 0 ∧ (m : Int) < n0)) (ea : fr0 = (a : Int)) (em : m = n - a) :
    Calls Tryz.prog 5 #[.int .i64 (k : Int), .int .i64 (p : Int), .slice A n c, .int .i64 fr0, .int .i64 n0] w fun e w' => e = .returned (.bool true) ∧ Ext w w' := by
  have HB := Lib.hid (fun W (hW : Ext w W) => pbuild_any k p A n c xs W (hx.ext hW) hcx (by omega) hc)
  unfold PEncPost at HB
  rw [h0] at HB
  obtain ⟨B, hB⟩ : ∃ B, B = (buildR k p xs).1 := ⟨_, rfl⟩
  rw [← hB] at HB ho hu hbl
  obtain ⟨nB, hnB⟩ : ∃ n, n = B.length := ⟨_, rfl⟩
  rw [← hnB] at HB hbl
  have HnB := Lib.hid hnB.symm
  have HO := Lib.hid (fun W A' c' (hr : Rd .u8 W A' nB B) hs (h1 : nB ≤ c') (h2 : c' ≤ 9223372036854775807) => openC_any A' nB c' B W hr hu hs (by omega) h1 h2)
  have Ho := Lib.hid ho
  have hl := hx.1
  have hok := openR_ok hu ho
  have hnum := hx.nums
  have hu8 : ∀ x ∈ xs, U8 x.txt := fun x h => (hx.all x h).u8
  have HR1 := Lib.hid (fun W g (hf : FilR W g (fileC k false p xs)) => readC_any g (fileC k false p xs) 0 (n : Int) W hf hok (by omega) (by omega) (by omega))
  have HR2 := Lib.hid (fun W g (hf : FilR W g (fileC k false p xs)) => readC_any g (fileC k false p xs) (a : Int) (m : Int) W hf hok (by omega) (by omega) (by omega))
  have hrf0 : readF (fileC k false p xs) 0 (n : Int) = (((xs.map Ci.val).drop 0).take n, 0) := readF_file (fr := 0) hp1 hnum hu8 hgood (by omega)
  rw [hrf0] at HR1
  rw [readF_file hp1 hnum hu8 hgood (by omega)] at HR2
  clear hrf0
  have hgl : ∀ x ∈ xs, x.txt.length ≤ 200 := fun x hxm => by
    obtain ⟨j, hj⟩ := List.getElem?_of_mem hxm
    have hjl : j < xs.length := (List.getElem?_eq_some_iff.1 hj).1
    have hi : j / p < cntC p xs := by
      unfold cntC
      have h1 : (xs.length + p - 1) / p = (xs.length - 1) / p + 1 := by
        rw [show xs.length + p - 1 = xs.length - 1 + p by omega, Nat.add_div_right _ (by omega)]
      rw [h1]
      exact Nat.lt_succ_of_le (Nat.div_le_div_right (by omega))
    have hb := bbest_good (k := (k : Int)) (xs := pcX xs p (j / p)) (fun v hv => by
      obtain ⟨y, hy1, rfl⟩ := List.mem_map.1 hv
      exact hnum _ (List.mem_map_of_mem (pcX_mem hy1))) (fun y hy => hu8 y (pcX_mem hy)) (hgood _ hi)
    have hdm : j / p * p + j % p = j := by rw [Nat.mul_comm]; exact Nat.div_add_mod j p
    have hmem : x ∈ pcX xs p (j / p) := by
      have hr : j % p < p := Nat.mod_lt _ (by omega)
      have hq : (pcX xs p (j / p))[j % p]? = some x := by rw [pcX_get rfl (by omega), hdm]; exact hj
      exact List.mem_of_getElem? hq
    exact (chkB_good hb.2.1).2.2 x hmem
  have Hvi := Lib.hid (val_in12 hx.all hgl)
  have hv1 : ((xs.map Ci.val).drop 0).take n = xs.map Ci.val := by rw [List.drop_zero, List.take_of_length_le (by rw [List.length_map, hl]; exact Nat.le_refl _)]
  have hv2 : ((xs.map Ci.val).drop a).take m = ((xs.drop a).take m).map Ci.val := by rw [List.map_take, List.map_drop]
  rw [hv1] at HR1
  rw [hv2] at HR2
  unfold GcPost at HR1 HR2
  have hvl : (xs.map Ci.val).length = n := by rw [List.length_map]; exact hl
  have hvl2 : (((xs.drop a).take m).map Ci.val).length = m := by rw [List.length_map, List.length_take, List.length_drop, hl]; omega
  simp only [hvl] at HR1
  simp only [hvl2] at HR2
  have Hvl := Lib.hid hvl
  have Hvl2 := Lib.hid hvl2
  have Hx := Lib.hid hx
  have Hpt := Lib.hid (fun W (hW : Ext w W) => (hx.ext hW).part ham hc)
  have hrc := run_cutX A n c a (a + m) (by omega) (by omega)
  rw [show a + m - a = m by omega, show ((a + m : Nat) : Int) = (a : Int) + (m : Int) by omega] at hrc
  obtain ⟨q, hq⟩ : ∃ q, q = cntC p xs := ⟨_, rfl⟩
  have hqd : q = (n + p - 1) / p := by rw [hq]; unfold cntC; rw [hl]
  have hq4 : q ≤ 4096 := by rw [hq]; exact cnt_le hp1 (by omega)
  have HFc := Lib.hid (fun W g (hf : FilR W g (fileC k false p xs)) => (show ∃ Ab cb vf, ∀ d, FilC (W.drewN d) g (k : Int) false (n : Int) (p : Int) (.slice Ab q cb) vf from by
    obtain ⟨Ab, cb, vf, h⟩ := hf.c
    have e1 : (fileC k false p xs).rows = n := hl
    have e2 : (fileC k false p xs).bs.length = q := by rw [hq]; show ((List.range _).map _).length = _; rw [List.length_map, List.length_range]
    rw [e1, e2] at h
    exact ⟨Ab, cb, vf, h⟩))
  have hw1 : IntKind.i64.wrap ((n : Int) + (p : Int)) = (n : Int) + (p : Int) := IntWalk.i64_in _ (by omega)
  have hw2 : IntKind.i64.wrap ((n : Int) + (p : Int) - 1) = (n : Int) + (p : Int) - 1 := IntWalk.i64_in _ (by omega)
  have hd1 : ((n : Int) + (p : Int) - 1).tdiv (p : Int) = (q : Int) := by
    rw [show (n : Int) + (p : Int) - 1 = ((n + p - 1 : Nat) : Int) by omega, hqd]; rfl
  have hd2 : ((n : Int) + (p : Int) - 1) / (p : Int) = (q : Int) := by rw [← hd1, Int.tdiv_eq_ediv_of_nonneg (by omega)]
  have hd3 : IntKind.i64.wrap (((n : Int) + (p : Int) - 1).tdiv (p : Int)) = (q : Int) := by rw [hd1]; exact IntWalk.i64_in _ (by omega)
  have hd4 : IntKind.i64.wrap (q : Int) = (q : Int) := IntWalk.i64_in _ (by omega)
  have hnz : ((p : Int) == 0) = false := by simp; omega
  have hnz2 : ¬ (p : Int) = 0 := by omega
  have hnz3 : ¬ p = 0 := by omega
  have hpp : (1 : Int) ≤ (p : Int) := by omega
  have hs0 : (0 : Int) ≤ (n : Int) + (p : Int) - 1 := by omega
  have hw3 : IntKind.i64.wrap ((n : Int) - (a : Int)) = (m : Int) := by rw [show (n : Int) - (a : Int) = (m : Int) by omega]; exact IntWalk.i64_in _ (by omega)
  have hw4 : IntKind.i64.wrap ((a : Int) + (m : Int)) = (a : Int) + (m : Int) := IntWalk.i64_in _ (by omega)
  have hz0 : IntKind.i64.wrap 0 = 0 := by decide
  obtain ⟨f, hf⟩ : ∃ f, f = fileC k false p xs := ⟨_, rfl⟩
  rw [← hf] at HR1 HR2 HFc Ho
  clear h0 hB hnB ho hu hl hok hnum hu8 hgl hv1 hv2 hvl hvl2 hx hq hqd hf hgood
  subst ea
  have hmb : m ≤ 4096 := by omega
  clear em
  rcases hC with hC | ⟨hC, hC2⟩
  all_goals
    go_enter Tryz.func5, Tryz.ntmps5
    go_wp2_with fail
    refine (alive15 _).mono ?_
    rintro e w1 ⟨rfl, he1⟩
    go_wp2_with fail
    refine (HB.out _ he1).mono ?_
    rintro e w2 ⟨A2, c2, rfl, ho2, he2⟩
    have hE2 := he1.trans he2
    have hcp2 := ho2.cap
    rw [HnB.out] at hcp2
    have hop := HO.out w2 A2 c2 (ho2.rd' HnB.out) ho2.shape hcp2.1 hcp2.2
    clear ho2 hcp2
    go_wp2_with fail
    refine hop.mono ?_
    intro e w3 hp
    obtain ⟨g, rfl, hf, he3⟩ := hp.some Ho.out
    have hE3 := hE2.trans he3
    have hfr := hf.rd
    obtain ⟨Ab, cb, vf, hFq⟩ := HFc.out w3 g hfr
    clear hp hf hop
    go_wp2_with fail
    go_quiet (first
      | (go_at_call 26; exact quietS (rowsC_any g _ _ _ _ Ab _ cb _ _ (hFq _)))
      | (go_at_call 27; exact quietS (kindC_any g _ _ _ _ Ab _ cb _ _ (hFq _)))
      | (go_at_call 28; exact quietS (keysC_any g _ _ _ _ Ab _ cb _ _ (hFq _)))
      | (go_at_call 29; exact quietS (blocksC_any g _ _ _ _ Ab _ cb _ _ (hFq _)))
      | fail)
    have hE4 : Ext w3 (w3.drewN nq) := (Ext.refl _).drewN _
    have hE4' := hE3.trans hE4
    have hfr4 := hfr.ext hE4
    have HRd1 := HR1.out _ g hfr4
    clear hfr hFq
    go_wp2_with fail
    refine HRd1.mono ?_
    rintro e w5 ⟨gs, A5, c5, rfl, hv5, ho5, ht5, he5⟩
    have hE5 := hE4'.trans he5
    have hf5 : gs.length = n := by rw [← Hvl.out, ← hv5, List.length_map]
    have hr5 := Lib.hid (ans_rdX hv5 hf5 Hvi.out ho5 (fun f hf => (ht5.1 f hf).rd))
    have Hv5 := Lib.hid hv5
    have HRd2 := HR2.out _ g (hfr4.ext he5)
    clear ho5 ht5 hv5 hf5 HRd1
    go_wp2_with fail
    refine HRd2.mono ?_
    rintro e w6 ⟨hs, A6, c6, rfl, hv6, ho6, ht6, he6⟩
    have hE6 := hE5.trans he6
    have hf6 : hs.length = m := by rw [← Hvl2.out, ← hv6, List.length_map]
    have Hvi2 : ∀ v ∈ ((xs.drop a).take m).map Ci.val, VIn v := fun v hv => by
      obtain ⟨x, hx, rfl⟩ := List.mem_map.1 hv
      exact Hvi.out _ (List.mem_map_of_mem (List.mem_of_mem_drop (List.mem_of_mem_take hx)))
    have hr6 := Lib.hid (ans_rdX hv6 hf6 Hvi2 ho6 (fun f hf => (ht6.1 f hf).rd))
    have hA1 := Lib.hid (fun W (hW : Ext w6 W) => alikeRow_any A5 n c5 gs A n c xs W ((hr5.out.ext he6).ext hW) (Hx.out.ext (hE6.trans hW)) (by omega) (by omega))
    have hA2 := Lib.hid (fun W (hW : Ext w6 W) => alikeRow_any A6 m c6 hs (offX A a c) m (c - a) ((xs.drop a).take m) W (hr6.out.ext hW) (Hpt.out W (hE6.trans hW)) (by omega) (by omega))
    rw [alkR_iff.2 Hv5.out] at hA1
    rw [alkR_iff.2 hv6] at hA2
    clear ho6 ht6 hv6 hf6
    go_wp2_with fail
    refine (hA1.out _ (Ext.refl _)).mono ?_
    rintro e w7 ⟨rfl, he7⟩
    go_wp2_with fail
    refine (hA2.out _ he7).mono ?_
    rintro e w8 ⟨rfl, he8⟩
    go_wp2_with fail
    go_ret
    exact ⟨rfl, (hE6.trans he7).trans he8⟩
set_option maxHeartbeats 12800000 in
theorem cfb_a (k p : Nat) (A : Option Addr) (n c : Nat) (xs : List Ci) (fr0 n0 : Int) (w : World) (hx : RdX w A n xs) (hn : n ≤ 4096) (hcx : CapX xs) (hc : n ≤ c) (hp1 : 1 ≤ p) (hp2 : p ≤ 4096) (h0 : (buildR k p xs).2 = 0) (ho : openR (buildR k p xs).1 = some (fileC k false p xs)) (hu : U8 (buildR k p xs).1) (hbl : (buildR k p xs).1.length ≤ 1048576) (hgood : ∀ i, i < cntC p xs → (bstC k p xs i).2 = 0)
    (a m : Nat) (ham : a + m ≤ n) (hA : fr0 < 0 ∨ (¬ fr0 < 0 ∧ (n : Int) < fr0)) (ea : a = n) (em : m = 0) :
    Calls Tryz.prog 5 #[.int .i64 (k : Int), .int .i64 (p : Int), .slice A n c, .int .i64 fr0, .int .i64 n0] w fun e w' => e = .returned (.bool true) ∧ Ext w w' := by
  have HB := Lib.hid (fun W (hW : Ext w W) => pbuild_any k p A n c xs W (hx.ext hW) hcx (by omega) hc)
  unfold PEncPost at HB
  rw [h0] at HB
  obtain ⟨B, hB⟩ : ∃ B, B = (buildR k p xs).1 := ⟨_, rfl⟩
  rw [← hB] at HB ho hu hbl
  obtain ⟨nB, hnB⟩ : ∃ n, n = B.length := ⟨_, rfl⟩
  rw [← hnB] at HB hbl
  have HnB := Lib.hid hnB.symm
  have HO := Lib.hid (fun W A' c' (hr : Rd .u8 W A' nB B) hs (h1 : nB ≤ c') (h2 : c' ≤ 9223372036854775807) => openC_any A' nB c' B W hr hu hs (by omega) h1 h2)
  have Ho := Lib.hid ho
  have hl := hx.1
  have hok := openR_ok hu ho
  have hnum := hx.nums
  have hu8 : ∀ x ∈ xs, U8 x.txt := fun x h => (hx.all x h).u8
  have HR1 := Lib.hid (fun W g (hf : FilR W g (fileC k false p xs)) => readC_any g (fileC k false p xs) 0 (n : Int) W hf hok (by omega) (by omega) (by omega))
  have HR2 := Lib.hid (fun W g (hf : FilR W g (fileC k false p xs)) => readC_any g (fileC k false p xs) (a : Int) (m : Int) W hf hok (by omega) (by omega) (by omega))
  have hrf0 : readF (fileC k false p xs) 0 (n : Int) = (((xs.map Ci.val).drop 0).take n, 0) := readF_file (fr := 0) hp1 hnum hu8 hgood (by omega)
  rw [hrf0] at HR1
  rw [readF_file hp1 hnum hu8 hgood (by omega)] at HR2
  clear hrf0
  have hgl : ∀ x ∈ xs, x.txt.length ≤ 200 := fun x hxm => by
    obtain ⟨j, hj⟩ := List.getElem?_of_mem hxm
    have hjl : j < xs.length := (List.getElem?_eq_some_iff.1 hj).1
    have hi : j / p < cntC p xs := by
      unfold cntC
      have h1 : (xs.length + p - 1) / p = (xs.length - 1) / p + 1 := by
        rw [show xs.length + p - 1 = xs.length - 1 + p by omega, Nat.add_div_right _ (by omega)]
      rw [h1]
      exact Nat.lt_succ_of_le (Nat.div_le_div_right (by omega))
    have hb := bbest_good (k := (k : Int)) (xs := pcX xs p (j / p)) (fun v hv => by
      obtain ⟨y, hy1, rfl⟩ := List.mem_map.1 hv
      exact hnum _ (List.mem_map_of_mem (pcX_mem hy1))) (fun y hy => hu8 y (pcX_mem hy)) (hgood _ hi)
    have hdm : j / p * p + j % p = j := by rw [Nat.mul_comm]; exact Nat.div_add_mod j p
    have hmem : x ∈ pcX xs p (j / p) := by
      have hr : j % p < p := Nat.mod_lt _ (by omega)
      have hq : (pcX xs p (j / p))[j % p]? = some x := by rw [pcX_get rfl (by omega), hdm]; exact hj
      exact List.mem_of_getElem? hq
    exact (chkB_good hb.2.1).2.2 x hmem
  have Hvi := Lib.hid (val_in12 hx.all hgl)
  have hv1 : ((xs.map Ci.val).drop 0).take n = xs.map Ci.val := by rw [List.drop_zero, List.take_of_length_le (by rw [List.length_map, hl]; exact Nat.le_refl _)]
  have hv2 : ((xs.map Ci.val).drop a).take m = ((xs.drop a).take m).map Ci.val := by rw [List.map_take, List.map_drop]
  rw [hv1] at HR1
  rw [hv2] at HR2
  unfold GcPost at HR1 HR2
  have hvl : (xs.map Ci.val).length = n := by rw [List.length_map]; exact hl
  have hvl2 : (((xs.drop a).take m).map Ci.val).length = m := by rw [List.length_map, List.length_take, List.length_drop, hl]; omega
  simp only [hvl] at HR1
  simp only [hvl2] at HR2
  have Hvl := Lib.hid hvl
  have Hvl2 := Lib.hid hvl2
  have Hx := Lib.hid hx
  have Hpt := Lib.hid (fun W (hW : Ext w W) => (hx.ext hW).part ham hc)
  have hrc := run_cutX A n c a (a + m) (by omega) (by omega)
  rw [show a + m - a = m by omega, show ((a + m : Nat) : Int) = (a : Int) + (m : Int) by omega] at hrc
  obtain ⟨q, hq⟩ : ∃ q, q = cntC p xs := ⟨_, rfl⟩
  have hqd : q = (n + p - 1) / p := by rw [hq]; unfold cntC; rw [hl]
  have hq4 : q ≤ 4096 := by rw [hq]; exact cnt_le hp1 (by omega)
  have HFc := Lib.hid (fun W g (hf : FilR W g (fileC k false p xs)) => (show ∃ Ab cb vf, ∀ d, FilC (W.drewN d) g (k : Int) false (n : Int) (p : Int) (.slice Ab q cb) vf from by
    obtain ⟨Ab, cb, vf, h⟩ := hf.c
    have e1 : (fileC k false p xs).rows = n := hl
    have e2 : (fileC k false p xs).bs.length = q := by rw [hq]; show ((List.range _).map _).length = _; rw [List.length_map, List.length_range]
    rw [e1, e2] at h
    exact ⟨Ab, cb, vf, h⟩))
  have hw1 : IntKind.i64.wrap ((n : Int) + (p : Int)) = (n : Int) + (p : Int) := IntWalk.i64_in _ (by omega)
  have hw2 : IntKind.i64.wrap ((n : Int) + (p : Int) - 1) = (n : Int) + (p : Int) - 1 := IntWalk.i64_in _ (by omega)
  have hd1 : ((n : Int) + (p : Int) - 1).tdiv (p : Int) = (q : Int) := by
    rw [show (n : Int) + (p : Int) - 1 = ((n + p - 1 : Nat) : Int) by omega, hqd]; rfl
  have hd2 : ((n : Int) + (p : Int) - 1) / (p : Int) = (q : Int) := by rw [← hd1, Int.tdiv_eq_ediv_of_nonneg (by omega)]
  have hd3 : IntKind.i64.wrap (((n : Int) + (p : Int) - 1).tdiv (p : Int)) = (q : Int) := by rw [hd1]; exact IntWalk.i64_in _ (by omega)
  have hd4 : IntKind.i64.wrap (q : Int) = (q : Int) := IntWalk.i64_in _ (by omega)
  have hnz : ((p : Int) == 0) = false := by simp; omega
  have hnz2 : ¬ (p : Int) = 0 := by omega
  have hnz3 : ¬ p = 0 := by omega
  have hpp : (1 : Int) ≤ (p : Int) := by omega
  have hs0 : (0 : Int) ≤ (n : Int) + (p : Int) - 1 := by omega
  have hw3 : IntKind.i64.wrap ((n : Int) - (a : Int)) = (n : Int) - (a : Int) := IntWalk.i64_in _ (by omega)
  have hw4 : IntKind.i64.wrap ((a : Int) + (m : Int)) = (a : Int) + (m : Int) := IntWalk.i64_in _ (by omega)
  have hz0 : IntKind.i64.wrap 0 = 0 := by decide
  obtain ⟨f, hf⟩ : ∃ f, f = fileC k false p xs := ⟨_, rfl⟩
  rw [← hf] at HR1 HR2 HFc Ho
  clear h0 hB hnB ho hu hl hok hnum hu8 hgl hv1 hv2 hvl hvl2 hx hq hqd hf hgood
  obtain rfl : n = a := ea.symm
  obtain rfl : 0 = m := em.symm
  have HR2' := Lib.hid (fun W g hf => (show Calls Tryz.prog 30 #[.pointer (some ⟨g, 0, none⟩), .int .i64 (n : Int), .int .i64 0] W _ from HR2.out W g hf))
  have hrc2 := run_cutX A n c n n (Nat.le_refl _) hc
  rw [Nat.sub_self] at hrc2
  have hw5 : IntKind.i64.wrap (n : Int) = (n : Int) := IntWalk.i64_in _ (by omega)
  have hsel : n0 < 0 ∨ (¬ n0 < 0 ∧ (0 : Int) < n0) ∨ (¬ n0 < 0 ∧ ¬ (0 : Int) < n0 ∧ n0 = 0) := by omega
  clear HR2 hrc hw3 hw4
  rcases hA with hA | ⟨hA, hA2⟩
  all_goals
    rcases hsel with hC | ⟨hC, hC2⟩ | ⟨hC, hC2, rfl⟩
    all_goals
      go_enter Tryz.func5, Tryz.ntmps5
      go_wp2_with fail
      refine (alive15 _).mono ?_
      rintro e w1 ⟨rfl, he1⟩
      go_wp2_with fail
      refine (HB.out _ he1).mono ?_
      rintro e w2 ⟨A2, c2, rfl, ho2, he2⟩
      have hE2 := he1.trans he2
      have hcp2 := ho2.cap
      rw [HnB.out] at hcp2
      have hop := HO.out w2 A2 c2 (ho2.rd' HnB.out) ho2.shape hcp2.1 hcp2.2
      clear ho2 hcp2
      go_wp2_with fail
      refine hop.mono ?_
      intro e w3 hp
      obtain ⟨g, rfl, hf, he3⟩ := hp.some Ho.out
      have hE3 := hE2.trans he3
      have hfr := hf.rd
      obtain ⟨Ab, cb, vf, hFq⟩ := HFc.out w3 g hfr
      clear hp hf hop
      go_wp2_with fail
      go_quiet (first
        | (go_at_call 26; exact quietS (rowsC_any g _ _ _ _ Ab _ cb _ _ (hFq _)))
        | (go_at_call 27; exact quietS (kindC_any g _ _ _ _ Ab _ cb _ _ (hFq _)))
        | (go_at_call 28; exact quietS (keysC_any g _ _ _ _ Ab _ cb _ _ (hFq _)))
        | (go_at_call 29; exact quietS (blocksC_any g _ _ _ _ Ab _ cb _ _ (hFq _)))
        | fail)
      have hE4 : Ext w3 (w3.drewN nq) := (Ext.refl _).drewN _
      have hE4' := hE3.trans hE4
      have hfr4 := hfr.ext hE4
      have HRd1 := HR1.out _ g hfr4
      clear hfr hFq
      go_wp2_with fail
      refine HRd1.mono ?_
      rintro e w5 ⟨gs, A5, c5, rfl, hv5, ho5, ht5, he5⟩
      have hE5 := hE4'.trans he5
      have hf5 : gs.length = n := by rw [← Hvl.out, ← hv5, List.length_map]
      have hr5 := Lib.hid (ans_rdX hv5 hf5 Hvi.out ho5 (fun f hf => (ht5.1 f hf).rd))
      have Hv5 := Lib.hid hv5
      have HRd2 := HR2'.out _ g (hfr4.ext he5)
      clear ho5 ht5 hv5 hf5 HRd1
      go_wp2_with fail
      refine HRd2.mono ?_
      rintro e w6 ⟨hs, A6, c6, rfl, hv6, ho6, ht6, he6⟩
      have hE6 := hE5.trans he6
      have hf6 : hs.length = 0 := by rw [← Hvl2.out, ← hv6, List.length_map]
      have Hvi2 : ∀ v ∈ ((xs.drop n).take 0).map Ci.val, VIn v := fun v hv => by
        obtain ⟨x, hx, rfl⟩ := List.mem_map.1 hv
        exact Hvi.out _ (List.mem_map_of_mem (List.mem_of_mem_drop (List.mem_of_mem_take hx)))
      have hr6 := Lib.hid (ans_rdX hv6 hf6 Hvi2 ho6 (fun f hf => (ht6.1 f hf).rd))
      have hA1 := Lib.hid (fun W (hW : Ext w6 W) => alikeRow_any A5 n c5 gs A n c xs W ((hr5.out.ext he6).ext hW) (Hx.out.ext (hE6.trans hW)) (by omega) (by omega))
      have hA2 := Lib.hid (fun W (hW : Ext w6 W) => alikeRow_any A6 0 c6 hs (offX A n c) 0 (c - n) ((xs.drop n).take 0) W (hr6.out.ext hW) (Hpt.out W (hE6.trans hW)) (by omega) (by omega))
      rw [alkR_iff.2 Hv5.out] at hA1
      rw [alkR_iff.2 hv6] at hA2
      clear ho6 ht6 hv6 hf6
      go_wp2_with fail
      refine (hA1.out _ (Ext.refl _)).mono ?_
      rintro e w7 ⟨rfl, he7⟩
      go_wp2_with fail
      refine (hA2.out _ he7).mono ?_
      rintro e w8 ⟨rfl, he8⟩
      go_wp2_with fail
      go_ret
      exact ⟨rfl, (hE6.trans he7).trans he8⟩
theorem walk_CfileBack (kind per : Int) (A : Option Addr) (n c : Nat) (xs : List Ci) (fr0 n0 : Int) (w : World) (hx : RdX w A n xs) (hn : n * 40 ≤ 140737488351232) (hcx : CapX xs) (hc : n ≤ c) :
    Calls Tryz.prog 5 #[.int .i64 kind, .int .i64 per, .slice A n c, .int .i64 fr0, .int .i64 n0] w fun e w' => e = .returned (.bool true) ∧ Ext w w' := by
  by_cases h0 : (buildR kind per xs).2 = 0
  · obtain ⟨k, p, rfl, rfl, hp1, hp2, hl4, ho, hu, hbl, hgood⟩ := open_built hx.nums (fun x h => (hx.all x h).u8) h0
    have hn4 : n ≤ 4096 := by rw [← hx.1]; exact hl4
    by_cases hA : fr0 < 0 ∨ (¬ fr0 < 0 ∧ (n : Int) < fr0)
    · exact cfb_a k p A n c xs fr0 n0 w hx hn4 hcx hc hp1 hp2 h0 ho hu hbl hgood n 0 (by omega) hA rfl rfl
    · have h1 : ¬ fr0 < 0 := fun q => hA (.inl q)
      have h2 : ¬ (n : Int) < fr0 := fun q => hA (.inr ⟨h1, q⟩)
      obtain ⟨a, rfl⟩ := Int.eq_ofNat_of_zero_le (show 0 ≤ fr0 by omega)
      by_cases hC : n0 < 0 ∨ (¬ n0 < 0 ∧ ((n - a : Nat) : Int) < n0)
      · exact cfb_bc k p A n c xs a n0 w hx hn4 hcx hc hp1 hp2 h0 ho hu hbl hgood a (n - a) (by omega) h1 h2 hC rfl rfl
      · have h3 : ¬ n0 < 0 := fun q => hC (.inl q)
        have h4 : ¬ ((n - a : Nat) : Int) < n0 := fun q => hC (.inr ⟨h3, q⟩)
        obtain ⟨m, rfl⟩ := Int.eq_ofNat_of_zero_le (show 0 ≤ n0 by omega)
        exact cfb_bd k p A n c xs a m w hx hn4 hcx hc hp1 hp2 h0 ho hu hbl hgood a m (by omega) h1 h2 h3 (by omega) rfl rfl
  · exact cfb_bad kind per A n c xs fr0 n0 w hx hn hcx hc h0
end Go.Proofs.YthibbgmicmfkfaaGreat
