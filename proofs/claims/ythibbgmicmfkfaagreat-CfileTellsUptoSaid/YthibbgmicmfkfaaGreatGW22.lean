import Derived.Test.YthibbgmicmfkfaaGreatGW21
namespace Go.Proofs.YthibbgmicmfkfaaGreat
open Go.RowKit
set_option maxRecDepth 100000
theorem ftT_len2 {f : FlM} : ∀ m, (∀ j, j < m → (f.bs.getD j []).length ≤ 65000 ∧ (f.fs.getD j []).length ≤ 200) → (ftT f m).length ≤ m * 220
 | 0, _ => Nat.zero_le _
 | m + 1, h => by
   have h1 := ftT_len2 (f := f) m (fun j hj => h j (by omega))
   obtain ⟨a, b⟩ := h m (by omega)
   have h2 := ftE_len (ks := f.ks) a b
   unfold ftT
   rw [List.length_append]
   omega
theorem take_flat {L : List (List Nat)} {i : Nat} (h : i < L.length) : (L.take (i + 1)).flatten = (L.take i).flatten ++ L.getD i [] := by
 rw [List.take_add_one, List.getElem?_eq_getElem h, List.flatten_append, List.getD_eq_getElem?_getD, List.getElem?_eq_getElem h]
 simp
theorem fileC_bs {k : Nat} {ks : Bool} {p : Nat} {xs : List Ci} {i : Nat} (h : i < cntC p xs) : (fileC k ks p xs).bs.getD i [] = (bstC k p xs i).1.2 := by
 show ((List.range (cntC p xs)).map _).getD i [] = _
 rw [List.getD_eq_getElem?_getD, List.getElem?_map, List.getElem?_range h]
 rfl
theorem fileC_fs {k : Nat} {p : Nat} {xs : List Ci} {i : Nat} (h : i < cntC p xs) : (fileC k true p xs).fs.getD i [] = frsC p xs i := by
 show ((List.range (cntC p xs)).map _).getD i [] = _
 rw [List.getD_eq_getElem?_getD, List.getElem?_map, List.getElem?_range h]
 rfl
theorem pcX_get {xs : List Ci} {p i q n : Nat} (_hl : xs.length = n) (hq : q < min p (n - i * p)) : (pcX xs p i)[q]? = xs[i * p + q]? := by
 unfold pcX
 rw [List.getElem?_take, if_pos (by omega), List.getElem?_drop]
theorem pcX_len {xs : List Ci} {p i n : Nat} (hl : xs.length = n) : (pcX xs p i).length = min p (n - i * p) := by
 unfold pcX
 rw [List.length_take, List.length_drop, hl]
set_option maxHeartbeats 6400000 in
theorem refBuild15_any (k : Nat) (ks : Bool) (p : Nat) (A : Option Addr) (n c : Nat) (xs : List Ci) (w : World) (hx : RdX w A n xs) (hcx : CapX xs) (hn : n ≤ 281474976710656) (hp : 1 ≤ p ∧ p ≤ 4096) (hk : k < 256) :
   Calls Tryz.prog 57 #[.int .i64 (k : Int), .int .i64 (p : Int), .bool ks, .slice A n c] w (PEncPost (bldR k ks p xs) w) := by
 have hl := hx.1
 obtain ⟨R, hR⟩ : ∃ R, R = bldR k ks p xs := ⟨_, rfl⟩
 rw [← hR]
 unfold bldR at hR
 rw [hl] at hR
 by_cases hbig : 4096 < n
 · have HRn := Lib.hid (hR.trans (if_pos hbig))
   have hbI : (4096 : Int) < (n : Int) := by omega
   clear hx hR
   go_enter Tryz.func57, Tryz.ntmps57
   go_wp2_with fail
   go_ret2
   exact PEncPost.bad _ HRn.out (Ext.refl _)
 have hbI : ¬ (4096 : Int) < (n : Int) := by omega
 have HR := Lib.hid (hR.trans (if_neg hbig))
 obtain ⟨f, hf⟩ : ∃ f, f = fileC k ks p xs := ⟨_, rfl⟩
 obtain ⟨m, hm⟩ : ∃ m, m = cntC p xs := ⟨_, rfl⟩
 have hm4 : m ≤ 4096 := by rw [hm]; exact cnt_le hp.1 (by omega)
 have hmd : m = (n + p - 1) / p := by rw [hm]; unfold cntC; rw [hl]
 obtain ⟨er, her⟩ : ∃ er : Nat → Int, er = fun i => (bstC k p xs i).2 := ⟨_, rfl⟩
 rw [← hf, ← hm, ← her] at HR
 have hfk : f.k = k := by rw [hf]; rfl
 have hfr : f.rows = n := by rw [hf]; exact hl
 have hfp : f.per = p := by rw [hf]; rfl
 have hfb : f.bs.length = m := by rw [hf, hm]; show ((List.range _).map _).length = _; rw [List.length_map, List.length_range]
 have hfks : f.ks = ks := by rw [hf]; rfl
 have hH : ftH f = [k, if ks then 1 else 0] ++ (vput n ++ (vput p ++ vput m)) := by unfold ftH; rw [hfk, hfr, hfp, hfb, hfks]
 have hvn := vput_le (u := n) (by omega)
 have hvp := vput_le (u := p) (by omega)
 have hvm := vput_le (u := m) (by omega)
 -- what a good block is
 have Hgood := Lib.hid (fun i (hi : i < m) (h0 : er i = 0) => (show (bstC k p xs i).1.2.length ≤ 65000 ∧ (frsC p xs i).length ≤ 200 from by
   rw [her] at h0
   have hb := bbest_good (k := (k : Int)) (xs := pcX xs p i) (fun v hv => by
     obtain ⟨y, hy1, rfl⟩ := List.mem_map.1 hv
     exact hx.nums _ (List.mem_map_of_mem (pcX_mem hy1))) (fun y hy => (hx.all y (pcX_mem hy)).u8) h0
   have hin := chunk_lt hp.1 hmd hi
   have h1 := List.getElem?_eq_getElem (show i * p < xs.length by omega)
   obtain ⟨h2, h3⟩ := pcX_first hp.1 h1
   exact ⟨hb.2.2.2, by rw [h3]; exact (chkB_good hb.2.1).2.2 _ h2⟩))
 have Hlen := Lib.hid (fun i (hi : i ≤ m) (h0 : ∀ j, j < i → er j = 0) => (show (ftT f i).length ≤ i * 220 ∧ (f.bs.take i).flatten.length ≤ i * 65000 from by
   constructor
   · refine ftT_len2 i (fun j hj => ?_)
     obtain ⟨a, b⟩ := Hgood.out j (by omega) (h0 j hj)
     rw [hf, fileC_bs (by rw [← hm]; omega)]
     refine ⟨a, ?_⟩
     cases ks with
     | false => exact Nat.zero_le _
     | true => rw [fileC_fs (by rw [← hm]; omega)]; exact b
   · refine Nat.le_trans (flat_le (m := 65000) (fun t ht => ?_)) (by rw [List.length_take]; exact Nat.mul_le_mul_right _ (Nat.min_le_left _ _))
     obtain ⟨j, hj⟩ := List.getElem?_of_mem ht
     rw [List.getElem?_take] at hj
     split at hj
     · rename_i hji
       have := (Hgood.out j (by omega) (h0 j hji)).1
       rw [← fileC_bs (ks := ks) (by rw [← hm]; omega), ← hf, List.getD_eq_getElem?_getD, hj] at this
       exact this
     · cases hj))
 have HFt := Lib.hid (fun i (hi : i < m) => (show ftT f (i + 1) = ftT f i ++ (vput (bstC k p xs i).1.2.length ++ (if ks then vput (frsC p xs i).length ++ frsC p xs i else [])) from by
   show ftT f i ++ ftE f.ks (f.bs.getD i []) (f.fs.getD i []) = _
   rw [hfks, hf, fileC_bs (by rw [← hm]; exact hi)]
   cases ks with
   | false => rfl
   | true => rw [fileC_fs (by rw [← hm]; exact hi)]; rfl))
 have HBt := Lib.hid (fun i (hi : i < m) => (show (f.bs.take (i + 1)).flatten = (f.bs.take i).flatten ++ (bstC k p xs i).1.2 from by
   rw [take_flat (by rw [hfb]; exact hi), hf, fileC_bs (by rw [← hm]; exact hi)]))
 have Hall := Lib.hid (fun (h0 : ∀ j, j < m → er j = 0) => (show R = writeR f ∧ FlB f from ⟨HR.out.trans (if_neg (fun q => q (fstE_zero.2 h0))), by
   rw [hf]
   exact fileC_ok hk hp (by omega) hx.nums (fun x h => (hx.all x h).u8) (fun i hi => by
     have := h0 i (by rw [hm]; exact hi)
     rw [her] at this
     exact this)⟩))
 have Hbad := Lib.hid (fun i (hi : i < m) (h0 : ∀ j, j < i → er j = 0) (h1 : er i ≠ 0) => (show R = ([], er i) from by
   have h2 := fstE_first h0 hi h1
   rw [HR.out, if_pos (by rw [h2]; exact h1), h2]))
 have Hbst := Lib.hid (show ∀ i, bstC k p xs i = bbestR k (pcX xs p i) from fun i => rfl)
 have Her := Lib.hid (show ∀ i, er i = (bstC k p xs i).2 from fun i => by rw [her])
 have HfB : Hid (ftB f = ftH f ++ ftT f m) := Lib.hid (by unfold ftB; rw [hfb])
 have HfL : Hid ((f.bs.take m).flatten = f.bs.flatten) := Lib.hid (by rw [List.take_of_length_le (Nat.le_of_eq hfb)])
 have HF0 : Hid (ftH f = ftH f ++ ftT f 0) := Lib.hid (List.append_nil _).symm
 obtain ⟨fl, hfl⟩ : ∃ fl : Nat, fl = if ks then 1 else 0 := ⟨_, rfl⟩
 rw [← hfl] at hH
 have HH := Lib.hid hH
 have Hx := Lib.hid hx
 have Hcx := Lib.hid hcx
 have Hl := Lib.hid hl
 have Hmd := Lib.hid hmd
 have hk8 : IntKind.u8.wrap (k : Int) = (k : Int) := IntWalk.u8_in _ (by omega)
 have hw1 : IntKind.i64.wrap ((n : Int) + (p : Int)) = (n : Int) + (p : Int) := IntWalk.i64_in _ (by omega)
 have hw2 : IntKind.i64.wrap ((n : Int) + (p : Int) - 1) = (n : Int) + (p : Int) - 1 := IntWalk.i64_in _ (by omega)
 have hq1 : ((n : Int) + (p : Int) - 1).tdiv (p : Int) = (m : Int) := by
   rw [show (n : Int) + (p : Int) - 1 = ((n + p - 1 : Nat) : Int) by omega, hmd]; rfl
 have hq2 : ((n : Int) + (p : Int) - 1) / (p : Int) = (m : Int) := by rw [← hq1, Int.tdiv_eq_ediv_of_nonneg (by omega)]
 have hq3 : IntKind.i64.wrap (((n : Int) + (p : Int) - 1).tdiv (p : Int)) = (m : Int) := by rw [hq1]; exact IntWalk.i64_in _ (by omega)
 have hq4 : IntKind.i64.wrap (m : Int) = (m : Int) := IntWalk.i64_in _ (by omega)
 have hnz : ((p : Int) == 0) = false := by simp; omega
 have hnz2 : ¬ (p : Int) = 0 := by omega
 have hnz3 : ¬ p = 0 := by omega
 have hpp : (1 : Int) ≤ (p : Int) := by omega
 have hs0 : (0 : Int) ≤ (n : Int) + (p : Int) - 1 := by omega
 have hwn : IntKind.u64.wrap (n : Int) = (n : Int) := IntWalk.u64_in _ (by omega)
 have hwp : IntKind.u64.wrap (p : Int) = (p : Int) := IntWalk.u64_in _ (by omega)
 have hwm : IntKind.u64.wrap (m : Int) = (m : Int) := IntWalk.u64_in _ (by omega)
 clear hx hcx hR hf hm hmd her hfk hfr hfp hfb hfks hH hl
 cases ks with
 | false =>
   obtain rfl : fl = 0 := hfl
   have hne0 : ∀ (W : World), RB w (w.alloc (.cells #[.int .u8 (k : Int), .int .u8 0] 5)) (some ⟨w.heap.size, 0, none⟩) 2 [k, 0] none 0 [] := fun _ => ⟨(Ext.refl _).alloc _, ownLit w [k, 0] (by simp), Own.nil .., fun p q _ hq => by cases hq⟩
   have HB0 := Lib.hid (hne0 w)
   clear hne0
   obtain ⟨V1, hV1⟩ : ∃ V, V = vput n := ⟨_, rfl⟩
   obtain ⟨V2, hV2⟩ : ∃ V, V = vput p := ⟨_, rfl⟩
   obtain ⟨V3, hV3⟩ : ∃ V, V = vput m := ⟨_, rfl⟩
   have HP1 := Lib.hid (fun W => refPut_any n W (by omega))
   have HP2 := Lib.hid (fun W => refPut_any p W (by omega))
   have HP3 := Lib.hid (fun W => refPut_any m W (by omega))
   rw [← hV1] at HP1 HH hvn
   rw [← hV2] at HP2 HH hvp
   rw [← hV3] at HP3 HH hvm
   clear hV1 hV2 hV3
   go_enter Tryz.func57, Tryz.ntmps57
   go_wp2_with fail
   refine (HP1.out _).mono ?_
   rintro e w1 ⟨A1, c1, rfl, ho1, he1⟩
   have hB1 := HB0.out.ext' he1
   go_wp2_with fail
   refine (hB1.addF' A1 _ c1 V1 ho1.rd (fun _ => HB0.out.neF ho1) (by simp; omega)).mono ?_
   rintro e w2 ⟨A2, c2, F2, rfl, HF2, hB2, _⟩
   have hL2 : F2.length ≤ 12 := by rw [HF2.out, List.length_append]; simp; omega
   go_wp2_with fail
   refine (HP2.out _).mono ?_
   rintro e w3 ⟨A3, c3, rfl, ho3, he3⟩
   have hB3 := hB2.ext' he3
   go_wp2_with fail
   refine (hB3.addF' A3 _ c3 V2 ho3.rd (fun _ => hB2.neF ho3) (by omega)).mono ?_
   rintro e w4 ⟨A4, c4, F4, rfl, HF4, hB4, _⟩
   have hL4 : F4.length ≤ 22 := by rw [HF4.out, List.length_append]; omega
   go_wp2_with fail
   refine (HP3.out _).mono ?_
   rintro e w5 ⟨A5, c5, rfl, ho5, he5⟩
   have hB5 := hB4.ext' he5
   go_wp2_with fail
   refine (hB5.addF' A5 _ c5 V3 ho5.rd (fun _ => hB4.neF ho5) (by omega)).mono ?_
   rintro e w6 ⟨A6, c6, F6, rfl, HF6, hB6, _⟩
   have HF0' := Lib.hid (show F6 = ftH f ++ ftT f 0 by rw [← HF0.out, HH.out, HF6.out, HF4.out, HF2.out]; simp)
   have HB6 := Lib.hid hB6.mkO
   have HO0 := Lib.hid (show ([] : List Nat) = (f.bs.take 0).flatten from rfl)
   have HZ0 := Lib.hid (show ∀ j, j < 0 → er j = 0 from fun j hj => absurd hj (Nat.not_lt_zero _))
   have hHl : (ftH f).length ≤ 40 := by rw [HH.out]; simp; omega
   clear hB1 hB2 hB3 hB4 hB5 hB6 ho1 ho3 ho5 he1 he3 he5 HP1 HP2 HP3 HB0 HF2 HF4 HF6 hL2 hL4 HF0 HH
   go_wp2_with fail
   go_loopw [12, 13, 14] (fun fv ov iv wr => ∃ (i : Nat) (Af : Option Addr) (cf : Nat) (F : List Nat) (Ao : Option Addr) (co : Nat) (O : List Nat), i ≤ m ∧ iv = .int .i64 (i : Int) ∧ fv = .slice Af F.length cf ∧ ov = .slice Ao O.length co ∧ Hid (F = ftH f ++ ftT f i) ∧ Hid (O = (f.bs.take i).flatten) ∧ Hid (∀ j, j < i → er j = 0) ∧ Hid (RB w wr Af cf F Ao co O)) (fun _ _ iv _ => m - (intOf iv).toNat)
   case atStart => exact ⟨0, A6, c6, F6, _, 0, [], Nat.zero_le _, rfl, rfl, rfl, HF0'.out, HO0.out, HZ0.out, HB6.out⟩
   case round =>
     clear HF0' HB6 HO0 HZ0
     obtain ⟨i, Af, cf, F, Ao, co, O, hi, rfl, rfl, rfl, HF, HO, HZ, HB⟩ := hrel
     by_cases hlt : i < m
     · have hin := chunk_lt hp.1 Hmd.out hlt
       obtain ⟨hft, hot⟩ := Hlen.out i hi HZ.out
       have hFl : F.length ≤ 1000000 := by rw [HF.out, List.length_append]; omega
       have hOl : O.length ≤ 270000000 := by rw [HO.out]; omega
       have HFt' := Lib.hid (HFt.out i hlt)
       have HBt' := Lib.hid (HBt.out i hlt)
       obtain ⟨t, ht⟩ : ∃ t, t = i * p := ⟨_, rfl⟩
       rw [← ht] at hin
       obtain ⟨z, hz⟩ : ∃ z, z = min p (n - t) := ⟨_, rfl⟩
       have hz0 : 0 < z := by omega
       have hzp : z ≤ p := by omega
       have hzn : t + z ≤ n := by omega
       have Hpl := Lib.hid (show (pcX xs p i).length = z by rw [pcX_len Hl.out, ← ht, ← hz])
       have Hpg := Lib.hid (fun q (hq : q < z) => (show (pcX xs p i)[q]? = xs[t + q]? by rw [pcX_get Hl.out (by rw [← ht, ← hz]; exact hq), ← ht]))
       have htb : t ≤ 4096 := by omega
       have htI : (i : Int) * (p : Int) = (t : Int) := by rw [ht]; exact (Int.natCast_mul i p).symm
       have htw : IntKind.i64.wrap ((i : Int) * (p : Int)) = (t : Int) := by rw [htI]; exact IntWalk.i64_in _ (by omega)
       have hi1 : IntKind.i64.wrap ((i : Int) + 1) = (i : Int) + 1 := IntWalk.i64_in _ (by omega)
       have hipI : ((i : Int) + 1) * (p : Int) = (t : Int) + (p : Int) := by rw [Int.add_mul, htI, Int.one_mul]
       have hipw : IntKind.i64.wrap (((i : Int) + 1) * (p : Int)) = (t : Int) + (p : Int) := by rw [hipI]; exact IntWalk.i64_in _ (by omega)
       have htw2 : IntKind.i64.wrap ((t : Int) + (p : Int)) = (t : Int) + (p : Int) := IntWalk.i64_in _ (by omega)
       have htw3 : IntKind.i64.wrap (t : Int) = (t : Int) := IntWalk.i64_in _ (by omega)
       have Hz := Lib.hid hz
       have hiI : (i : Int) < (m : Int) := by omega
       obtain ⟨wo, hwo⟩ : ∃ W, W = wr := ⟨_, rfl⟩
       rw [← hwo] at HB ⊢
       clear hwo
       have HX0 := Lib.hid (show OwnX (wo.alloc (.cells #[] 61)) wo.heap.size (some ⟨wo.heap.size, 0, none⟩) 0 ((pcX xs p i).take 0) from OwnX.made wo (Nat.le_refl _))
       have HEa := Lib.hid (show Ext wo (wo.alloc (.cells #[] 61)) from (Ext.refl _).alloc _)
       clear ht hz htI hft hot
       go_wp2_with fail
       go_loopw [15, 16] (fun pv kv wr => ∃ (q : Nat) (Ap : Option Addr) (cp : Nat), q ≤ z ∧ kv = .int .i64 ((t : Int) + (q : Int)) ∧ pv = .slice Ap q cp ∧ Hid (OwnX wr wo.heap.size Ap cp ((pcX xs p i).take q)) ∧ Hid (Ext wo wr)) (fun _ kv _ => (t + z) - (intOf kv).toNat)
       case atStart => exact ⟨0, _, 0, Nat.zero_le _, by simp, rfl, HX0.out, HEa.out⟩
       case round =>
         clear HX0 HEa
         obtain ⟨q, Ap, cp, hq, rfl, rfl, HX, HE2⟩ := hrel
         by_cases hqz : q < z
         · have hEw : Ext w wr := HB.out.ext.trans HE2.out
           obtain ⟨b, o, x, rfl, hbl, hxj, hc0, hc1, hc2, hxin⟩ := (Hx.out.ext hEw).at_ (j := t + q) (by omega)
           have hxp := (Hpg.out q hqz).trans hxj
           have Htk := Lib.hid (show (pcX xs p i).take (q + 1) = (pcX xs p i).take q ++ [x] by rw [List.take_add_one, hxp]; rfl)
           have Hlq := Lib.hid (show ((pcX xs p i).take q).length = q by rw [List.length_take, Hpl.out]; omega)
           have hnt : (((t + q : Nat) : Int)) = (t : Int) + (q : Int) := by omega
           have g1 : (t : Int) + (q : Int) < (n : Int) := by omega
           have g2 : (t : Int) + (q : Int) < (t : Int) + (p : Int) := by omega
           have g3 : (0 : Int) ≤ (t : Int) + (q : Int) := by omega
           have g4 : ((t : Int) + (q : Int)).toNat = t + q := by omega
           have g5 : IntKind.i64.wrap ((t : Int) + (q : Int) + 1) = (t : Int) + (q : Int) + 1 := IntWalk.i64_in _ (by omega)
           have hz2 := HE2.out.size
           obtain ⟨nul, num, xA, xc, xt⟩ := x
           simp only at hc0 hc1 hc2
           clear hxin hxj hxp
           go_wp2_with (at_builtin; refine wpList_pushX (w0 := wo) (base := wo.heap.size) ⟨nul, num, xA, xc, xt⟩ rfl _ _ rfl (HX.out.ext ((Ext.refl _).alloc _)) q Hlq.out rfl rfl ?_ (by omega) (HE2.out.alloc _) (by simp; omega) ?_; (focus (exact heap_at (by simp))); intro A3 c3 w3 hO3 _ hE3 hz3)
           go_roundw
           case rel => exact ⟨q + 1, A3, c3, by omega, by go_num, rfl, by rw [Htk.out]; exact hO3, hE3⟩
           case measure => simp [intOf]; omega
         · obtain rfl : q = z := by omega
           have ho := HX.out
           rw [List.take_of_length_le (Nat.le_of_eq Hpl.out)] at ho
           have hEw : Ext w wr := HB.out.ext.trans HE2.out
           have hrx : RdX wr Ap q (pcX xs p i) := by
             have := ho.rdX (fun x hx => (Hx.out.ext hEw).all x (pcX_mem hx))
             rwa [Hpl.out] at this
           have HBs := Lib.hid (refBest_any (k : Int) Ap q cp (pcX xs p i) wr hrx (pcX_cap Hcx.out p i) (by omega))
           rw [← Hbst.out i] at HBs
           unfold BestPost at HBs
           have HE := Lib.hid (Her.out i)
           obtain ⟨RR, hRR⟩ : ∃ RR, RR = bstC k p xs i := ⟨_, rfl⟩
           have Hgd := Lib.hid (fun h0 => Hgood.out i hlt h0)
           have Hbd := Lib.hid (fun h0 => Hbad.out i hlt HZ.out h0)
           rw [← hRR] at HBs HE Hgd HFt' HBt'
           obtain ⟨⟨cd, bl⟩, e0⟩ := RR
           simp only at HBs HE Hgd HFt' HBt'
           rw [HE.out] at Hgd Hbd
           have HB2 := Lib.hid (HB.out.ext' HE2.out)
           obtain ⟨gp, oo, y, hAp, hgp, hyj, _, _, yc2, hyin⟩ := hrx.at_ hz0
           have hyx := pcX_zero hp.1 hyj
           obtain ⟨hym, hyf⟩ := pcX_first hp.1 hyx
           have hgb := (ho.block _ hAp).1
           have HPT := Lib.hid (show PT wr gp (oo + 2) (.slice y.A y.txt.length y.c) Af Ao from ⟨hgp, by simpa using yc2, fun r hr e => by
             have := (HB.out.foot.block r hr).2
             have hgb' : wo.heap.size ≤ gp := hgb
             omega, fun r hr e => by
             have := (HB.out.out.block r hr).2
             have hgb' : wo.heap.size ≤ gp := hgb
             omega⟩)
           have Hyr := Lib.hid (show Rd .u8 w y.A y.txt.length y.txt from (Hx.out.all y (List.mem_of_getElem? hyx)).rd)
           have hsel : ((t : Int) + (q : Int) < (n : Int) ∧ ¬ ((t : Int) + (q : Int) < (t : Int) + (p : Int))) ∨ ¬ ((t : Int) + (q : Int) < (n : Int)) := by have := Hz.out; omega
           rw [hyf] at Hgd HFt'
           obtain ⟨ynul, ynum, yA, yk, yt⟩ := y
           simp only at HPT Hyr Hgd HFt'
           subst hAp
           clear hRR ho hrx hyj yc2 hyin hyx hym hyf HX HE2 hgb
           by_cases he0 : e0 = 0
           rotate_left
           · have HRn := Lib.hid (Hbd.out he0)
             have heb : (e0 != 0) = true := by simp [he0]
             rcases hsel with ⟨g1, g2⟩ | g1
             all_goals
               go_wp2_with fail
               refine HBs.out.mono ?_
               rintro e w7 ⟨A7, c7, rfl, _, he7⟩
               go_wp2_with fail
               go_ret2
               exact PEncPost.bad _ HRn.out (hEw.trans he7)
           subst he0
           obtain ⟨gl, gt⟩ := Hgd.out rfl
           have hee : ((0 : Int) != 0) = false := by decide
           have HZ2 := Lib.hid (show ∀ j, j < i + 1 → er j = 0 from fun j hj => by
             rcases Nat.lt_or_eq_of_le (Nat.le_of_lt_succ hj) with q1 | q1
             · exact HZ.out j q1
             · rw [q1]; exact HE.out)
           have HQ1 := Lib.hid (fun W => refPut_any bl.length W (by omega))
           have hvb := vput_le (u := bl.length) (by omega)
           obtain ⟨U1, hU1⟩ : ∃ V, V = vput bl.length := ⟨_, rfl⟩
           rw [← hU1] at HQ1 hvb HFt'
           have hblw : IntKind.u64.wrap (bl.length : Int) = (bl.length : Int) := IntWalk.u64_in _ (by omega)
           skip
           clear hU1 HZ Hgd Hbd
           rcases hsel with ⟨g1, g2⟩ | g1
           all_goals
             go_wp2_with fail
             refine HBs.out.mono ?_
             rintro e w7 ⟨A7, c7, rfl, ho7, he7⟩
             have hB7 := HB2.out.ext' he7
             have hP7 := HPT.out.ext' he7
             go_wp2_with fail
             refine (hB7.addO' A7 _ c7 bl ho7.rd (fun _ => HB2.out.neO ho7) (by omega)).mono ?_
             rintro e w8 ⟨A8, c8, O8, rfl, HO8, hB8, hT8, _, _⟩
             have hP8 := hT8 _ _ _ hP7
             go_wp2_with fail
             refine (HQ1.out _).mono ?_
             rintro e w9 ⟨A9, c9, rfl, ho9, he9⟩
             have hB9 := hB8.ext' he9
             have hP9 := hP8.ext' he9
             go_wp2_with fail
             refine (hB9.addF' A9 _ c9 U1 ho9.rd (fun _ => hB8.neF ho9) (by omega)).mono ?_
             rintro e w10 ⟨A10, c10, F10, rfl, HF10, hB10, hT10⟩
             have hP10 := hT10 _ _ _ hP9
             have kp10 := hP10.c
             have HOn := Lib.hid (show O8 = (f.bs.take (i + 1)).flatten by rw [HBt'.out, HO8.out, HO.out])
             clear hB7 hP7 hB8 hT8 hP8 hB9 hP9 hT10 ho7 he7 ho9 he9
             have HFn := Lib.hid (show F10 = ftH f ++ ftT f (i + 1) by rw [HFt'.out, HF10.out, HF.out]; simp)
             go_wp2_with fail
             go_roundw
             case rel => exact ⟨i + 1, A10, c10, F10, A8, c8, O8, by omega, by go_num, rfl, rfl, HFn.out, HOn.out, HZ2.out, hB10⟩
             case measure => simp [intOf]; omega
     · obtain rfl : i = m := by omega
       obtain ⟨hft, hot⟩ := Hlen.out i (Nat.le_refl _) HZ.out
       obtain ⟨hRw, hok⟩ := Hall.out HZ.out
       have hFe : F = ftB f := by rw [HF.out, HfB.out]
       have hOe : O = f.bs.flatten := by rw [HO.out, HfL.out]
       have hFu : U8 F := by rw [hFe]; exact ftB_u8 hok
       have hFl : F.length ≤ 1000000 := by rw [hFe]; exact ftB_len hok
       have hOl : O.length ≤ 270000000 := by rw [hOe]; exact Nat.le_trans (flat_le hok.zb) (by have := hok.nb; omega)
       have hRw2 : R = if 65536 < F.length then ([], 4) else if 1048576 < (O ++ (fr 1 F ++ place O.length)).length then ([], 4) else (O ++ (fr 1 F ++ place O.length), 0) := by rw [hRw, hFe, hOe]; rfl
       have hfll := fr_len 1 F
       have hpl : (place O.length).length = 8 := by unfold place; rw [sl_len, upk_len]
       have HS := Lib.hid (fun W A c (hW : Rd .u8 W A F.length F) => refFPut_any 1 A F.length c F W hW hFu)
       have HRw := Lib.hid hRw2
       have hmI : ¬ (i : Int) < (i : Int) := by omega
       clear hRw hRw2 hok hFe hOe HF HO HZ hft hot Hall Hlen Hbad Hgood HFt HBt HfB HfL HR Her Hbst hFu
       by_cases hlong : 65536 < F.length
       · have hfe : fputE 1 F = 4 := fputE_long (by decide) hlong
         have hfL : fputL 1 F = [] := by unfold fputL; rw [hfe, if_neg (by decide)]
         unfold FPutPost at HS
         rw [hfe, hfL] at HS
         have HRn := Lib.hid (HRw.out.trans (if_pos hlong))
         clear HRw hlong hfe hfL
         go_wp2_with fail
         refine (HS.out _ _ _ HB.out.foot.rd).mono ?_
         rintro e w7 ⟨A7, c7, rfl, ho7, he7⟩
         go_wp2_with fail
         go_ret2
         exact PEncPost.bad _ HRn.out (HB.out.ext.trans he7)
       have hfe : fputE 1 F = 0 := fputE_ok (by decide) hlong
       have hfL : fputL 1 F = fr 1 F := by unfold fputL; rw [hfe, if_pos rfl]; rfl
       unfold FPutPost at HS
       rw [hfe, hfL] at HS
       have HR2 := Lib.hid (HRw.out.trans (if_neg hlong))
       have hll : (O ++ (fr 1 F ++ place O.length)).length = O.length + (fr 1 F).length + 8 := by rw [List.length_append, List.length_append, hpl]; omega
       have hgl : (fr 1 F).length ≤ 70000 := by rw [hfll]; omega
       rw [hll] at HR2
       clear HRw hlong hfe hfL hfll hll
       obtain ⟨G, hG⟩ : ∃ G, G = fr 1 F := ⟨_, rfl⟩
       rw [← hG] at HS HR2 hgl
       have HPl : Hid (place O.length = sl (upk 8 4 O.length)) := Lib.hid rfl
       have Hul := Lib.hid (show (upk 8 4 O.length).length = 4 from upk_len _ _ _)
       have Huu := Lib.hid (show U8 (upk 8 4 O.length) from U8_wd.2 (upk_wd _ _ _))
       have hs1 : IntKind.i64.wrap ((O.length : Int) + (G.length : Int)) = (O.length : Int) + (G.length : Int) := IntWalk.i64_in _ (by omega)
       obtain ⟨xl, hxl⟩ : ∃ x, x = O.length + G.length + 8 := ⟨_, rfl⟩
       rw [← hxl] at HR2
       have hs2 : IntKind.i64.wrap ((O.length : Int) + (G.length : Int) + 8) = (xl : Int) := by rw [show (O.length : Int) + (G.length : Int) + 8 = (xl : Int) by omega]; exact IntWalk.i64_in _ (by omega)
       have hs3 : IntKind.u64.wrap (O.length : Int) = (O.length : Int) := IntWalk.u64_in _ (by omega)
       have HLw := Lib.hid (fun W => low_any O.length 4 W (by omega) (by decide))
       have HSe := Lib.hid (fun W A c (hW : Rd .u8 W A 4 (upk 8 4 O.length)) => refSeal_any A 4 c (upk 8 4 O.length) W hW Huu.out (by decide))
       rw [← HPl.out] at HSe
       obtain ⟨E, hE⟩ : ∃ E, E = place O.length := ⟨_, rfl⟩
       rw [← hE] at HSe HR2 hpl
       obtain ⟨L4, hL4⟩ : ∃ E, E = upk 8 4 O.length := ⟨_, rfl⟩
       rw [← hL4] at HSe HLw Hul
       clear hG hE hL4 HPl Huu hxl
       by_cases hbig2 : 1048576 < xl
       · have HRn := Lib.hid (HR2.out.trans (if_pos hbig2))
         have hbI2 : (1048576 : Int) < (xl : Int) := by omega
         clear HR2 hbig2
         go_wp2_with fail
         refine (HS.out _ _ _ HB.out.foot.rd).mono ?_
         rintro e w7 ⟨A7, c7, rfl, ho7, he7⟩
         go_wp2_with fail
         go_ret2
         exact PEncPost.bad _ HRn.out (HB.out.ext.trans he7)
       · have HRn := Lib.hid (HR2.out.trans (if_neg hbig2))
         have hbI2 : ¬ (1048576 : Int) < (xl : Int) := by omega
         clear HR2 hbig2
         go_wp2_with fail
         refine (HS.out _ _ _ HB.out.foot.rd).mono ?_
         rintro e w7 ⟨A7, c7, rfl, ho7, he7⟩
         have hB7 := HB.out.ext' he7
         have hne7 := HB.out.neO ho7
         go_wp2_with fail
         refine (HLw.out _).mono ?_
         rintro e w8 ⟨A8, c8, rfl, ho8, he8⟩
         go_wp2_with fail
         refine (HSe.out _ _ _ (ho8.rd' Hul.out)).mono ?_
         rintro e w9 ⟨A9, c9, rfl, ho9, he9⟩
         have hB9 := (hB7.ext' he8).ext' he9
         go_wp2_with fail
         refine (hB9.addO' A7 _ c7 G ((ho7.rd.ext he8).ext he9) (fun _ => hne7) (by omega)).mono ?_
         rintro e w10 ⟨A10, c10, O10, rfl, HO10, hB10, _, hg10', hq10⟩
         have hL10 : O10.length ≤ 280000000 := by rw [HO10.out, List.length_append]; omega
         have hAo := fun p (hp' : Ao = some p) => (HB.out.out.block p hp').2
         have hz7 := he7.size
         have hz8 := he8.size
         have hz9 := he9.size
         have hg10 : Rd .u8 w10 A9 8 E := (ho9.rd' hpl).grownR hg10' (fun q hq' e => by
           have h1 := (ho9.block q hq').1
           obtain ⟨p, hp', e'⟩ := Option.map_eq_some_iff.1 e
           have h2 := hAo p hp'
           omega)
         go_wp2_with fail
         refine (hB10.addO' A9 _ c9 E hg10 (fun _ p q hp' hq' e => by
           have h1 := ho9.block q hq'
           rcases hq10 p hp' with z | z
           · obtain ⟨p', hp2, e'⟩ := Option.map_eq_some_iff.1 z.symm
             have h2 := hAo p' hp2
             omega
           · omega) (by omega)).mono ?_
         rintro e w11 ⟨A11, c11, O11, rfl, HO11, hB11, _, _, _⟩
         go_wp2_with fail
         go_ret2
         exact PEncPost.good _ HRn.out (by rw [HO11.out, HO10.out]; simp) (by rw [show O ++ (G ++ E) = O11 by rw [HO11.out, HO10.out]; simp]; exact hB11.out) hB11.ext
 | true =>
   obtain rfl : fl = 1 := hfl
   have hne0 : ∀ (W : World), RB w (w.alloc (.cells #[.int .u8 (k : Int), .int .u8 1] 5)) (some ⟨w.heap.size, 0, none⟩) 2 [k, 1] none 0 [] := fun _ => ⟨(Ext.refl _).alloc _, ownLit w [k, 1] (by simp), Own.nil .., fun p q _ hq => by cases hq⟩
   have HB0 := Lib.hid (hne0 w)
   clear hne0
   obtain ⟨V1, hV1⟩ : ∃ V, V = vput n := ⟨_, rfl⟩
   obtain ⟨V2, hV2⟩ : ∃ V, V = vput p := ⟨_, rfl⟩
   obtain ⟨V3, hV3⟩ : ∃ V, V = vput m := ⟨_, rfl⟩
   have HP1 := Lib.hid (fun W => refPut_any n W (by omega))
   have HP2 := Lib.hid (fun W => refPut_any p W (by omega))
   have HP3 := Lib.hid (fun W => refPut_any m W (by omega))
   rw [← hV1] at HP1 HH hvn
   rw [← hV2] at HP2 HH hvp
   rw [← hV3] at HP3 HH hvm
   clear hV1 hV2 hV3
   go_enter Tryz.func57, Tryz.ntmps57
   go_wp2_with fail
   refine (HP1.out _).mono ?_
   rintro e w1 ⟨A1, c1, rfl, ho1, he1⟩
   have hB1 := HB0.out.ext' he1
   go_wp2_with fail
   refine (hB1.addF' A1 _ c1 V1 ho1.rd (fun _ => HB0.out.neF ho1) (by simp; omega)).mono ?_
   rintro e w2 ⟨A2, c2, F2, rfl, HF2, hB2, _⟩
   have hL2 : F2.length ≤ 12 := by rw [HF2.out, List.length_append]; simp; omega
   go_wp2_with fail
   refine (HP2.out _).mono ?_
   rintro e w3 ⟨A3, c3, rfl, ho3, he3⟩
   have hB3 := hB2.ext' he3
   go_wp2_with fail
   refine (hB3.addF' A3 _ c3 V2 ho3.rd (fun _ => hB2.neF ho3) (by omega)).mono ?_
   rintro e w4 ⟨A4, c4, F4, rfl, HF4, hB4, _⟩
   have hL4 : F4.length ≤ 22 := by rw [HF4.out, List.length_append]; omega
   go_wp2_with fail
   refine (HP3.out _).mono ?_
   rintro e w5 ⟨A5, c5, rfl, ho5, he5⟩
   have hB5 := hB4.ext' he5
   go_wp2_with fail
   refine (hB5.addF' A5 _ c5 V3 ho5.rd (fun _ => hB4.neF ho5) (by omega)).mono ?_
   rintro e w6 ⟨A6, c6, F6, rfl, HF6, hB6, _⟩
   have HF0' := Lib.hid (show F6 = ftH f ++ ftT f 0 by rw [← HF0.out, HH.out, HF6.out, HF4.out, HF2.out]; simp)
   have HB6 := Lib.hid hB6.mkO
   have HO0 := Lib.hid (show ([] : List Nat) = (f.bs.take 0).flatten from rfl)
   have HZ0 := Lib.hid (show ∀ j, j < 0 → er j = 0 from fun j hj => absurd hj (Nat.not_lt_zero _))
   have hHl : (ftH f).length ≤ 40 := by rw [HH.out]; simp; omega
   clear hB1 hB2 hB3 hB4 hB5 hB6 ho1 ho3 ho5 he1 he3 he5 HP1 HP2 HP3 HB0 HF2 HF4 HF6 hL2 hL4 HF0 HH
   go_wp2_with fail
   go_loopw [12, 13, 14] (fun fv ov iv wr => ∃ (i : Nat) (Af : Option Addr) (cf : Nat) (F : List Nat) (Ao : Option Addr) (co : Nat) (O : List Nat), i ≤ m ∧ iv = .int .i64 (i : Int) ∧ fv = .slice Af F.length cf ∧ ov = .slice Ao O.length co ∧ Hid (F = ftH f ++ ftT f i) ∧ Hid (O = (f.bs.take i).flatten) ∧ Hid (∀ j, j < i → er j = 0) ∧ Hid (RB w wr Af cf F Ao co O)) (fun _ _ iv _ => m - (intOf iv).toNat)
   case atStart => exact ⟨0, A6, c6, F6, _, 0, [], Nat.zero_le _, rfl, rfl, rfl, HF0'.out, HO0.out, HZ0.out, HB6.out⟩
   case round =>
     clear HF0' HB6 HO0 HZ0
     obtain ⟨i, Af, cf, F, Ao, co, O, hi, rfl, rfl, rfl, HF, HO, HZ, HB⟩ := hrel
     by_cases hlt : i < m
     · have hin := chunk_lt hp.1 Hmd.out hlt
       obtain ⟨hft, hot⟩ := Hlen.out i hi HZ.out
       have hFl : F.length ≤ 1000000 := by rw [HF.out, List.length_append]; omega
       have hOl : O.length ≤ 270000000 := by rw [HO.out]; omega
       have HFt' := Lib.hid (HFt.out i hlt)
       have HBt' := Lib.hid (HBt.out i hlt)
       obtain ⟨t, ht⟩ : ∃ t, t = i * p := ⟨_, rfl⟩
       rw [← ht] at hin
       obtain ⟨z, hz⟩ : ∃ z, z = min p (n - t) := ⟨_, rfl⟩
       have hz0 : 0 < z := by omega
       have hzp : z ≤ p := by omega
       have hzn : t + z ≤ n := by omega
       have Hpl := Lib.hid (show (pcX xs p i).length = z by rw [pcX_len Hl.out, ← ht, ← hz])
       have Hpg := Lib.hid (fun q (hq : q < z) => (show (pcX xs p i)[q]? = xs[t + q]? by rw [pcX_get Hl.out (by rw [← ht, ← hz]; exact hq), ← ht]))
       have htb : t ≤ 4096 := by omega
       have htI : (i : Int) * (p : Int) = (t : Int) := by rw [ht]; exact (Int.natCast_mul i p).symm
       have htw : IntKind.i64.wrap ((i : Int) * (p : Int)) = (t : Int) := by rw [htI]; exact IntWalk.i64_in _ (by omega)
       have hi1 : IntKind.i64.wrap ((i : Int) + 1) = (i : Int) + 1 := IntWalk.i64_in _ (by omega)
       have hipI : ((i : Int) + 1) * (p : Int) = (t : Int) + (p : Int) := by rw [Int.add_mul, htI, Int.one_mul]
       have hipw : IntKind.i64.wrap (((i : Int) + 1) * (p : Int)) = (t : Int) + (p : Int) := by rw [hipI]; exact IntWalk.i64_in _ (by omega)
       have htw2 : IntKind.i64.wrap ((t : Int) + (p : Int)) = (t : Int) + (p : Int) := IntWalk.i64_in _ (by omega)
       have htw3 : IntKind.i64.wrap (t : Int) = (t : Int) := IntWalk.i64_in _ (by omega)
       have Hz := Lib.hid hz
       have hiI : (i : Int) < (m : Int) := by omega
       obtain ⟨wo, hwo⟩ : ∃ W, W = wr := ⟨_, rfl⟩
       rw [← hwo] at HB ⊢
       clear hwo
       have HX0 := Lib.hid (show OwnX (wo.alloc (.cells #[] 61)) wo.heap.size (some ⟨wo.heap.size, 0, none⟩) 0 ((pcX xs p i).take 0) from OwnX.made wo (Nat.le_refl _))
       have HEa := Lib.hid (show Ext wo (wo.alloc (.cells #[] 61)) from (Ext.refl _).alloc _)
       clear ht hz htI hft hot
       go_wp2_with fail
       go_loopw [15, 16] (fun pv kv wr => ∃ (q : Nat) (Ap : Option Addr) (cp : Nat), q ≤ z ∧ kv = .int .i64 ((t : Int) + (q : Int)) ∧ pv = .slice Ap q cp ∧ Hid (OwnX wr wo.heap.size Ap cp ((pcX xs p i).take q)) ∧ Hid (Ext wo wr)) (fun _ kv _ => (t + z) - (intOf kv).toNat)
       case atStart => exact ⟨0, _, 0, Nat.zero_le _, by simp, rfl, HX0.out, HEa.out⟩
       case round =>
         clear HX0 HEa
         obtain ⟨q, Ap, cp, hq, rfl, rfl, HX, HE2⟩ := hrel
         by_cases hqz : q < z
         · have hEw : Ext w wr := HB.out.ext.trans HE2.out
           obtain ⟨b, o, x, rfl, hbl, hxj, hc0, hc1, hc2, hxin⟩ := (Hx.out.ext hEw).at_ (j := t + q) (by omega)
           have hxp := (Hpg.out q hqz).trans hxj
           have Htk := Lib.hid (show (pcX xs p i).take (q + 1) = (pcX xs p i).take q ++ [x] by rw [List.take_add_one, hxp]; rfl)
           have Hlq := Lib.hid (show ((pcX xs p i).take q).length = q by rw [List.length_take, Hpl.out]; omega)
           have hnt : (((t + q : Nat) : Int)) = (t : Int) + (q : Int) := by omega
           have g1 : (t : Int) + (q : Int) < (n : Int) := by omega
           have g2 : (t : Int) + (q : Int) < (t : Int) + (p : Int) := by omega
           have g3 : (0 : Int) ≤ (t : Int) + (q : Int) := by omega
           have g4 : ((t : Int) + (q : Int)).toNat = t + q := by omega
           have g5 : IntKind.i64.wrap ((t : Int) + (q : Int) + 1) = (t : Int) + (q : Int) + 1 := IntWalk.i64_in _ (by omega)
           have hz2 := HE2.out.size
           obtain ⟨nul, num, xA, xc, xt⟩ := x
           simp only at hc0 hc1 hc2
           clear hxin hxj hxp
           go_wp2_with (at_builtin; refine wpList_pushX (w0 := wo) (base := wo.heap.size) ⟨nul, num, xA, xc, xt⟩ rfl _ _ rfl (HX.out.ext ((Ext.refl _).alloc _)) q Hlq.out rfl rfl ?_ (by omega) (HE2.out.alloc _) (by simp; omega) ?_; (focus (exact heap_at (by simp))); intro A3 c3 w3 hO3 _ hE3 hz3)
           go_roundw
           case rel => exact ⟨q + 1, A3, c3, by omega, by go_num, rfl, by rw [Htk.out]; exact hO3, hE3⟩
           case measure => simp [intOf]; omega
         · obtain rfl : q = z := by omega
           have ho := HX.out
           rw [List.take_of_length_le (Nat.le_of_eq Hpl.out)] at ho
           have hEw : Ext w wr := HB.out.ext.trans HE2.out
           have hrx : RdX wr Ap q (pcX xs p i) := by
             have := ho.rdX (fun x hx => (Hx.out.ext hEw).all x (pcX_mem hx))
             rwa [Hpl.out] at this
           have HBs := Lib.hid (refBest_any (k : Int) Ap q cp (pcX xs p i) wr hrx (pcX_cap Hcx.out p i) (by omega))
           rw [← Hbst.out i] at HBs
           unfold BestPost at HBs
           have HE := Lib.hid (Her.out i)
           obtain ⟨RR, hRR⟩ : ∃ RR, RR = bstC k p xs i := ⟨_, rfl⟩
           have Hgd := Lib.hid (fun h0 => Hgood.out i hlt h0)
           have Hbd := Lib.hid (fun h0 => Hbad.out i hlt HZ.out h0)
           rw [← hRR] at HBs HE Hgd HFt' HBt'
           obtain ⟨⟨cd, bl⟩, e0⟩ := RR
           simp only at HBs HE Hgd HFt' HBt'
           rw [HE.out] at Hgd Hbd
           have HB2 := Lib.hid (HB.out.ext' HE2.out)
           obtain ⟨gp, oo, y, hAp, hgp, hyj, _, _, yc2, hyin⟩ := hrx.at_ hz0
           have hyx := pcX_zero hp.1 hyj
           obtain ⟨hym, hyf⟩ := pcX_first hp.1 hyx
           have hgb := (ho.block _ hAp).1
           have HPT := Lib.hid (show PT wr gp (oo + 2) (.slice y.A y.txt.length y.c) Af Ao from ⟨hgp, by simpa using yc2, fun r hr e => by
             have := (HB.out.foot.block r hr).2
             have hgb' : wo.heap.size ≤ gp := hgb
             omega, fun r hr e => by
             have := (HB.out.out.block r hr).2
             have hgb' : wo.heap.size ≤ gp := hgb
             omega⟩)
           have Hyr := Lib.hid (show Rd .u8 w y.A y.txt.length y.txt from (Hx.out.all y (List.mem_of_getElem? hyx)).rd)
           have hsel : ((t : Int) + (q : Int) < (n : Int) ∧ ¬ ((t : Int) + (q : Int) < (t : Int) + (p : Int))) ∨ ¬ ((t : Int) + (q : Int) < (n : Int)) := by have := Hz.out; omega
           rw [hyf] at Hgd HFt'
           obtain ⟨ynul, ynum, yA, yk, yt⟩ := y
           simp only at HPT Hyr Hgd HFt'
           subst hAp
           clear hRR ho hrx hyj yc2 hyin hyx hym hyf HX HE2 hgb
           by_cases he0 : e0 = 0
           rotate_left
           · have HRn := Lib.hid (Hbd.out he0)
             have heb : (e0 != 0) = true := by simp [he0]
             rcases hsel with ⟨g1, g2⟩ | g1
             all_goals
               go_wp2_with fail
               refine HBs.out.mono ?_
               rintro e w7 ⟨A7, c7, rfl, _, he7⟩
               go_wp2_with fail
               go_ret2
               exact PEncPost.bad _ HRn.out (hEw.trans he7)
           subst he0
           obtain ⟨gl, gt⟩ := Hgd.out rfl
           have hee : ((0 : Int) != 0) = false := by decide
           have HZ2 := Lib.hid (show ∀ j, j < i + 1 → er j = 0 from fun j hj => by
             rcases Nat.lt_or_eq_of_le (Nat.le_of_lt_succ hj) with q1 | q1
             · exact HZ.out j q1
             · rw [q1]; exact HE.out)
           have HQ1 := Lib.hid (fun W => refPut_any bl.length W (by omega))
           have hvb := vput_le (u := bl.length) (by omega)
           obtain ⟨U1, hU1⟩ : ∃ V, V = vput bl.length := ⟨_, rfl⟩
           rw [← hU1] at HQ1 hvb HFt'
           have hblw : IntKind.u64.wrap (bl.length : Int) = (bl.length : Int) := IntWalk.u64_in _ (by omega)
           have HQ2 := Lib.hid (fun W => refPut_any yt.length W (by omega))
           have hvy := vput_le (u := yt.length) (by omega)
           obtain ⟨U2, hU2⟩ : ∃ V, V = vput yt.length := ⟨_, rfl⟩
           rw [← hU2] at HQ2 hvy HFt'
           have hytw : IntKind.u64.wrap (yt.length : Int) = (yt.length : Int) := IntWalk.u64_in _ (by omega)
           have hqI : (0 : Int) < (q : Int) := by omega
           clear hU2
           clear hU1 HZ Hgd Hbd
           rcases hsel with ⟨g1, g2⟩ | g1
           all_goals
             go_wp2_with fail
             refine HBs.out.mono ?_
             rintro e w7 ⟨A7, c7, rfl, ho7, he7⟩
             have hB7 := HB2.out.ext' he7
             have hP7 := HPT.out.ext' he7
             go_wp2_with fail
             refine (hB7.addO' A7 _ c7 bl ho7.rd (fun _ => HB2.out.neO ho7) (by omega)).mono ?_
             rintro e w8 ⟨A8, c8, O8, rfl, HO8, hB8, hT8, _, _⟩
             have hP8 := hT8 _ _ _ hP7
             go_wp2_with fail
             refine (HQ1.out _).mono ?_
             rintro e w9 ⟨A9, c9, rfl, ho9, he9⟩
             have hB9 := hB8.ext' he9
             have hP9 := hP8.ext' he9
             go_wp2_with fail
             refine (hB9.addF' A9 _ c9 U1 ho9.rd (fun _ => hB8.neF ho9) (by omega)).mono ?_
             rintro e w10 ⟨A10, c10, F10, rfl, HF10, hB10, hT10⟩
             have hP10 := hT10 _ _ _ hP9
             have kp10 := hP10.c
             have HOn := Lib.hid (show O8 = (f.bs.take (i + 1)).flatten by rw [HBt'.out, HO8.out, HO.out])
             clear hB7 hP7 hB8 hT8 hP8 hB9 hP9 hT10 ho7 he7 ho9 he9
             have hL10 : F10.length ≤ 1000010 := by rw [HF10.out, List.length_append]; omega
             go_wp2_with fail
             refine (HQ2.out _).mono ?_
             rintro e w11 ⟨A11, c11, rfl, ho11, he11⟩
             have hB11 := hB10.ext' he11
             have hP11 := hP10.ext' he11
             go_wp2_with fail
             refine (hB11.addF' A11 _ c11 U2 ho11.rd (fun _ => hB10.neF ho11) (by omega)).mono ?_
             rintro e w12 ⟨A12, c12, F12, rfl, HF12, hB12, hT12⟩
             have hP12 := hT12 _ _ _ hP11
             have kp12 := hP12.c
             have hL12 : F12.length ≤ 1000020 := by rw [HF12.out, List.length_append]; omega
             go_wp2_with fail
             refine (hB12.addF' yA _ yk yt (Hyr.out.ext hB12.ext) (fun h0 p q hp' hq' e => by
               have h1 := (hB12.foot.block p hp').1
               have h2 := Hyr.out.lt h0 q hq'
               omega) (by omega)).mono ?_
             rintro e w13 ⟨A13, c13, F13, rfl, HF13, hB13, _⟩
             have HFn := Lib.hid (show F13 = ftH f ++ ftT f (i + 1) by rw [HFt'.out, HF13.out, HF12.out, HF10.out, HF.out]; simp)
             go_wp2_with fail
             go_roundw
             case rel => exact ⟨i + 1, A13, c13, F13, A8, c8, O8, by omega, by go_num, rfl, rfl, HFn.out, HOn.out, HZ2.out, hB13⟩
             case measure => simp [intOf]; omega
     · obtain rfl : i = m := by omega
       obtain ⟨hft, hot⟩ := Hlen.out i (Nat.le_refl _) HZ.out
       obtain ⟨hRw, hok⟩ := Hall.out HZ.out
       have hFe : F = ftB f := by rw [HF.out, HfB.out]
       have hOe : O = f.bs.flatten := by rw [HO.out, HfL.out]
       have hFu : U8 F := by rw [hFe]; exact ftB_u8 hok
       have hFl : F.length ≤ 1000000 := by rw [hFe]; exact ftB_len hok
       have hOl : O.length ≤ 270000000 := by rw [hOe]; exact Nat.le_trans (flat_le hok.zb) (by have := hok.nb; omega)
       have hRw2 : R = if 65536 < F.length then ([], 4) else if 1048576 < (O ++ (fr 1 F ++ place O.length)).length then ([], 4) else (O ++ (fr 1 F ++ place O.length), 0) := by rw [hRw, hFe, hOe]; rfl
       have hfll := fr_len 1 F
       have hpl : (place O.length).length = 8 := by unfold place; rw [sl_len, upk_len]
       have HS := Lib.hid (fun W A c (hW : Rd .u8 W A F.length F) => refFPut_any 1 A F.length c F W hW hFu)
       have HRw := Lib.hid hRw2
       have hmI : ¬ (i : Int) < (i : Int) := by omega
       clear hRw hRw2 hok hFe hOe HF HO HZ hft hot Hall Hlen Hbad Hgood HFt HBt HfB HfL HR Her Hbst hFu
       by_cases hlong : 65536 < F.length
       · have hfe : fputE 1 F = 4 := fputE_long (by decide) hlong
         have hfL : fputL 1 F = [] := by unfold fputL; rw [hfe, if_neg (by decide)]
         unfold FPutPost at HS
         rw [hfe, hfL] at HS
         have HRn := Lib.hid (HRw.out.trans (if_pos hlong))
         clear HRw hlong hfe hfL
         go_wp2_with fail
         refine (HS.out _ _ _ HB.out.foot.rd).mono ?_
         rintro e w7 ⟨A7, c7, rfl, ho7, he7⟩
         go_wp2_with fail
         go_ret2
         exact PEncPost.bad _ HRn.out (HB.out.ext.trans he7)
       have hfe : fputE 1 F = 0 := fputE_ok (by decide) hlong
       have hfL : fputL 1 F = fr 1 F := by unfold fputL; rw [hfe, if_pos rfl]; rfl
       unfold FPutPost at HS
       rw [hfe, hfL] at HS
       have HR2 := Lib.hid (HRw.out.trans (if_neg hlong))
       have hll : (O ++ (fr 1 F ++ place O.length)).length = O.length + (fr 1 F).length + 8 := by rw [List.length_append, List.length_append, hpl]; omega
       have hgl : (fr 1 F).length ≤ 70000 := by rw [hfll]; omega
       rw [hll] at HR2
       clear HRw hlong hfe hfL hfll hll
       obtain ⟨G, hG⟩ : ∃ G, G = fr 1 F := ⟨_, rfl⟩
       rw [← hG] at HS HR2 hgl
       have HPl : Hid (place O.length = sl (upk 8 4 O.length)) := Lib.hid rfl
       have Hul := Lib.hid (show (upk 8 4 O.length).length = 4 from upk_len _ _ _)
       have Huu := Lib.hid (show U8 (upk 8 4 O.length) from U8_wd.2 (upk_wd _ _ _))
       have hs1 : IntKind.i64.wrap ((O.length : Int) + (G.length : Int)) = (O.length : Int) + (G.length : Int) := IntWalk.i64_in _ (by omega)
       obtain ⟨xl, hxl⟩ : ∃ x, x = O.length + G.length + 8 := ⟨_, rfl⟩
       rw [← hxl] at HR2
       have hs2 : IntKind.i64.wrap ((O.length : Int) + (G.length : Int) + 8) = (xl : Int) := by rw [show (O.length : Int) + (G.length : Int) + 8 = (xl : Int) by omega]; exact IntWalk.i64_in _ (by omega)
       have hs3 : IntKind.u64.wrap (O.length : Int) = (O.length : Int) := IntWalk.u64_in _ (by omega)
       have HLw := Lib.hid (fun W => low_any O.length 4 W (by omega) (by decide))
       have HSe := Lib.hid (fun W A c (hW : Rd .u8 W A 4 (upk 8 4 O.length)) => refSeal_any A 4 c (upk 8 4 O.length) W hW Huu.out (by decide))
       rw [← HPl.out] at HSe
       obtain ⟨E, hE⟩ : ∃ E, E = place O.length := ⟨_, rfl⟩
       rw [← hE] at HSe HR2 hpl
       obtain ⟨L4, hL4⟩ : ∃ E, E = upk 8 4 O.length := ⟨_, rfl⟩
       rw [← hL4] at HSe HLw Hul
       clear hG hE hL4 HPl Huu hxl
       by_cases hbig2 : 1048576 < xl
       · have HRn := Lib.hid (HR2.out.trans (if_pos hbig2))
         have hbI2 : (1048576 : Int) < (xl : Int) := by omega
         clear HR2 hbig2
         go_wp2_with fail
         refine (HS.out _ _ _ HB.out.foot.rd).mono ?_
         rintro e w7 ⟨A7, c7, rfl, ho7, he7⟩
         go_wp2_with fail
         go_ret2
         exact PEncPost.bad _ HRn.out (HB.out.ext.trans he7)
       · have HRn := Lib.hid (HR2.out.trans (if_neg hbig2))
         have hbI2 : ¬ (1048576 : Int) < (xl : Int) := by omega
         clear HR2 hbig2
         go_wp2_with fail
         refine (HS.out _ _ _ HB.out.foot.rd).mono ?_
         rintro e w7 ⟨A7, c7, rfl, ho7, he7⟩
         have hB7 := HB.out.ext' he7
         have hne7 := HB.out.neO ho7
         go_wp2_with fail
         refine (HLw.out _).mono ?_
         rintro e w8 ⟨A8, c8, rfl, ho8, he8⟩
         go_wp2_with fail
         refine (HSe.out _ _ _ (ho8.rd' Hul.out)).mono ?_
         rintro e w9 ⟨A9, c9, rfl, ho9, he9⟩
         have hB9 := (hB7.ext' he8).ext' he9
         go_wp2_with fail
         refine (hB9.addO' A7 _ c7 G ((ho7.rd.ext he8).ext he9) (fun _ => hne7) (by omega)).mono ?_
         rintro e w10 ⟨A10, c10, O10, rfl, HO10, hB10, _, hg10', hq10⟩
         have hL10 : O10.length ≤ 280000000 := by rw [HO10.out, List.length_append]; omega
         have hAo := fun p (hp' : Ao = some p) => (HB.out.out.block p hp').2
         have hz7 := he7.size
         have hz8 := he8.size
         have hz9 := he9.size
         have hg10 : Rd .u8 w10 A9 8 E := (ho9.rd' hpl).grownR hg10' (fun q hq' e => by
           have h1 := (ho9.block q hq').1
           obtain ⟨p, hp', e'⟩ := Option.map_eq_some_iff.1 e
           have h2 := hAo p hp'
           omega)
         go_wp2_with fail
         refine (hB10.addO' A9 _ c9 E hg10 (fun _ p q hp' hq' e => by
           have h1 := ho9.block q hq'
           rcases hq10 p hp' with z | z
           · obtain ⟨p', hp2, e'⟩ := Option.map_eq_some_iff.1 z.symm
             have h2 := hAo p' hp2
             omega
           · omega) (by omega)).mono ?_
         rintro e w11 ⟨A11, c11, O11, rfl, HO11, hB11, _, _, _⟩
         go_wp2_with fail
         go_ret2
         exact PEncPost.good _ HRn.out (by rw [HO11.out, HO10.out]; simp) (by rw [show O ++ (G ++ E) = O11 by rw [HO11.out, HO10.out]; simp]; exact hB11.out) hB11.ext
set_option maxHeartbeats 3200000 in
theorem refKeys_any (per : Int) (A : Option Addr) (n c : Nat) (ss : List Sl) (w : World) (hx : TxL w A n ss) (hn : n ≤ 4398046511104) (hlen : ∀ s ∈ ss, s.body.length ≤ 140737488351232) :
   Calls Tryz.prog 22 #[.int .i64 per, .slice A n c] w (PEncPost (keysR per ss) w) := by
 obtain ⟨R, hR⟩ : ∃ R, R = keysR per ss := ⟨_, rfl⟩
 rw [← hR]
 unfold keysR at hR
 have hl := hx.len
 rw [hl] at hR
 have Hlen := Lib.hid hlen
 clear hlen
 by_cases hg : 1 ≤ per ∧ per ≤ 4096
 rotate_left
 · have HR := Lib.hid (hR.trans (if_pos (.inl (decide_eq_false hg))))
   clear hR hx
   by_cases h1 : per < 1
   · go_enter Tryz.func22, Tryz.ntmps22
     go_wp2_with fail
     go_ret2
     exact PEncPost.bad _ HR.out (Ext.refl _)
   have h4 : 4096 < per := by omega
   go_enter Tryz.func22, Tryz.ntmps22
   go_wp2_with fail
   go_ret2
   exact PEncPost.bad _ HR.out (Ext.refl _)
 have hpk : perK per = true := decide_eq_true hg
 obtain ⟨g3, g4⟩ := hg
 obtain ⟨p, rfl⟩ := Int.eq_ofNat_of_zero_le (show 0 ≤ per by omega)
 rw [hpk, Int.toNat_natCast] at hR
 have hss : RdSS w A n (bodies ss) := rdL_ss hx.1 (fun x h => (hx.2 x h).rd)
 have hu8 : U8s (bodies ss) := fun t ht => by
   obtain ⟨s, hs, rfl⟩ := List.mem_map.1 ht
   exact (hx.2 s hs).u8
 have Hss := Lib.hid hss
 have HUl := Lib.hid (show ∀ j, ((bodies ss).getD j []).length ≤ 140737488355328 from getD_le (fun t ht => by
   obtain ⟨s, hs, rfl⟩ := List.mem_map.1 ht
   exact Nat.le_trans (Hlen.out s hs) (by decide)))
 have Hu := Lib.hid (fun j => hu8.at_ j)
 have Hx := Lib.hid hx
 have Hl := Lib.hid hl
 have HR := Lib.hid hR
 have H0 : Hid (riseP (bodies ss) 0) := Lib.hid (fun i hi => absurd hi (Nat.not_lt_zero _))
 have HX0 := Lib.hid (show OwnX (w.alloc (.cells #[] 61)) w.heap.size (some ⟨w.heap.size, 0, none⟩) 0 ((ss.take 0).map keyCi) from OwnX.made w (Nat.le_refl _))
 have HE0 := Lib.hid (show Ext w (w.alloc (.cells #[] 61)) from (Ext.refl _).alloc _)
 have n3 : ¬ (p : Int) < 1 := by omega
 have n4 : ¬ (4096 : Int) < (p : Int) := by omega
 clear hx hss hu8 hR hl hpk
 obtain ⟨us, hus⟩ : ∃ us, us = bodies ss := ⟨_, rfl⟩
 rw [← hus] at Hss Hu H0 HR HUl
 clear hus
 go_enter Tryz.func22, Tryz.ntmps22
 go_wp2_with fail
 go_loopw [6, 7] (fun pv i wr => ∃ (j : Nat) (Ap : Option Addr) (cp : Nat), j ≤ n ∧ i = .int .i64 (j : Int) ∧ pv = .slice Ap j cp ∧ Hid (riseP us j) ∧ Hid (OwnX wr w.heap.size Ap cp ((ss.take j).map keyCi)) ∧ Hid (Ext w wr)) (fun _ i _ => n - (intOf i).toNat)
 case atStart => exact ⟨0, _, 0, Nat.zero_le _, rfl, rfl, H0.out, HX0.out, HE0.out⟩
 case round =>
   clear H0 HX0 HE0
   obtain ⟨j, Ap, cp, hj, rfl, rfl, HP, HX, HE⟩ := hrel
   by_cases hlt : j < n
   · obtain ⟨bs, os, s, hAs, hfs, hcs⟩ := (Hx.out.1.ext HE.out).at_ hlt
     have Htk := Lib.hid (show (ss.take (j + 1)).map keyCi = (ss.take j).map keyCi ++ [keyCi s] by rw [List.take_add_one, hfs, List.map_append]; rfl)
     have Hlj := Lib.hid (show ((ss.take j).map keyCi).length = j by rw [List.length_map, List.length_take, Hl.out]; omega)
     have hz2 := HE.out.size
     obtain ⟨sA, sc, body⟩ := s
     have hcs : wr.cell? ⟨bs, os + j, none⟩ = some (.slice sA body.length sc) := hcs
     have hjnI : (j : Int) < (n : Int) := by omega
     have hj0I : (0 : Int) ≤ (j : Int) := by omega
     clear hfs
     by_cases h0 : j = 0
     · subst h0
       subst hAs
       have HP2 := Lib.hid (riseP_step HP.out (.inl rfl))
       have hcs0 : wr.cell? ⟨bs, os, none⟩ = some (.slice sA body.length sc) := by simpa using hcs
       have hcs0' : wr.drew.cell? ⟨bs, os, none⟩ = some (.slice sA body.length sc) := hcs0
       go_wp2_with fail
       refine wp_region_held_drew (S := fun _ => True) (by kernel_rfl) trivial (fun hHeld => ?_)
       refine wpAnyH_take (i := 0) (v := ?_) rfl (by kernel_rfl) (by kernel_rfl) (by kernel_rfl) (fun _ _ _ h => h) (Or.inl ⟨by rfl, ?_⟩) hHeld ?_
       rotate_left
       · (intro w hSw; (try dsimp only at hSw); go_simp; (try with_reducible rfl))
       (simp only [Act.put, List.getElem_toArray, List.getElem_cons_zero, List.setIfInBounds_toArray, List.set_cons_zero, List.set_cons_succ])
       refine wpAnyH_take (i := 1) (v := ?_) rfl (by kernel_rfl) (by kernel_rfl) (by kernel_rfl) (fun _ _ _ h => h) (Or.inl ⟨by rfl, ?_⟩) hHeld ?_
       rotate_left
       · (intro w hSw; (try dsimp only at hSw); go_simp; (try with_reducible rfl))
       (simp only [Act.put, List.getElem_toArray, List.getElem_cons_zero, List.getElem_cons_succ, List.setIfInBounds_toArray, List.set_cons_zero, List.set_cons_succ])
       refine wpAnyH_take (i := 2) (v := ?_) rfl (by kernel_rfl) (by kernel_rfl) (by kernel_rfl) (fun _ _ _ h => h) (Or.inl ⟨by rfl, ?_⟩) hHeld ?_
       rotate_left
       · (intro w hSw; (try dsimp only at hSw); go_simp; (try with_reducible rfl))
       (simp only [Act.put, List.getElem_toArray, List.getElem_cons_zero, List.getElem_cons_succ, List.setIfInBounds_toArray, List.set_cons_zero, List.set_cons_succ])
       refine wpAnyH_take (i := 3) (v := undef) rfl (by kernel_rfl) (by kernel_rfl) (by kernel_rfl) (fun _ _ _ h => h) (Or.inr ⟨by rfl, rfl⟩) hHeld ?_
       (simp only [Act.put, List.getElem_toArray, List.getElem_cons_zero, List.getElem_cons_succ, List.setIfInBounds_toArray, List.set_cons_zero, List.set_cons_succ])
       refine wpAnyH_take (i := 4) (v := undef) rfl (by kernel_rfl) (by kernel_rfl) (by kernel_rfl) (fun _ _ _ h => h) (Or.inr ⟨by rfl, rfl⟩) hHeld ?_
       (simp only [Act.put, List.getElem_toArray, List.getElem_cons_zero, List.getElem_cons_succ, List.setIfInBounds_toArray, List.set_cons_zero, List.set_cons_succ])
       refine wpAnyH_take (i := 5) (v := undef) rfl (by kernel_rfl) (by kernel_rfl) (by kernel_rfl) (fun _ _ _ h => h) (Or.inr ⟨by rfl, rfl⟩) hHeld ?_
       (simp only [Act.put, List.getElem_toArray, List.getElem_cons_zero, List.getElem_cons_succ, List.setIfInBounds_toArray, List.set_cons_zero, List.set_cons_succ])
       refine wpAnyH_take (i := 6) (v := undef) rfl (by kernel_rfl) (by kernel_rfl) (by kernel_rfl) (fun _ _ _ h => h) (Or.inr ⟨by rfl, rfl⟩) hHeld ?_
       (simp only [Act.put, List.getElem_toArray, List.getElem_cons_zero, List.getElem_cons_succ, List.setIfInBounds_toArray, List.set_cons_zero, List.set_cons_succ])
       refine wpAnyH_take (i := 7) (v := undef) rfl (by kernel_rfl) (by kernel_rfl) (by kernel_rfl) (fun _ _ _ h => h) (Or.inr ⟨by rfl, rfl⟩) hHeld ?_
       (simp only [Act.put, List.getElem_toArray, List.getElem_cons_zero, List.getElem_cons_succ, List.setIfInBounds_toArray, List.set_cons_zero, List.set_cons_succ])
       refine wpAnyH_take (i := 8) (v := undef) rfl (by kernel_rfl) (by kernel_rfl) (by kernel_rfl) (fun _ _ _ h => h) (Or.inr ⟨by rfl, rfl⟩) hHeld ?_
       (simp only [Act.put, List.getElem_toArray, List.getElem_cons_zero, List.getElem_cons_succ, List.setIfInBounds_toArray, List.set_cons_zero, List.set_cons_succ])
       refine wpAnyH_take (i := 9) (v := undef) rfl (by kernel_rfl) (by kernel_rfl) (by kernel_rfl) (fun _ _ _ h => h) (Or.inr ⟨by rfl, rfl⟩) hHeld ?_
       (simp only [Act.put, List.getElem_toArray, List.getElem_cons_zero, List.getElem_cons_succ, List.setIfInBounds_toArray, List.set_cons_zero, List.set_cons_succ])
       refine wpAnyH_take (i := 10) (v := undef) rfl (by kernel_rfl) (by kernel_rfl) (by kernel_rfl) (fun _ _ _ h => h) (Or.inr ⟨by rfl, rfl⟩) hHeld ?_
       (simp only [Act.put, List.getElem_toArray, List.getElem_cons_zero, List.getElem_cons_succ, List.setIfInBounds_toArray, List.set_cons_zero, List.set_cons_succ])
       refine wpAnyH_take (i := 11) (v := undef) rfl (by kernel_rfl) (by kernel_rfl) (by kernel_rfl) (fun _ _ _ h => h) (Or.inr ⟨by rfl, rfl⟩) hHeld ?_
       (simp only [Act.put, List.getElem_toArray, List.getElem_cons_zero, List.getElem_cons_succ, List.setIfInBounds_toArray, List.set_cons_zero, List.set_cons_succ])
       refine wpAnyH_take (i := 12) (v := undef) rfl (by kernel_rfl) (by kernel_rfl) (by kernel_rfl) (fun _ _ _ h => h) (Or.inr ⟨by rfl, rfl⟩) hHeld ?_
       (simp only [Act.put, List.getElem_toArray, List.getElem_cons_zero, List.getElem_cons_succ, List.setIfInBounds_toArray, List.set_cons_zero, List.set_cons_succ])
       refine wpAnyH_take (i := 13) (v := undef) rfl (by kernel_rfl) (by kernel_rfl) (by kernel_rfl) (fun _ _ _ h => h) (Or.inr ⟨by rfl, rfl⟩) hHeld ?_
       (simp only [Act.put, List.getElem_toArray, List.getElem_cons_zero, List.getElem_cons_succ, List.setIfInBounds_toArray, List.set_cons_zero, List.set_cons_succ])
       refine wpAnyH_take (i := 14) (v := ?_) rfl (by kernel_rfl) (by kernel_rfl) (by kernel_rfl) (fun _ _ _ h => h) (Or.inl ⟨by rfl, ?_⟩) hHeld ?_
       rotate_left
       · (intro w hSw; (try dsimp only at hSw); go_simp; (try with_reducible rfl))
       (simp only [Act.put, List.getElem_toArray, List.getElem_cons_zero, List.getElem_cons_succ, List.setIfInBounds_toArray, List.set_cons_zero, List.set_cons_succ])
       refine wpAnyH_done (by kernel_rfl) ?_ _
       go_wp2_with (at_builtin; refine wpList_pushX (w0 := w) (base := w.heap.size) ⟨false, 0, sA, sc, body⟩ rfl _ _ rfl (HX.out.ext (((Ext.refl wr).drew).alloc _)) 0 Hlj.out rfl rfl ?_ (by omega) (HE.out.drew.alloc _) (by simp; omega) ?_; (focus (exact heap_at (by simp))); intro A3 c3 w3 hO3 _ hE3 hz3)
       go_roundw
       case rel => exact ⟨0 + 1, A3, c3, hlt, by go_num, rfl, HP2.out, by rw [Htk.out]; exact hO3, hE3⟩
       case measure => simp [intOf]; omega
     · obtain ⟨i, hi⟩ : ∃ i, i + 1 = j := ⟨j - 1, by omega⟩
       obtain ⟨b, o, a1, m1, c1, hA, hbl, q1, r1⟩ := (Hss.out.ext HE.out).at_ (show i < n by omega)
       obtain ⟨b', o', a2, m2, c2, hA', _, q2, r2⟩ := (Hss.out.ext HE.out).at_ hlt
       rw [hA] at hA' hAs
       injection hA' with hA'
       injection hA' with e1 e2
       subst e1 e2
       injection hAs with hAs
       injection hAs with e3 e4
       subst e3 e4
       subst hA
       have hqq := hcs.symm.trans q2
       injection hqq with hqq
       injection hqq with e5 e6 e7
       subst e5 e6 e7
       have hgt : (0 : Int) < (j : Int) := by omega
       have hgt1 : 0 < j := by omega
       have hgt2 : decide ((0 : Int) < (j : Int)) = true := decide_eq_true hgt
       have hjm : (j : Int) - 1 = (i : Int) := by omega
       have hin : (i : Int) < (n : Int) := by omega
       have hi0 : (0 : Int) ≤ (i : Int) := by omega
       have hwj : IntKind.i64.wrap ((j : Int) - 1) = (i : Int) := by rw [hjm]; exact IntWalk.i64_in _ (by omega)
       have hwi : IntKind.i64.wrap (i : Int) = (i : Int) := IntWalk.i64_in _ (by omega)
       have HC := Lib.hid (fun W (hW : Ext wr W) => order_any a1 sA m1 c1 body.length sc (us.getD i []) (us.getD j []) W (r1.ext hW) (r2.ext hW) (by rw [← r1.len]; exact HUl.out i) (by rw [← r2.len]; exact HUl.out j))
       obtain ⟨O, hO⟩ : ∃ O, O = ordT (us.getD i []) (us.getD j []) := ⟨_, rfl⟩
       rw [← hO] at HC
       have HO : Hid (O = ordT (us.getD (j - 1) []) (us.getD j [])) := Lib.hid (by rw [hO, ← hi]; rfl)
       have K := Lib.hid (fun W (hW : Ext wr W) => (show W.cell? ⟨b, o + i, none⟩ = some (.slice a1 m1 c1) ∧ W.cell? ⟨b, o + j, none⟩ = some (.slice sA body.length sc) from ⟨(hW.cells b _ hbl).trans q1, (hW.cells b _ hbl).trans q2⟩))
       clear hO r1 r2 hi
       by_cases hlo : O < 0
       · have HP2 := Lib.hid (riseP_step HP.out (.inr (by rw [← HO.out]; exact hlo)))
         have hge : ¬ 0 ≤ O := by omega
         go_wp2_with fail
         go_region_held3 (fun W => W.cell? ⟨b, o + i, none⟩ = some (.slice a1 m1 c1) ∧ W.cell? ⟨b, o + j, none⟩ = some (.slice sA body.length sc))
           (first | (refine K.out _ ?_; (repeat (first | exact Ext.refl _ | apply Ext.drewN | apply Ext.drew | apply Ext.alloc | fail))) | fail)
           (first
             | (go_at_call 32; (with_reducible refine (HC.out _ ?_).mono ?_); (focus ((repeat (first | exact Ext.refl _ | apply Ext.drewN | apply Ext.drew | apply Ext.alloc | fail)); done)); rintro e w2 ⟨rfl, nq, rfl⟩)
             | fail)
         go_wp2_with (at_builtin; refine wpList_pushX (w0 := w) (base := w.heap.size) ⟨false, 0, sA, sc, body⟩ rfl _ _ rfl (HX.out.ext (((Ext.refl wr).drewN _).alloc _)) j Hlj.out rfl rfl ?_ (by omega) ((HE.out.drewN _).alloc _) (by simp; omega) ?_; (focus (exact heap_at (by simp))); intro A3 c3 w3 hO3 _ hE3 hz3)
         go_roundw
         case rel => exact ⟨j + 1, A3, c3, hlt, by go_num, rfl, HP2.out, by rw [Htk.out]; exact hO3, hE3⟩
         case measure => simp [intOf]; omega
       · have HF := Lib.hid (HR.out.trans (if_pos (.inr (fun h => by
           rcases h j hlt with h1 | h1
           · exact h0 h1
           · exact hlo (HO.out ▸ h1)))))
         have hge : 0 ≤ O := by omega
         go_wp2_with fail
         go_region_held3 (fun W => W.cell? ⟨b, o + i, none⟩ = some (.slice a1 m1 c1) ∧ W.cell? ⟨b, o + j, none⟩ = some (.slice sA body.length sc))
           (first | (refine K.out _ ?_; (repeat (first | exact Ext.refl _ | apply Ext.drewN | apply Ext.drew | apply Ext.alloc | fail))) | fail)
           (first
             | (go_at_call 32; (with_reducible refine (HC.out _ ?_).mono ?_); (focus ((repeat (first | exact Ext.refl _ | apply Ext.drewN | apply Ext.drew | apply Ext.alloc | fail)); done)); rintro e w2 ⟨rfl, nq, rfl⟩)
             | fail)
         go_wp2_with fail
         go_ret2
         exact PEncPost.bad _ HF.out (by repeat (first | exact HE.out | apply Ext.drewN | apply Ext.drew | apply Ext.alloc))
   · obtain rfl : j = n := by omega
     have ho := HX.out
     rw [List.take_of_length_le (Nat.le_of_eq Hl.out)] at ho
     have hin : ∀ x ∈ ss.map keyCi, x.In wr := fun x hx => by
       obtain ⟨s, hs, rfl⟩ := List.mem_map.1 hx
       have ht := (Hx.out.2 s hs).ext HE.out
       exact ⟨ht.rd, ht.u8, by show (-9223372036854775808 : Int) ≤ 0; decide, by show (0 : Int) ≤ 9223372036854775807; decide, by show s.body.length * 1 ≤ 140737488351232; have := Hlen.out s hs; omega⟩
     have hrx := ho.rdX hin
     rw [List.length_map, Hl.out] at hrx
     have hcap : CapX (ss.map keyCi) := fun x hx => by
       obtain ⟨s, hs, rfl⟩ := List.mem_map.1 hx
       exact ⟨(Hx.out.2 s hs).cap, (Hx.out.2 s hs).top⟩
     have HBd := Lib.hid (refBuild15_any 8 true p Ap j cp (ss.map keyCi) wr hrx hcap (by omega) (by omega) (by decide))
     have HRn := Lib.hid (HR.out.trans (if_neg (by rintro (q | q); exact absurd q (by decide); exact q HP.out)))
     rw [← HRn.out] at HBd
     unfold PEncPost at HBd
     have hjn : ¬ (j : Int) < (j : Int) := by omega
     clear hrx hcap hin ho
     go_wp2_with fail
     refine HBd.out.mono ?_
     rintro e w3 ⟨A3, c3, rfl, ho3, he3⟩
     go_wp2_with fail
     go_ret2
     exact ⟨A3, c3, rfl, ho3.mono HE.out.size, HE.out.trans he3⟩
theorem val_len {xs ys : List Ci} (h : xs.map Ci.val = ys.map Ci.val) : xs.length = ys.length := by
 have := congrArg List.length h
 simpa using this
theorem val_txt {xs ys : List Ci} (h : xs.map Ci.val = ys.map Ci.val) : xs.map Ci.txt = ys.map Ci.txt := by
 have := congrArg (List.map (fun v : Cv => v.2.2)) h
 rw [List.map_map, List.map_map] at this
 exact this
theorem pcX_val {xs ys : List Ci} (h : xs.map Ci.val = ys.map Ci.val) (p i : Nat) : (pcX xs p i).map Ci.val = (pcX ys p i).map Ci.val := by
 unfold pcX
 rw [List.map_take, List.map_drop, h, List.map_take, List.map_drop]
theorem bstC_val {xs ys : List Ci} (h : xs.map Ci.val = ys.map Ci.val) (k : Int) (p : Nat) : bstC k p xs = bstC k p ys := by
 funext i
 exact bbestR_val12 (pcX_val h p i)
theorem cntC_val {xs ys : List Ci} (h : xs.map Ci.val = ys.map Ci.val) (p : Nat) : cntC p xs = cntC p ys := by
 unfold cntC
 rw [val_len h]
theorem frsC_val {xs ys : List Ci} (h : xs.map Ci.val = ys.map Ci.val) (p : Nat) : frsC p xs = frsC p ys := by
 funext i
 unfold frsC
 rw [val_txt h]
theorem fileC_val {xs ys : List Ci} (h : xs.map Ci.val = ys.map Ci.val) (k : Nat) (ks : Bool) (p : Nat) : fileC k ks p xs = fileC k ks p ys := by
 unfold fileC
 rw [val_len h, bstC_val h, cntC_val h, frsC_val h]
theorem bldR_val {xs ys : List Ci} (h : xs.map Ci.val = ys.map Ci.val) (k : Nat) (ks : Bool) (p : Nat) : bldR k ks p xs = bldR k ks p ys := by
 unfold bldR
 rw [val_len h, bstC_val h, cntC_val h, fileC_val h]
theorem keyCi_val {ss tt : List Sl} (h : bodies ss = bodies tt) : (ss.map keyCi).map Ci.val = (tt.map keyCi).map Ci.val := by
 have := congrArg (List.map (fun b : List Nat => ((false, 0, b) : Cv))) h
 unfold bodies at this
 rw [List.map_map, List.map_map] at this
 rw [List.map_map, List.map_map]
 exact this
theorem keysR_val {ss tt : List Sl} (h : bodies ss = bodies tt) (p : Int) : keysR p ss = keysR p tt := by
 have hl : ss.length = tt.length := by rw [← bodies_len, h, bodies_len]
 unfold keysR
 rw [bldR_val (keyCi_val h), h, hl]
def e9 : Ci := ⟨false, 9, none, 0, []⟩
def B15 : List Nat := [1, 2, 0, 14, 14, 181, 23, 167, 154, 1, 1, 0, 18, 153, 196, 6, 193, 1, 7, 0, 0, 0, 83, 161, 99, 100, 1, 0, 3, 2, 2, 9, 8, 221, 132, 105, 111, 17, 0, 0, 0, 66, 80, 70, 124]
def K15 : List Nat := [1, 2, 0, 1, 97, 1, 99, 140, 93, 160, 55, 1, 1, 0, 1, 101, 40, 172, 179, 231, 1, 11, 0, 0, 0, 70, 243, 5, 233, 8, 1, 3, 2, 2, 11, 1, 97, 9, 1, 101, 105, 233, 128, 129, 20, 0, 0, 0, 9, 203, 33, 218]
def fB15 : FlM := ⟨1, false, 3, 2, [[1, 2, 0, 14, 14, 181, 23, 167, 154], [1, 1, 0, 18, 153, 196, 6, 193]], []⟩
def fK15 : FlM := ⟨8, true, 3, 2, [[1, 2, 0, 1, 97, 1, 99, 140, 93, 160, 55], [1, 1, 0, 1, 101, 40, 172, 179, 231]], [[97], [101]]⟩
theorem ex15_b : buildR 1 2 [e7, e7, e9] = (B15, 0) := by decide +kernel
theorem ex15_k : keysR 2 [⟨none, 1, [97]⟩, ⟨none, 1, [99]⟩, ⟨none, 1, [101]⟩] = (K15, 0) := by decide +kernel
theorem ex15_bl : B15.length = 45 := by decide +kernel
theorem ex15_kl : K15.length = 52 := by decide +kernel
theorem ex15_bu : U8 B15 := by decide +kernel
theorem ex15_ku : U8 K15 := by decide +kernel
theorem ex15_bo : openR B15 = some fB15 := by kernel_rfl
theorem ex15_ko : openR K15 = some fK15 := by kernel_rfl
theorem ex15_r : readF fB15 1 2 = ([(false, 7, []), (false, 9, [])], 0) := by decide +kernel
theorem ex15_s1 : seekF fK15 [99] = ((1, true), 0) := by decide +kernel
theorem ex15_s2 : seekF fK15 [100] = ((2, false), 0) := by decide +kernel
theorem bbest_enc {k : Int} {xs : List Ci} (h : (bbestR k xs).2 = 0) : ∃ c', bencR k c' xs = ((bbestR k xs).1.2, 0) := by
 have h1 : ¬ kindK k = false := by
   intro q
   unfold bbestR at h
   rw [if_pos q] at h
   exact absurd h (by decide)
 have hc : chkB k xs = 0 := by
   unfold bbestR at h
   rw [if_neg h1] at h
   split at h
   · rename_i q; exact absurd h q
   · rename_i q; exact Decidable.not_not.1 q
 obtain ⟨r, r1, r2, r3, _⟩ := bestF_spec hc (codecs k) (0, []) (fun c q => q) (fun q => absurd rfl q)
 have hm1 : (1 : Int) ∈ codecs k := by unfold codecs; split <;> simp
 obtain ⟨h0, _⟩ := r3 1 hm1
 obtain ⟨e1, e2⟩ := r2 h0
 unfold bbestR at h ⊢
 rw [if_neg h1, if_neg (fun q => q hc), r1, if_neg (fun q => q rfl)] at h ⊢
 simp only at h ⊢
 have hs : sealE r.2 = 0 := by
   split at h
   · rename_i q; exact absurd h q
   · rename_i q; exact Decidable.not_not.1 q
 rw [if_neg (fun q => q hs)]
 refine ⟨r.1, ?_⟩
 unfold bencR
 rw [if_neg h1, if_neg (fun q => q e2), if_neg (fun q => q hc), putR_outW k r.1 hc, if_neg (fun q => q rfl)]
 simp only
 rw [← e1, hs]
theorem decF_file {k : Nat} {ks : Bool} {p : Nat} {xs : List Ci} (hx : R64s (xs.map Ci.num)) (hu : ∀ x ∈ xs, U8 x.txt) {i : Nat} (hi : i < cntC p xs) (h0 : (bstC k p xs i).2 = 0) : decF (fileC k ks p xs) i = ((pcX xs p i).map Ci.val, 0) := by
 obtain ⟨c', hc⟩ := bbest_enc h0
 have hd := bdec_fwd (k := (k : Int)) (cd := c') (xs := pcX xs p i) (fun v hv => by
   obtain ⟨x, hx1, rfl⟩ := List.mem_map.1 hv
   exact hx _ (List.mem_map_of_mem (pcX_mem hx1))) (fun x hx => hu x (pcX_mem hx)) (by rw [hc])
 rw [hc] at hd
 unfold decF
 rw [fileC_bs hi]
 have hd' : bdecR (k : Int) (bstC k p xs i).1.2 = ((pcX xs p i).map Ci.val, 0) := hd
 show (if (bdecR (k : Int) (bstC k p xs i).1.2).2 ≠ 0 ∨ (bdecR (k : Int) (bstC k p xs i).1.2).1.length ≠ min p (xs.length - i * p) then (([], 6) : List Cv × Int) else ((bdecR (k : Int) (bstC k p xs i).1.2).1, 0)) = _
 rw [hd', if_neg]
 rintro (q | q)
 · exact q rfl
 · rw [List.length_map, pcX_len rfl] at q
   exact q rfl
theorem rdA_file {k : Nat} {ks : Bool} {p : Nat} {xs : List Ci} (hp : 1 ≤ p) (hx : R64s (xs.map Ci.num)) (hu : ∀ x ∈ xs, U8 x.txt) (h0 : ∀ i, i < cntC p xs → (bstC k p xs i).2 = 0) {fr n : Nat} (hn : fr + n ≤ xs.length) :
   ∀ (q a : Nat), a ≤ n → n - a ≤ q → rdA (fileC k ks p xs) fr n q (((xs.map Ci.val).drop fr).take a) = (((xs.map Ci.val).drop fr).take n, 0)
 | 0, a, h1, h2 => by
   have : a = n := by omega
   subst this
   rfl
 | q + 1, a, h1, h2 => by
   have hl : (((xs.map Ci.val).drop fr).take a).length = a := by rw [List.length_take, List.length_drop, List.length_map]; omega
   unfold rdA
   rw [hl]
   by_cases hna : n ≤ a
   · have : a = n := by omega
     subst this
     rw [if_pos (Nat.le_refl _)]
   · rw [if_neg hna]
     show (if (decF (fileC k ks p xs) ((fr + a) / p)).2 ≠ 0 then _ else rdA _ _ _ _ (_ ++ ((decF (fileC k ks p xs) ((fr + a) / p)).1.drop ((fr + a) % p)).take (n - a))) = _
     obtain ⟨t, ht⟩ : ∃ t, t = fr + a := ⟨_, rfl⟩
     have htl : t < xs.length := by omega
     rw [← ht]
     have hi : t / p < cntC p xs := by
       unfold cntC
       have h1 : (xs.length + p - 1) / p = (xs.length - 1) / p + 1 := by
         rw [show xs.length + p - 1 = xs.length - 1 + p by omega, Nat.add_div_right _ (by omega)]
       rw [h1]
       exact Nat.lt_succ_of_le (Nat.div_le_div_right (by omega))
     have hdm : t / p * p + t % p = t := by rw [Nat.mul_comm]; exact Nat.div_add_mod t p
     have hrm : t % p < p := Nat.mod_lt _ (by omega)
     rw [decF_file hx hu hi (h0 _ hi), if_neg (fun q => q rfl)]
     simp only
     have hpc : ((pcX xs p (t / p)).map Ci.val).drop (t % p) = ((xs.map Ci.val).drop t).take (p - t % p) := by
       unfold pcX
       rw [List.map_take, List.map_drop, List.drop_take, List.drop_drop, hdm]
     rw [hpc, List.take_take]
     obtain ⟨m, hm⟩ : ∃ m, m = min (n - a) (p - t % p) := ⟨_, rfl⟩
     rw [← hm]
     have hap : ((xs.map Ci.val).drop fr).take a ++ ((xs.map Ci.val).drop t).take m = ((xs.map Ci.val).drop fr).take (a + m) := by
       rw [List.take_add, List.drop_drop, ht]
     rw [hap]
     exact rdA_file hp hx hu h0 hn q (a + m) (by omega) (by omega)
theorem readF_file {k : Nat} {ks : Bool} {p : Nat} {xs : List Ci} (hp : 1 ≤ p) (hx : R64s (xs.map Ci.num)) (hu : ∀ x ∈ xs, U8 x.txt) (h0 : ∀ i, i < cntC p xs → (bstC k p xs i).2 = 0) {fr n : Nat} (hn : fr + n ≤ xs.length) :
   readF (fileC k ks p xs) (fr : Int) (n : Int) = (((xs.map Ci.val).drop fr).take n, 0) := by
 unfold readF
 rw [if_neg, Int.toNat_natCast, Int.toNat_natCast]
 · have := rdA_file (ks := ks) hp hx hu h0 hn n 0 (Nat.zero_le _) (by omega)
   exact this
 · have hr : (fileC k ks p xs).rows = xs.length := rfl
   rw [hr]
   omega
theorem bld_good {k : Nat} {ks : Bool} {p : Nat} {xs : List Ci} (h : (bldR k ks p xs).2 = 0) : xs.length ≤ 4096 ∧ (∀ i, i < cntC p xs → (bstC k p xs i).2 = 0) ∧ bldR k ks p xs = writeR (fileC k ks p xs) := by
 unfold bldR at h ⊢
 split at h
 · exact absurd h (by decide)
 rename_i h1
 split at h
 · rename_i q; exact absurd h q
 rename_i h2
 have h2' := Decidable.not_not.1 h2
 rw [if_neg h1, if_neg h2]
 exact ⟨by omega, fstE_zero.1 h2', rfl⟩
theorem bld_bad {k : Nat} {ks : Bool} {p : Nat} {xs : List Ci} (h : (bldR k ks p xs).2 ≠ 0) : (bldR k ks p xs).1 = [] := by
 unfold bldR at h ⊢
 split
 · rfl
 rename_i h1
 rw [if_neg h1] at h
 split
 · rfl
 rename_i h2
 rw [if_neg h2] at h
 unfold writeR at h ⊢
 split
 · rfl
 rename_i h3
 rw [if_neg h3] at h
 split
 · rfl
 rename_i h4
 rw [if_neg h4] at h
 exact absurd rfl h
end Go.Proofs.YthibbgmicmfkfaaGreat
