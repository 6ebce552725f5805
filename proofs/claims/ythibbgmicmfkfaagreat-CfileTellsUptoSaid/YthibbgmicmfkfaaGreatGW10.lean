import Derived.Test.YthibbgmicmfkfaaGreatGW9
import Derived.Deep.RegionHeld3
import Derived.Lib.SliceRun
namespace Go.Proofs.YthibbgmicmfkfaaGreat
open Go.RowKit
set_option maxRecDepth 100000
theorem e8_len12 {vs : List Int} (h : R64s vs) : (encode8 vs).1.length ≤ 100000 := by
 unfold encode8
 split
 · simp
 · show (encR (rsp vs)).length ≤ _
   have h1 := encL_le (rsp_each h (by omega))
   have h2 := (rsp_len h).1
   have h3 := vsize_le (u := (rsp vs).length) (by omega)
   rw [encR_len, vput_len]
   omega
theorem e9_len12 {vs : List Int} (h : R64s vs) : (encode9 vs).1.length ≤ 40000 := by
 unfold encode9
 split
 · simp
 · have h4 : vs.length ≤ 4096 := by omega
   show (encP vs).length ≤ _
   unfold encP
   split
   · rw [vput_len]; have := vsize_le (u := 0) (by omega); omega
   · rename_i hn
     have h1 := wid_le h (by omega)
     have h2 := fold_range (h _ (lo_mem (show 0 < vs.length by omega)))
     have a1 := vsize_le (u := vs.length) (by omega)
     have a2 := vsize_le (u := (foldS (lo vs)).toNat) (by omega)
     have a3 : wid vs * vs.length ≤ 64 * 4096 := Nat.mul_le_mul h1 h4
     rw [List.length_append, List.length_append, List.length_append, vput_len, vput_len, packB_len9, dst_len]
     simp only [List.length_singleton]
     omega
theorem few12 {ss : List (List Nat)} (h : ¬ (4096 < ss.length ∨ anyLong ss = true)) : ss.length ≤ 4096 ∧ anyLong ss = false := by
 constructor
 · rcases Nat.lt_or_ge 4096 ss.length with q | q
   · exact absurd (.inl q) h
   · exact q
 · cases q : anyLong ss with
   | true => exact absurd (.inr q) h
   | false => rfl
theorem ed_len12 (ss : List (List Nat)) : (dencR ss).1.length ≤ 1000000 := by
 by_cases h : 4096 < ss.length ∨ anyLong ss = true
 · rw [dencR_bad h]; simp
 · obtain ⟨h1, h2⟩ := few12 h
   rw [dencR_good h1 h2]
   exact denc_len h1 h2
theorem ep_len12 (ss : List (List Nat)) : (pencR ss).1.length ≤ 1000000 := by
 by_cases h : 4096 < ss.length ∨ anyLong ss = true
 · rw [pencR_bad h]; simp
 · obtain ⟨h1, h2⟩ := few12 h
   rw [pencR_good h1 h2]
   exact penc_len h1 (anyLong_no h2)
theorem plainL_len (k : Int) : ∀ (xs : List Ci), R64s (xs.map Ci.num) → (∀ x ∈ xs, x.txt.length ≤ 200) → (plainL k xs).length ≤ 210 * xs.length
 | [], _, _ => by simp [plainL]
 | x :: xs, h, h2 => by
   have ih := plainL_len k xs (fun v hv => h v (List.mem_cons_of_mem _ hv)) (fun y hy => h2 y (List.mem_cons_of_mem _ hy))
   have hx := h x.num (List.mem_cons_self ..)
   have h1 := plain1_le (k := k) hx.1 hx.2 (h2 x (List.mem_cons_self ..))
   have e : plainL k (x :: xs) = plain1 k x ++ plainL k xs := by simp [plainL]
   rw [e, List.length_append, List.length_cons]
   omega
theorem valR_len (k cd : Int) {xs : List Ci} (h : R64s (xs.map Ci.num)) (h2 : ∀ x ∈ xs, x.txt.length ≤ 200) (hn : xs.length ≤ 4096) : (valR k cd xs).1.length ≤ 1000000 := by
 unfold valR
 split
 · have := e8_len12 h; omega
 · split
   · have := e9_len12 h; omega
   · split
     · exact ed_len12 _
     · split
       · exact ep_len12 _
       · have := plainL_len k xs h h2
         show (plainL k xs).length ≤ _
         omega
theorem nullsL_len {xs : List Ci} (h : xs.length ≤ 4096) : (nullsL xs).length ≤ 600 := by
 unfold nullsL
 split
 · rw [List.length_cons]
   unfold packB
   rw [upk_len, nb_len]; omega
 · simp
theorem capX_nn {xs : List Ci} (h : CapX xs) : CapX (nn xs) := fun x hx => h x (nn_mem hx)
def putR (k cd : Int) (xs : List Ci) : List Nat × Int :=
 if (valR k cd (nn xs)).2 ≠ 0 then ([], (valR k cd (nn xs)).2) else ([cd.toNat] ++ (vput xs.length ++ (nullsL xs ++ (valR k cd (nn xs)).1)), 0)
theorem RdX.all {w : World} {A : Option Addr} {n : Nat} {xs : List Ci} (h : RdX w A n xs) : ∀ x ∈ xs, x.In w := by
 intro x hx
 obtain ⟨j, hj, e⟩ := List.getElem_of_mem hx
 obtain ⟨_, _, y, _, _, hy, _, _, _, hin⟩ := h.at_ (j := j) (by rw [← h.1]; exact hj)
 rw [List.getElem?_eq_getElem hj, e] at hy
 rw [Option.some.inj hy]
 exact hin
set_option maxHeartbeats 2000000 in
theorem bput_any (k cd : Int) (hcd : 0 ≤ cd ∧ cd ≤ 255) (A : Option Addr) (n c : Nat) (xs : List Ci) (w : World) (hx : RdX w A n xs) (hc : CapX xs) (hn : n ≤ 4096) (h200 : ∀ x ∈ xs, x.txt.length ≤ 200) :
   Calls Tryz.prog 68 #[.int .i64 k, .int .i64 cd, .slice A n c] w (PEncPost (putR k cd xs) w) := by
 obtain ⟨d, rfl⟩ : ∃ d : Nat, cd = d := ⟨cd.toNat, by omega⟩
 have hl := hx.1
 have hnl := nn_le xs
 have HN := Lib.hid (fun W (hW : Ext w W) => putNulls_any A n c xs W (hx.ext hW) hn)
 have HW := Lib.hid (fun W (hW : Ext w W) => withoutNulls_any A n c xs W (hx.ext hW) (by omega))
 have HC := Lib.hid (capX_nn hc)
 have H2 := Lib.hid (fun x (h : x ∈ nn xs) => h200 x (nn_mem h))
 have hnu := nullsL_len (xs := xs) (by omega)
 have HR := Lib.hid (show putR k d xs = if (valR k d (nn xs)).2 ≠ 0 then ([], (valR k d (nn xs)).2) else ([d] ++ (vput xs.length ++ (nullsL xs ++ (valR k d (nn xs)).1)), 0) from rfl)
 obtain ⟨q, hq⟩ : ∃ q, q = (nn xs).length := ⟨_, rfl⟩
 obtain ⟨Nl, hNl⟩ : ∃ Nl, Nl = nullsL xs := ⟨_, rfl⟩
 obtain ⟨u, hu⟩ : ∃ u, u = Nl.length := ⟨_, rfl⟩
 rw [← hNl] at HN hnu HR
 rw [← hu] at hnu
 rw [← hq] at HW hnl
 have Hq := Lib.hid hq
 have Hl := Lib.hid hl
 have Hu := Lib.hid hu
 have HI := Lib.hid hx.all
 have hPu : Hid (∀ W, Calls Tryz.prog 110 #[.int .u64 (n : Int)] W fun e w' => ∃ A' c', e = .returned (.slice A' (vput n).length c') ∧ Own .u8 5 w' W.heap.size A' c' (vput n) ∧ Ext W w') := Lib.hid (fun W => put_any n W (by omega))
 have hvs := vsize_le (u := n) (by omega)
 have Hvs := Lib.hid (show (vput n).length ≤ 10 by rw [vput_len]; exact hvs)
 have hw8 : IntKind.u8.wrap (d : Int) = (d : Int) := IntWalk.u8_in _ (by omega)
 have hw64 : IntKind.u64.wrap (n : Int) = (n : Int) := IntWalk.u64_in _ (by omega)
 clear hx hc h200 hNl hq hl hu hvs
 go_enter Tryz.func68, Tryz.ntmps68
 go_wp2_with fail
 refine (HN.out _ (Ext.refl _)).mono ?_
 rintro e w1 ⟨A1, c1, rfl, ho1, he1⟩
 simp only [← Hu.out]
 go_wp2_with fail
 refine (HW.out _ he1).mono ?_
 rintro e w2 ⟨A2, c2, rfl, ho2, he2⟩
 go_wp2_with fail
 have hr2 : RdX w2 A2 q (nn xs) := by rw [Hq.out]; exact ho2.rdX (fun x h => (HI.out x (nn_mem h)).ext (he1.trans he2))
 have hV := Lib.hid (putValues_any k d A2 q c2 (nn xs) w2 hr2 HC.out (by have := Hl.out; omega) H2.out)
 have hvl := valR_len k d hr2.nums H2.out (by rw [← Hq.out]; have := Hl.out; omega)
 obtain ⟨V, hVV⟩ : ∃ V, V = valR k d (nn xs) := ⟨_, rfl⟩
 rw [← hVV] at hV hvl HR
 obtain ⟨V1, V2⟩ := V
 simp only at hvl HR
 obtain ⟨v, hv⟩ : ∃ v, v = V1.length := ⟨_, rfl⟩
 rw [← hv] at hvl
 have Hv := Lib.hid hv
 have he12 := he1.trans he2
 clear hVV hr2 hv
 refine (hV.out).mono ?_
 rintro e w3 ⟨A3, c3, rfl, ho3, he3⟩
 simp only [← Hv.out]
 have he13 := he12.trans he3
 by_cases hz : V2 = 0
 · subst hz
   have HR2 := Lib.hid (HR.out.trans (if_neg (fun h => h rfl)))
   have hz1 := he1.size
   have hz2 := he12.size
   have hz3 := he13.size
   go_wp2_with fail
   refine (hPu.out _).mono ?_
   rintro e w4 ⟨A4, c4, rfl, ho4, he4⟩
   go_wp2_with fail
   have hfl : ([[d], vput n, Nl, V1] : List (List Nat)).flatten = [d] ++ (vput n ++ (Nl ++ V1)) := by simp
   obtain ⟨M, hM⟩ : ∃ M, M = [d] ++ (vput n ++ (Nl ++ V1)) := ⟨_, rfl⟩
   rw [← hM] at hfl
   have hMl : M.length ≤ 1000700 := by rw [hM, List.length_append, List.length_append, List.length_append, ← Hu.out, ← Hv.out]; have := Hvs.out; simp only [List.length_singleton]; omega
   have hRR : putR k d xs = (M, 0) := by rw [HR2.out, Hl.out, hM]
   have hE4 : Ext w3 w4 := ((Ext.refl w3).alloc _).trans he4
   have hss := RdSS.four 22 w4 (c := 1) (c2 := c4) (c3 := c1) (c4 := c3) rfl ((Rd.lit .u8 5 w3 [d]).ext he4) ho4.rd (((ho1.rd' Hu.out.symm).ext (he2.trans he3)).ext hE4) ((ho3.rd' Hv.out.symm).ext hE4)
   have HCc := Lib.hid (concat_any (some ⟨w4.heap.size, 0, none⟩) 4 4 [[d], vput n, Nl, V1] _ hss (by rw [hfl]; omega) (by decide))
   rw [hfl] at HCc
   clear hM hss
   refine HCc.out.mono ?_
   rintro e w5 ⟨A5, c5, rfl, ho5, he5⟩
   have hE5 : Ext w4 w5 := ((Ext.refl w4).alloc _).trans he5
   go_wp2_with fail
   go_ret2
   have hz4 := hE4.size
   exact PEncPost.good _ hRR rfl (ho5.mono (by rw [World.size_alloc]; omega)) ((he13.trans hE4).trans hE5)
 · have hzb : (V2 == 0) = false := beq_eq_false_iff_ne.2 hz
   have HR2 := Lib.hid (HR.out.trans (if_pos hz))
   clear hz
   go_wp2_with fail
   go_ret2
   exact PEncPost.bad _ HR2.out he13
def bestF (k : Int) (xs : List Ci) : List Int → Int × List Nat → (Int × List Nat) × Int
 | [], s => (s, 0)
 | cd :: cs, s => if (putR k cd xs).2 ≠ 0 then ((0, []), (putR k cd xs).2) else bestF k xs cs (if s.1 = 0 ∨ (putR k cd xs).1.length < s.2.length then (cd, (putR k cd xs).1) else s)
theorem bestF_at {k : Int} {xs : List Ci} {L : List Int} {j : Nat} {cd : Int} (h : L[j]? = some cd) (s : Int × List Nat) : bestF k xs (L.drop j) s = if (putR k cd xs).2 ≠ 0 then ((0, []), (putR k cd xs).2) else bestF k xs (L.drop (j + 1)) (if s.1 = 0 ∨ (putR k cd xs).1.length < s.2.length then (cd, (putR k cd xs).1) else s) := by
 obtain ⟨h1, h2⟩ := List.getElem?_eq_some_iff.1 h
 rw [List.drop_eq_getElem_cons h1, h2]; rfl
theorem codecs_len (k : Int) : (codecs k).length = 3 := by unfold codecs; split <;> rfl
theorem codecs_mem {k cd : Int} (h : cd ∈ codecs k) : 1 ≤ cd ∧ cd ≤ 5 := by
 unfold codecs at h
 split at h <;> simp at h <;> omega
theorem putR_len {k cd : Int} {xs : List Ci} (h : R64s (xs.map Ci.num)) (h2 : ∀ x ∈ xs, x.txt.length ≤ 200) (hn : xs.length ≤ 4096) : (putR k cd xs).1.length ≤ 1000700 := by
 unfold putR
 split
 · simp
 · have h3 := nn_le xs
   have h4 := valR_len k cd (xs := nn xs) (fun v hv => by
     obtain ⟨x, hx, rfl⟩ := List.mem_map.1 hv
     exact h _ (List.mem_map.2 ⟨x, nn_mem hx, rfl⟩)) (fun x hx => h2 x (nn_mem hx)) (by omega)
   have h5 := nullsL_len hn
   have h6 := vsize_le (u := xs.length) (by omega)
   simp only [List.length_append, vput_len, List.length_singleton]
   omega
set_option maxHeartbeats 2000000 in
theorem putBest_any (k : Int) (A : Option Addr) (n c : Nat) (xs : List Ci) (w : World) (hx : RdX w A n xs) (hc : CapX xs) (hn : n ≤ 4096) (h200 : ∀ x ∈ xs, x.txt.length ≤ 200) :
   Calls Tryz.prog 70 #[.int .i64 k, .slice A n c] w fun e w' => ∃ A' c', e = .returned (.tuple #[.int .i64 (bestF k xs (codecs k) (0, [])).1.1, .slice A' (bestF k xs (codecs k) (0, [])).1.2.length c', .int .i64 (bestF k xs (codecs k) (0, [])).2]) ∧ Own .u8 5 w' w.heap.size A' c' (bestF k xs (codecs k) (0, [])).1.2 ∧ Ext w w' := by
 have HP := Lib.hid (fun cd (h : cd ∈ codecs k) W (hW : Ext w W) => bput_any k cd (by have := codecs_mem h; omega) A n c xs W (hx.ext hW) hc hn h200)
 have HL := Lib.hid (fun cd => putR_len (k := k) (cd := cd) hx.nums h200 (by rw [hx.1]; exact hn))
 have HF := Lib.hid (codecsFor_any k w)
 obtain ⟨R, hR⟩ : ∃ R, R = bestF k xs (codecs k) (0, []) := ⟨_, rfl⟩
 rw [← hR]
 have Hs := Lib.hid (show bestF k xs ((codecs k).drop 0) (0, []) = R by rw [hR]; rfl)
 have Ha := Lib.hid (fun (j : Nat) cd (h : (codecs k)[j]? = some cd) s => bestF_at (k := k) (xs := xs) h s)
 have Hcl := Lib.hid (codecs_len k)
 clear hx hc hn h200 hR
 go_enter Tryz.func70, Tryz.ntmps70
 go_wp2_with fail
 refine HF.out.mono ?_
 rintro e w1 ⟨A1, c1, rfl, hr1, he1⟩
 have Hr1 := Lib.hid hr1
 clear hr1
 go_wp2_with fail
 go_loopw [7, 8, 16] (fun y z i wr => ∃ (j l : Nat) (b : Int) (L : List Nat) (A' : Option Addr) (c' : Nat), j ≤ 3 ∧ l ≤ 1000700 ∧ i = .int .i64 (j : Int) ∧ y = .int .i64 b ∧ z = .slice A' l c' ∧ Hid (L.length = l) ∧ Own .u8 5 wr w.heap.size A' c' L ∧ Ext w1 wr ∧ Hid (bestF k xs ((codecs k).drop j) (b, L) = R)) (fun _ _ i _ => 3 - (intOf i).toNat)
 case atStart => exact ⟨0, 0, 0, [], none, 0, by decide, by decide, rfl, rfl, rfl, Lib.hid rfl, Own.nil .., Ext.refl _, Lib.hid Hs.out⟩
 case round =>
   obtain ⟨j, l, b, L, A', c', hj, hl, rfl, rfl, rfl, HK, hO, hE, HB⟩ := hrel
   have HO := Lib.hid hO
   clear hO
   by_cases hlt : j < 3
   · obtain ⟨bb, o, rfl, hb, hcell⟩ := (Hr1.out.ext hE).atZ hlt
     have hget : (codecs k)[j]? = some ((codecs k).getD j 0) := by
       have h2 : j < (codecs k).length := by rw [Hcl.out]; exact hlt
       simp only [List.getD, List.getElem?_eq_getElem h2, Option.getD_some]
     obtain ⟨cd, hcd⟩ : ∃ cd, cd = (codecs k).getD j 0 := ⟨_, rfl⟩
     rw [← hcd] at hcell hget
     have hmem := List.mem_of_getElem? hget
     have Hp := Lib.hid (HP.out cd hmem wr (he1.trans hE))
     have hlen := HL.out cd
     have hB2 := HB.out
     rw [Ha.out j cd hget] at hB2
     obtain ⟨P, hP⟩ : ∃ P, P = putR k cd xs := ⟨_, rfl⟩
     rw [← hP] at Hp hlen hB2
     obtain ⟨P1, P2⟩ := P
     simp only at hlen hB2
     obtain ⟨p, hp⟩ : ∃ p, p = P1.length := ⟨_, rfl⟩
     rw [← hp] at hlen hB2
     rw [HK.out] at hB2
     have Hpp := Lib.hid hp
     have HB2 := Lib.hid hB2
     have hcd1 := (codecs_mem hmem).1
     clear hcd hmem hP hp hB2 hget HB
     by_cases hz : P2 = 0
     · subst hz
       have hB3 := HB2.out
       rw [if_neg (fun h => h rfl)] at hB3
       by_cases hb0 : b = 0
       · subst hb0
         rw [if_pos (.inl rfl)] at hB3
         have HB3 := Lib.hid hB3
         clear hB3
         go_wp2_with fail
         refine Hp.out.mono ?_
         rintro e w2 ⟨A2, c2, rfl, ho2, he2⟩
         simp only [← Hpp.out]
         have hE2 := (he1.trans hE).size
         go_wp2_with fail
         go_roundw
         case rel => exact ⟨j + 1, p, cd, P1, A2, c2, hlt, hlen, by go_num, rfl, rfl, Lib.hid Hpp.out.symm, ho2.mono hE2, hE.trans he2, HB3⟩
         case measure => simp [intOf]; omega
       · have hbb : (b == 0) = false := beq_eq_false_iff_ne.2 hb0
         by_cases hlt2 : p < l
         · rw [if_pos (.inr hlt2)] at hB3
           have HB3 := Lib.hid hB3
           clear hB3 hb0
           have hI : (p : Int) < (l : Int) := by omega
           go_wp2_with fail
           refine Hp.out.mono ?_
           rintro e w2 ⟨A2, c2, rfl, ho2, he2⟩
           simp only [← Hpp.out]
           have hE2 := (he1.trans hE).size
           go_wp2_with fail
           go_roundw
           case rel => exact ⟨j + 1, p, cd, P1, A2, c2, hlt, hlen, by go_num, rfl, rfl, Lib.hid Hpp.out.symm, ho2.mono hE2, hE.trans he2, HB3⟩
           case measure => simp [intOf]; omega
         · rw [if_neg (fun h => h.elim hb0 hlt2)] at hB3
           have HB3 := Lib.hid hB3
           clear hB3 hb0
           have hI : ¬ (p : Int) < (l : Int) := by omega
           go_wp2_with fail
           refine Hp.out.mono ?_
           rintro e w2 ⟨A2, c2, rfl, ho2, he2⟩
           simp only [← Hpp.out]
           go_wp2_with fail
           go_roundw
           case rel => exact ⟨j + 1, l, b, L, A', c', hlt, hl, by go_num, rfl, rfl, HK, HO.out.ext he2, hE.trans he2, HB3⟩
           case measure => simp [intOf]; omega
     · have hzb : (P2 == 0) = false := beq_eq_false_iff_ne.2 hz
       have HR2 := Lib.hid (HB2.out.symm.trans (if_pos hz))
       clear hz
       go_wp2_with fail
       refine Hp.out.mono ?_
       rintro e w2 ⟨A2, c2, rfl, ho2, he2⟩
       simp only [← Hpp.out]
       go_wp2_with fail
       go_ret3
       rw [HR2.out]
       exact ⟨none, 0, rfl, Own.nil .., (he1.trans hE).trans he2⟩
   · obtain rfl : j = 3 := by omega
     have HR2 : Hid (R = ((b, L), 0)) := Lib.hid (by
       have := HB.out
       rw [List.drop_eq_nil_of_le (by rw [Hcl.out]; decide)] at this
       exact this.symm)
     clear HB
     go_wp2
     go_ret3
     rw [HR2.out]
     exact ⟨A', c', by rw [← HK.out]; rfl, HO.out, he1.trans hE⟩
theorem encL_u8b (rs : List (Int × Int)) : U8 (encL rs) := by
 induction rs with
 | nil => intro v hv; cases hv
 | cons r rs ih =>
   rw [encL_cons]
   intro v hv
   rcases List.mem_append.1 hv with h | h
   · exact vput_u8 _ v h
   · rcases List.mem_append.1 h with h | h
     · exact vput_u8 _ v h
     · exact ih v h
theorem e8_u8b (vs : List Int) : U8 (encode8 vs).1 := by
 unfold encode8
 split
 · intro v hv; cases hv
 · intro v hv
   rcases List.mem_append.1 hv with h | h
   · exact vput_u8 _ v h
   · exact encL_u8b _ v h
theorem e9_u8b (vs : List Int) (h : R64s vs) : U8 (encode9 vs).1 := by
 unfold encode9
 split
 · intro v hv; cases hv
 · show U8 (encP vs)
   unfold encP
   split
   · exact vput_u8 _
   · rename_i hn
     have := wid_le h (by omega)
     intro v hv
     rcases List.mem_append.1 hv with h1 | h1
     · exact vput_u8 _ v h1
     · rcases List.mem_append.1 h1 with h1 | h1
       · exact vput_u8 _ v h1
       · rcases List.mem_append.1 h1 with h1 | h1
         · simp at h1; omega
         · exact packB_u8 _ _ v h1
theorem ed_u8b {ss : List (List Nat)} (h : ∀ s ∈ ss, U8 s) : U8 (dencR ss).1 := by
 unfold dencR
 split
 · intro v hv; cases hv
 · exact denc_u8 h
theorem ep_u8b {ss : List (List Nat)} (h : ∀ s ∈ ss, U8 s) : U8 (pencR ss).1 := by
 unfold pencR
 split
 · intro v hv; cases hv
 · exact penc_u8 h
theorem plainL_u8 (k : Int) (xs : List Ci) (h : ∀ x ∈ xs, U8 x.txt) : U8 (plainL k xs) := by
 intro v hv
 unfold plainL at hv
 obtain ⟨l, hl, hv⟩ := List.mem_flatten.1 hv
 obtain ⟨x, hx, rfl⟩ := List.mem_map.1 hl
 exact plain1_u8 (h x hx) v hv
theorem valR_u8 (k cd : Int) {xs : List Ci} (h : R64s (xs.map Ci.num)) (h2 : ∀ x ∈ xs, U8 x.txt) : U8 (valR k cd xs).1 := by
 have h3 : ∀ s ∈ xs.map Ci.txt, U8 s := fun s hs => by
   obtain ⟨x, hx, rfl⟩ := List.mem_map.1 hs
   exact h2 x hx
 unfold valR
 split
 · exact e8_u8b _
 · split
   · exact e9_u8b _ h
   · split
     · exact ed_u8b h3
     · split
       · exact ep_u8b h3
       · exact plainL_u8 k xs h2
theorem nullsL_u8 (xs : List Ci) : U8 (nullsL xs) := by
 unfold nullsL
 split
 · intro v hv
   rcases List.mem_cons.1 hv with h | h
   · omega
   · exact packB_u8 _ _ v h
 · intro v hv
   simp at hv; omega
theorem putR_u8 (k cd : Int) (hcd : 1 ≤ cd ∧ cd ≤ 5) {xs : List Ci} (h : R64s (xs.map Ci.num)) (h2 : ∀ x ∈ xs, U8 x.txt) : U8 (putR k cd xs).1 := by
 unfold putR
 split
 · intro v hv; cases hv
 · refine u8_append ?_ (u8_append (vput_u8 _) (u8_append (nullsL_u8 xs) (valR_u8 k cd ?_ (fun x hx => h2 x (nn_mem hx)))))
   · intro v hv
     simp at hv; omega
   · intro v hv
     obtain ⟨x, hx, rfl⟩ := List.mem_map.1 hv
     exact h _ (List.mem_map.2 ⟨x, nn_mem hx, rfl⟩)
theorem bestF_u8 (k : Int) {xs : List Ci} (h : R64s (xs.map Ci.num)) (h2 : ∀ x ∈ xs, U8 x.txt) : ∀ (L : List Int) (s : Int × List Nat), (∀ cd ∈ L, 1 ≤ cd ∧ cd ≤ 5) → U8 s.2 → U8 (bestF k xs L s).1.2
 | [], s, _, hs => hs
 | cd :: cs, s, hL, hs => by
   have h3 := putR_u8 k cd (hL cd (List.mem_cons_self ..)) h h2
   unfold bestF
   split
   · intro v hv; cases hv
   · refine bestF_u8 k h h2 cs _ (fun c hc => hL c (List.mem_cons_of_mem _ hc)) ?_
     split
     · exact h3
     · exact hs
theorem bestF_len (k : Int) {xs : List Ci} (h : R64s (xs.map Ci.num)) (h2 : ∀ x ∈ xs, x.txt.length ≤ 200) (hn : xs.length ≤ 4096) : ∀ (L : List Int) (s : Int × List Nat), s.2.length ≤ 1000700 → (bestF k xs L s).1.2.length ≤ 1000700
 | [], s, hs => hs
 | cd :: cs, s, hs => by
   have h3 := putR_len (k := k) (cd := cd) h h2 hn
   unfold bestF
   split
   · simp
   · refine bestF_len k h h2 hn cs _ ?_
     split
     · exact h3
     · exact hs
theorem chk_short {k : Int} {nul : Bool} {num : Int} {txt : List Nat} (h : chk k true nul num txt = 0) : txt.length ≤ 200 := by
 unfold chk at h
 split at h
 · omega
 · split at h
   · rw [if_pos rfl] at h
     split at h
     · omega
     · omega
   · split at h
     · split at h
       · omega
       · omega
     · split at h
       · omega
       · split at h
         · omega
         · omega
theorem chkA_all {k : Int} : ∀ {xs : List Ci}, chkA k xs = 0 → ∀ x ∈ xs, chk k true x.nul x.num x.txt = 0
 | [], _, _, h => by cases h
 | y :: ys, h, x, hx => by
   unfold chkA at h
   by_cases hy : chk k true y.nul y.num y.txt = 0
   · rw [if_neg (fun q => q hy)] at h
     rcases List.mem_cons.1 hx with rfl | hx
     · exact hy
     · exact chkA_all h x hx
   · rw [if_pos hy] at h; exact absurd h hy
theorem chkB_good {k : Int} {xs : List Ci} (h : chkB k xs = 0) : xs.length ≤ 4096 ∧ (∀ x ∈ xs, chk k true x.nul x.num x.txt = 0) ∧ ∀ x ∈ xs, x.txt.length ≤ 200 := by
 unfold chkB at h
 split at h
 · omega
 · have h2 := chkA_all h
   exact ⟨by omega, h2, fun x hx => chk_short (h2 x hx)⟩
def bencR (k cd : Int) (xs : List Ci) : List Nat × Int :=
 if kindK k = false then ([], 1) else if ¬ cd ∈ codecs k then ([], 120) else if chkB k xs ≠ 0 then ([], chkB k xs) else if (putR k cd xs).2 ≠ 0 then ([], (putR k cd xs).2) else (sealL (putR k cd xs).1, sealE (putR k cd xs).1)
def bbestR (k : Int) (xs : List Ci) : (Int × List Nat) × Int :=
 if kindK k = false then ((0, []), 1) else if chkB k xs ≠ 0 then ((0, []), chkB k xs) else if (bestF k xs (codecs k) (0, [])).2 ≠ 0 then ((0, []), (bestF k xs (codecs k) (0, [])).2)
 else if sealE (bestF k xs (codecs k) (0, [])).1.2 ≠ 0 then ((0, []), sealE (bestF k xs (codecs k) (0, [])).1.2) else (((bestF k xs (codecs k) (0, [])).1.1, sealL (bestF k xs (codecs k) (0, [])).1.2), 0)
def BestPost (R : (Int × List Nat) × Int) (w : World) (e : Ending) (w' : World) : Prop :=
 ∃ A' c', e = .returned (.tuple #[.int .i64 R.1.1, .slice A' R.1.2.length c', .int .i64 R.2]) ∧ Own .u8 5 w' w.heap.size A' c' R.1.2 ∧ Ext w w'
theorem BestPost.bad {w w' : World} (R : (Int × List Nat) × Int) {E : Int} (h : R = ((0, []), E)) (he : Ext w w') : BestPost R w (.returned (.tuple #[.int .i64 0, .slice none 0 0, .int .i64 E])) w' := by
 subst h
 exact ⟨none, 0, rfl, Own.nil .., he⟩
set_option maxHeartbeats 2000000 in
theorem bbest_any (k : Int) (A : Option Addr) (n c : Nat) (xs : List Ci) (w : World) (hx : RdX w A n xs) (hc : CapX xs) (hn : n ≤ 281474976710656) :
   Calls Tryz.prog 36 #[.int .i64 k, .slice A n c] w (BestPost (bbestR k xs) w) := by
 have HK := Lib.hid (isKindB_any k)
 have HC := Lib.hid (fun W (hW : Ext w W) => checkB_any k A n c xs W (hx.ext hW) hn)
 have HR : Hid (bbestR k xs = if kindK k = false then ((0, []), 1) else if chkB k xs ≠ 0 then ((0, []), chkB k xs) else if (bestF k xs (codecs k) (0, [])).2 ≠ 0 then ((0, []), (bestF k xs (codecs k) (0, [])).2)
 else if sealE (bestF k xs (codecs k) (0, [])).1.2 ≠ 0 then ((0, []), sealE (bestF k xs (codecs k) (0, [])).1.2) else (((bestF k xs (codecs k) (0, [])).1.1, sealL (bestF k xs (codecs k) (0, [])).1.2), 0)) := Lib.hid rfl
 have Hx := Lib.hid hx
 have Hc := Lib.hid hc
 obtain ⟨B, hB⟩ : ∃ B, B = kindK k := ⟨_, rfl⟩
 rw [← hB] at HK HR
 obtain ⟨E, hE⟩ : ∃ E, E = chkB k xs := ⟨_, rfl⟩
 rw [← hE] at HC HR
 have HE := Lib.hid hE
 clear hx hc hB hE
 cases B with
 | false =>
   have HR2 := Lib.hid (HR.out.trans (if_pos rfl))
   clear HR
   go_enter Tryz.func36, Tryz.ntmps36
   go_wp2_with fail
   refine (HK.out _).mono ?_
   rintro e w1 ⟨rfl, he1⟩
   go_wp2_with fail
   go_ret3
   exact BestPost.bad _ HR2.out he1
 | true =>
   have HR4 := Lib.hid (HR.out.trans (if_neg (by decide)))
   clear HR
   by_cases hz : E = 0
   · subst hz
     have HR5 := Lib.hid (HR4.out.trans (if_neg (fun h => h rfl)))
     clear HR4
     obtain ⟨g1, g2, g3⟩ := chkB_good HE.out.symm
     have hl := Hx.out.1
     have HP := Lib.hid (fun W (hW : Ext w W) => putBest_any k A n c xs W (Hx.out.ext hW) Hc.out (by omega) g3)
     have HU := Lib.hid (bestF_u8 k Hx.out.nums (fun x hx => (Hx.out.all x hx).u8) (codecs k) (0, []) (fun cd h => codecs_mem h) (fun v hv => by cases hv))
     have HL := Lib.hid (bestF_len k Hx.out.nums g3 g1 (codecs k) (0, []) (by simp))
     obtain ⟨P, hP⟩ : ∃ P, P = bestF k xs (codecs k) (0, []) := ⟨_, rfl⟩
     rw [← hP] at HP HU HL HR5
     obtain ⟨⟨P0, P1⟩, P2⟩ := P
     simp only at HU HL HR5 HP
     clear g1 g2 g3 hl hP
     by_cases hp : P2 = 0
     · subst hp
       have HR6 := Lib.hid (HR5.out.trans (if_neg (fun h => h rfl)))
       clear HR5
       have HS := Lib.hid (fun A4 c4 w4 (ho4 : Rd .u8 w4 A4 P1.length P1) => bseal_any A4 _ c4 P1 w4 ho4 HU.out (by have := HL.out; omega))
       obtain ⟨SE, hSE⟩ : ∃ SE, SE = sealE P1 := ⟨_, rfl⟩
       rw [← hSE] at HS HR6
       clear hSE
       by_cases hs : SE = 0
       · subst hs
         have HR7 := Lib.hid (HR6.out.trans (if_neg (fun h => h rfl)))
         clear HR6
         go_enter Tryz.func36, Tryz.ntmps36
         go_wp2_with fail
         refine (HK.out _).mono ?_
         rintro e w1 ⟨rfl, he1⟩
         go_wp2_with fail
         refine (HC.out _ he1).mono ?_
         rintro e w3 ⟨rfl, he3⟩
         go_wp2_with fail
         refine (HP.out _ (he1.trans he3)).mono ?_
         rintro e w4 ⟨A4, c4, rfl, ho4, he4⟩
         go_wp2_with fail
         refine (HS.out A4 c4 w4 ho4.rd).mono ?_
         rintro e w5 ⟨A5, c5, rfl, ho5, he5⟩
         go_wp2_with fail
         go_ret3
         rw [HR7.out]
         have hE := (he1.trans he3).trans he4
         exact ⟨A5, c5, rfl, ho5.mono hE.size, hE.trans he5⟩
       · have hsb : (SE == 0) = false := beq_eq_false_iff_ne.2 hs
         have HR7 := Lib.hid (HR6.out.trans (if_pos hs))
         clear HR6 hs
         go_enter Tryz.func36, Tryz.ntmps36
         go_wp2_with fail
         refine (HK.out _).mono ?_
         rintro e w1 ⟨rfl, he1⟩
         go_wp2_with fail
         refine (HC.out _ he1).mono ?_
         rintro e w3 ⟨rfl, he3⟩
         go_wp2_with fail
         refine (HP.out _ (he1.trans he3)).mono ?_
         rintro e w4 ⟨A4, c4, rfl, ho4, he4⟩
         go_wp2_with fail
         refine (HS.out A4 c4 w4 ho4.rd).mono ?_
         rintro e w5 ⟨A5, c5, rfl, ho5, he5⟩
         go_wp2_with fail
         go_ret3
         exact BestPost.bad _ HR7.out (((he1.trans he3).trans he4).trans he5)
     · have hpb : (P2 == 0) = false := beq_eq_false_iff_ne.2 hp
       have HR6 := Lib.hid (HR5.out.trans (if_pos hp))
       clear HR5 hp
       go_enter Tryz.func36, Tryz.ntmps36
       go_wp2_with fail
       refine (HK.out _).mono ?_
       rintro e w1 ⟨rfl, he1⟩
       go_wp2_with fail
       refine (HC.out _ he1).mono ?_
       rintro e w3 ⟨rfl, he3⟩
       go_wp2_with fail
       refine (HP.out _ (he1.trans he3)).mono ?_
       rintro e w4 ⟨A4, c4, rfl, ho4, he4⟩
       go_wp2_with fail
       go_ret3
       exact BestPost.bad _ HR6.out ((he1.trans he3).trans he4)
   · have hzb : (E == 0) = false := beq_eq_false_iff_ne.2 hz
     have HR5 := Lib.hid (HR4.out.trans (if_pos hz))
     clear HR4 hz
     go_enter Tryz.func36, Tryz.ntmps36
     go_wp2_with fail
     refine (HK.out _).mono ?_
     rintro e w1 ⟨rfl, he1⟩
     go_wp2_with fail
     refine (HC.out _ he1).mono ?_
     rintro e w3 ⟨rfl, he3⟩
     go_wp2_with fail
     go_ret3
     exact BestPost.bad _ HR5.out (he1.trans he3)
set_option maxHeartbeats 1000000 in
theorem howMany_any (A : Option Addr) (n c : Nat) (xs : List Nat) (v : Nat) (w : World) (hx : Rd .u64 w A n xs) (hn : n ≤ 281474976710656) :
   Calls Tryz.prog 80 #[.slice A n c, .int .u64 (v : Int)] w fun e w' => e = .returned (.int .i64 (xs.count v : Nat)) ∧ w = w' := by
 have Hl := Lib.hid hx.len
 have Hx := Lib.hid hx
 clear hx
 go_enter Tryz.func80, Tryz.ntmps80
 go_wp2_with fail
 go_loop [5, 9] (fun y i => ∃ j k : Nat, j ≤ n ∧ k ≤ j ∧ y = .int .i64 (k : Int) ∧ i = .int .i64 (j : Int) ∧ Hid ((xs.take j).count v = k)) (fun _ i => n - (intOf i).toNat)
 case atStart => exact ⟨0, 0, Nat.zero_le _, Nat.le_refl _, rfl, rfl, Lib.hid rfl⟩
 case round =>
   obtain ⟨j, k, hj, hk, rfl, rfl, HJ⟩ := hrel
   by_cases hlt : j < n
   · obtain ⟨b, o, rfl, hb, hcell⟩ := Hx.out.at_ hlt
     have h2 : j < xs.length := by rw [Hl.out]; exact hlt
     have ht : xs.take (j + 1) = xs.take j ++ [xs.getD j 0] := by rw [List.take_succ_eq_append_getElem h2]; simp [List.getD, h2]
     obtain ⟨x, hx⟩ : ∃ x, x = xs.getD j 0 := ⟨_, rfl⟩
     rw [← hx] at hcell ht
     have Ht := Lib.hid ht
     clear hx ht h2
     by_cases hv : x = v
     · subst hv
       go_wp2_with fail
       go_round
       case rel => exact ⟨j + 1, k + 1, hlt, by omega, by go_num, by go_num, Lib.hid (by rw [Ht.out, List.count_append, HJ.out]; simp)⟩
       case measure => simp [intOf]; omega
     · have hvb : ((x : Int) == (v : Int)) = false := beq_eq_false_iff_ne.2 (by omega)
       have Hv := Lib.hid hv
       clear hv
       go_wp2_with fail
       go_round
       case rel => exact ⟨j + 1, k, hlt, by omega, rfl, by go_num, Lib.hid (by rw [Ht.out, List.count_append, HJ.out, List.count_singleton]; simp [Hv.out])⟩
       case measure => simp [intOf]; omega
   · obtain rfl : j = n := by omega
     have hE := HJ.out
     rw [List.take_of_length_le (Nat.le_of_eq Hl.out)] at hE
     have HE := Lib.hid hE
     clear hE
     go_wp2
     go_ret
     exact ⟨by rw [HE.out]; rfl, rfl⟩
theorem unp_len12 {N len : Nat} {wd cnt : Int} (h : unpE N len wd cnt = 0) : (unpL N len wd cnt).length = cnt.toNat := by rw [unp_ok h, upk_len]
def rowR (bs : List Nat) (a n : Nat) : (List Nat × Int) × Int :=
 if bs.length < a + (n + 7) / 8 then (([], 0), 2)
 else if unpE (pk 8 ((bs.drop a).take ((n + 7) / 8))) ((n + 7) / 8) 1 n ≠ 0 then (([], 0), unpE (pk 8 ((bs.drop a).take ((n + 7) / 8))) ((n + 7) / 8) 1 n)
 else if (unpL (pk 8 ((bs.drop a).take ((n + 7) / 8))) ((n + 7) / 8) 1 n).count 1 = 0 then (([], 0), 5)
 else ((unpL (pk 8 ((bs.drop a).take ((n + 7) / 8))) ((n + 7) / 8) 1 n, (a + (n + 7) / 8 : Nat)), 0)
def nullR (bs : List Nat) (a n : Nat) : (List Nat × Int) × Int :=
 if a = bs.length then (([], 0), 2) else if bs.getD a 0 = 0 then ((List.replicate n 0, (a + 1 : Nat)), 0) else if bs.getD a 0 = 1 then rowR bs (a + 1) n else (([], 0), 5)
def NulPost (R : (List Nat × Int) × Int) (w : World) (e : Ending) (w' : World) : Prop :=
 ∃ A' c', e = .returned (.tuple #[.slice A' R.1.1.length c', .int .i64 R.1.2, .int .i64 R.2]) ∧ Own .u64 69 w' w.heap.size A' c' R.1.1 ∧ Ext w w'
theorem NulPost.bad {w w' : World} (R : (List Nat × Int) × Int) {E : Int} (h : R = (([], 0), E)) (he : Ext w w') : NulPost R w (.returned (.tuple #[.slice none 0 0, .int .i64 0, .int .i64 E])) w' := by
 subst h
 exact ⟨none, 0, rfl, Own.nil .., he⟩
set_option maxHeartbeats 2000000 in
theorem getRow_any (A : Option Addr) (m c a n : Nat) (bs : List Nat) (w : World) (hx : Rd .u8 w A m bs) (hu : U8 bs) (hm : m ≤ 140737488355328) (hc : m ≤ c) (_hc2 : c ≤ 9223372036854775807) (ha : a ≤ m) (hn : n ≤ 4096) :
   Calls Tryz.prog 118 #[.slice A m c, .int .i64 (a : Int), .int .i64 (n : Int)] w (NulPost (rowR bs a n) w) := by
 have hl := hx.len
 have hR := rowR.eq_1 bs a n
 obtain ⟨s, hs⟩ : ∃ s, s = (n + 7) / 8 := ⟨_, rfl⟩
 rw [← hs, hl] at hR
 have hs1 : s ≤ 512 := by omega
 have hdv : Int.tdiv ((n : Int) + 7) 8 = (s : Int) := by rw [Int.tdiv_eq_ediv_of_nonneg (by omega)]; omega
 clear hs
 by_cases h1 : m < a + s
 · have HR := Lib.hid (hR.trans (if_pos h1))
   have hI : (s : Int) > (m : Int) - (a : Int) := by omega
   clear hR h1 hx
   go_enter Tryz.func118, Tryz.ntmps118
   go_wp2_with fail
   go_ret3
   exact NulPost.bad _ HR.out (Ext.refl _)
 · replace hR := hR.trans (if_neg h1)
   have hI : ¬ (s : Int) > (m : Int) - (a : Int) := by omega
   have sc := run_cut A m c a (a + s) (by omega) (by omega)
   have hr := hx.cut (l := a) (h := a + s) (c := c) (by omega) (by omega) hc
   rw [show a + s - a = s by omega] at hr sc
   obtain ⟨A9, hA9⟩ : ∃ A9, A9 = offA A a c := ⟨_, rfl⟩
   rw [← hA9] at hr sc
   obtain ⟨r, hre⟩ : ∃ r, r = (bs.drop a).take s := ⟨_, rfl⟩
   rw [← hre] at hr hR
   have hru : U8 r := by rw [hre]; exact fun v hv => hu v (List.mem_of_mem_drop (List.mem_of_mem_take hv))
   have HU := Lib.hid (unpack_any A9 s (c - a) 1 (n : Int) r w hr hru (by omega))
   unfold UnpPost at HU
   have HL := Lib.hid (fun h : unpE (pk 8 r) s 1 (n : Int) = 0 => unp_len12 h)
   obtain ⟨E, hE⟩ : ∃ E, E = unpE (pk 8 r) s 1 (n : Int) := ⟨_, rfl⟩
   obtain ⟨us, hus⟩ : ∃ us, us = unpL (pk 8 r) s 1 (n : Int) := ⟨_, rfl⟩
   rw [← hE, ← hus] at hR
   rw [← hE, ← hus] at HU HL
   have sc2 : ∀ W : World, (Instr.slice 22 (.slice A m c) (some (.int .i64 (a : Int))) (some (.int .i64 ((a : Int) + (s : Int)))) none).run Tryz.prog W = .ok (.slice A9 s (c - a : Nat)) W := sc
   clear hE hus hre hru hr hA9 hx hu h1 sc
   by_cases hz : E = 0
   · subst hz
     replace hR := hR.trans (if_neg (fun h => h rfl))
     have hul : us.length = n := by have := HL.out rfl; omega
     rw [hul] at HU
     have Hul := Lib.hid hul
     have HM := Lib.hid (fun A W cc (h : Rd .u64 W A n us) => howMany_any A n cc us 1 W h (by omega))
     by_cases hk : us.count 1 = 0
     · have HR := Lib.hid (hR.trans (if_pos hk))
       rw [hk] at HM
       clear hR hk hul
       go_enter Tryz.func118, Tryz.ntmps118
       go_wp2_with fail
       refine HU.out.mono ?_
       rintro e w1 ⟨A1, c1, rfl, ho, he⟩
       go_wp2_with fail
       refine (HM.out A1 w1 c1 (ho.rd' Hul.out)).mono ?_
       rintro e w2 ⟨rfl, rfl⟩
       go_wp2_with fail
       go_ret3
       exact NulPost.bad _ HR.out he
     · have HR := Lib.hid (hR.trans (if_neg hk))
       obtain ⟨q, hq⟩ : ∃ q, q = us.count 1 := ⟨_, rfl⟩
       rw [← hq] at hk HM
       have hkb : ((q : Int) == 0) = false := beq_eq_false_iff_ne.2 (by omega)
       clear hR hk hul hq
       go_enter Tryz.func118, Tryz.ntmps118
       go_wp2_with fail
       refine HU.out.mono ?_
       rintro e w1 ⟨A1, c1, rfl, ho, he⟩
       go_wp2_with fail
       refine (HM.out A1 w1 c1 (ho.rd' Hul.out)).mono ?_
       rintro e w2 ⟨rfl, rfl⟩
       go_wp2_with fail
       go_ret3
       rw [HR.out]
       exact ⟨A1, c1, by rw [Hul.out]; rfl, ho, he⟩
   · have HR := Lib.hid (hR.trans (if_pos hz))
     have hzb : (E == 0) = false := beq_eq_false_iff_ne.2 hz
     clear hR hz
     go_enter Tryz.func118, Tryz.ntmps118
     go_wp2_with fail
     refine HU.out.mono ?_
     rintro e w1 ⟨A1, c1, rfl, ho, he⟩
     go_wp2_with fail
     go_ret3
     exact NulPost.bad _ HR.out he
set_option maxHeartbeats 2000000 in
theorem getNulls_any (A : Option Addr) (m c a n : Nat) (bs : List Nat) (w : World) (hx : Rd .u8 w A m bs) (hu : U8 bs) (hm : m ≤ 140737488355328) (hc : m ≤ c) (hc2 : c ≤ 9223372036854775807) (ha : a ≤ m) (hn : n ≤ 4096) :
   Calls Tryz.prog 78 #[.slice A m c, .int .i64 (a : Int), .int .i64 (n : Int)] w (NulPost (nullR bs a n) w) := by
 have hl := hx.len
 have hR := nullR.eq_1 bs a n
 rw [hl] at hR
 by_cases h1 : a = m
 · have HR := Lib.hid (hR.trans (if_pos h1))
   subst h1
   clear hR hx
   go_enter Tryz.func78, Tryz.ntmps78
   go_wp2_with fail
   go_ret3
   exact NulPost.bad _ HR.out (Ext.refl _)
 · replace hR := hR.trans (if_neg h1)
   have hab : ((a : Int) == (m : Int)) = false := beq_eq_false_iff_ne.2 (by omega)
   have HG := Lib.hid (getRow_any A m c (a + 1) n bs w hx hu hm hc hc2 (by omega) hn)
   obtain ⟨b, o, rfl, hb, hcell⟩ := hx.at_ (show a < m by omega)
   obtain ⟨x, hxx⟩ : ∃ x, x = bs.getD a 0 := ⟨_, rfl⟩
   rw [← hxx] at hcell hR
   have hlt : a < m := by omega
   clear hxx hx hu h1
   by_cases h0 : x = 0
   · subst h0
     have HR := Lib.hid (hR.trans (if_pos rfl))
     rw [show ((0 : Nat) : Int) = 0 from rfl] at hcell
     clear hR
     go_enter Tryz.func78, Tryz.ntmps78
     go_wp2_with (first | (at_make; refine wpList_mk .u64 69 rfl _ _ 72 rfl 8 Tryz.underlying72 Tryz.infoU64 _ _ n rfl rfl rfl rfl (by omega) (by omega) ?_; intro w7 hown7 he7) | fail)
     go_ret3
     rw [HR.out]
     exact ⟨_, n, by simp, hown7, he7⟩
   · replace hR := hR.trans (if_neg h0)
     have h0b : ((x : Int) == 0) = false := beq_eq_false_iff_ne.2 (by omega)
     by_cases h1 : x = 1
     · subst h1
       have HR := Lib.hid (hR.trans (if_pos rfl))
       rw [show ((1 : Nat) : Int) = 1 from rfl] at hcell
       clear h0 h0b
       obtain ⟨R, hRR⟩ : ∃ R, R = rowR bs (a + 1) n := ⟨_, rfl⟩
       rw [← hRR] at HG HR
       clear hR hRR
       go_enter Tryz.func78, Tryz.ntmps78
       go_wp2_with fail
       refine HG.out.mono ?_
       rintro e w1 ⟨A1, c1, rfl, ho, he⟩
       go_wp2_with fail
       go_ret3
       rw [HR.out]
       exact ⟨A1, c1, rfl, ho, he⟩
     · have HR := Lib.hid (hR.trans (if_neg h1))
       have h1b : ((x : Int) == 1) = false := beq_eq_false_iff_ne.2 (by omega)
       clear hR h0 h1
       go_enter Tryz.func78, Tryz.ntmps78
       go_wp2_with fail
       go_ret3
       exact NulPost.bad _ HR.out (Ext.refl _)
def PTxPost (R : List Nat × Int × Int) (w : World) (e : Ending) (w' : World) : Prop :=
 ∃ A' c', e = .returned (.tuple #[.slice A' R.1.length c', .int .i64 R.2.1, .int .i64 R.2.2]) ∧ Own .u8 5 w' w.heap.size A' c' R.1 ∧ Ext w w'
theorem PTxPost.bad {w w' : World} (R : List Nat × Int × Int) {E : Int} (h : R = ([], 0, E)) (he : Ext w w') : PTxPost R w (.returned (.tuple #[.slice none 0 0, .int .i64 0, .int .i64 E])) w' := by
 subst h
 exact ⟨none, 0, rfl, Own.nil .., he⟩
theorem PTxPost.good {w w' : World} (R : List Nat × Int × Int) {xs : List Nat} {A : Option Addr} {m c : Nat} {z Z : Int} (h : R = (xs, z, 0)) (hm : xs.length = m) (hz : Z = z) (ho : Own .u8 5 w' w.heap.size A c xs) (he : Ext w w') : PTxPost R w (.returned (.tuple #[.slice A m c, .int .i64 Z, .int .i64 0])) w' := by
 subst h
 subst hm
 subst hz
 exact ⟨A, c, rfl, ho, he⟩
theorem RdSS.two_at {V : World} {b n c n2 c2 : Nat} {e : TypeId} {A A2 : Option Addr} {xs ys : List Nat} (hb : V.heap[b]? = some (.cells #[.slice A n c, .slice A2 n2 c2] e)) (h : Rd .u8 V A n xs) (h2 : Rd .u8 V A2 n2 ys) :
   RdSS V (some ⟨b, 0, none⟩) 2 [xs, ys] := by
 refine ⟨rfl, fun _ => ⟨b, 0, rfl, (Array.getElem?_eq_some_iff.1 hb).1, fun j hj => ?_⟩⟩
 rcases (show j = 0 ∨ j = 1 by omega) with rfl | rfl
 · exact ⟨A, n, c, cell_of_row V b 0 _ e (0, 0) hb, h⟩
 · exact ⟨A2, n2, c2, cell_of_row V b 1 _ e (0, 0) hb, h2⟩
theorem get_is {A : Option Addr} {n c : Nat} {at_ : Int} {bs : List Nat} {w : World} (hx : Rd .u8 w A n bs) (hu : U8 bs) (hn : n ≤ 140737488355328) (hcap : n ≤ c) (hcm : c ≤ 9223372036854775807) {k : Nat} {n1 e1 : Int} (h : vget bs at_ = (k, n1, e1)) :
   Calls Tryz.prog 77 #[.slice A n c, .int .i64 at_] w fun e w' => e = .returned (.tuple #[.int .u64 k, .int .i64 n1, .int .i64 e1]) ∧ w' = w :=
 (get_any A n c at_ bs w hx hu hn hcap hcm).mono fun e w' ⟨q1, q2⟩ => ⟨by rw [q1, h], q2.symm⟩
set_option maxHeartbeats 1600000 in
set_option maxRecDepth 100000 in
theorem pgetText_any (A : Option Addr) (n c : Nat) (at_ : Int) (A2 : Option Addr) (n2 c2 : Nat) (bs last : List Nat) (w : World) (hx : Rd .u8 w A n bs) (hu : U8 bs) (hn : n ≤ 140737488355328) (hcap : n ≤ c) (hcm : c ≤ 9223372036854775807)
   (hl : Rd .u8 w A2 n2 last) (h2 : n2 ≤ 200) (hcap2 : n2 ≤ c2) :
   Calls Tryz.prog 195 #[.slice A n c, .int .i64 at_, .slice A2 n2 c2] w (PTxPost (ptx bs at_ last) w) := by
 have hbl := hx.len
 have hll := hl.len
 rcases g1 : vget bs at_ with ⟨k, n1, e1⟩
 have G1 := Lib.hid (get_is hx hu hn hcap hcm g1)
 by_cases z1 : e1 = 0
 · subst z1
   obtain ⟨a1, a2, a3, a4, _⟩ := vget_at hu g1
   rw [hbl] at a3
   obtain ⟨m1, rfl⟩ := Int.eq_ofNat_of_zero_le (show 0 ≤ n1 by omega)
   rcases g2 : vget bs ((m1 : Nat) : Int) with ⟨r, n3, e2⟩
   have G2 := Lib.hid (get_is hx hu hn hcap hcm g2)
   by_cases z2 : e2 = 0
   · subst z2
     obtain ⟨b1, b2, b3, b4, _⟩ := vget_at hu g2
     rw [hbl] at b3
     obtain ⟨m2, rfl⟩ := Int.eq_ofNat_of_zero_le (show 0 ≤ n3 by omega)
     have hm2 : m2 ≤ n := by omega
     have hrlt : r < 18446744073709551616 := b4
     have hklt : k < 18446744073709551616 := a4
     by_cases hk : n2 < k
     · have HR := Lib.hid (ptx_form g1 g2 (by rw [hll]; exact hk))
       clear hx hu hbl hll g1 g2 a1 a2 a3 b1 b2 b3 hl
       go_enter Tryz.func195, Tryz.ntmps195
       go_wp2_with fail
       refine G1.out.mono ?_
       rintro e w1 ⟨rfl, rfl⟩
       go_wp2_with fail
       refine G2.out.mono ?_
       rintro e w2 ⟨rfl, rfl⟩
       go_wp2_with fail
       go_ret3
       exact PTxPost.bad _ HR.out (Ext.refl _)
     · have hk2 : k ≤ n2 := by omega
       have hk200 : k ≤ 200 := by omega
       have hsub : IntKind.u64.wrap (200 - (k : Int)) = 200 - (k : Int) := IntWalk.u64_in _ (by omega)
       by_cases hr : 200 < r + k
       · have HR := Lib.hid (ptx_long g1 g2 (by rw [hll]; exact hk2) hr)
         have hgt : 200 - (k : Int) < (r : Int) := by omega
         clear hx hu hbl hll g1 g2 a1 a2 a3 b1 b2 b3 hl
         go_enter Tryz.func195, Tryz.ntmps195
         go_wp2_with fail
         refine G1.out.mono ?_
         rintro e w1 ⟨rfl, rfl⟩
         go_wp2_with fail
         refine G2.out.mono ?_
         rintro e w2 ⟨rfl, rfl⟩
         go_wp2_with fail
         go_ret3
         exact PTxPost.bad _ HR.out (Ext.refl _)
       · have hr2 : r ≤ 200 := by omega
         have hle : ¬ 200 - (k : Int) < (r : Int) := by omega
         have hri : IntKind.i64.wrap (r : Int) = (r : Int) := IntWalk.i64_in _ (by omega)
         by_cases hs : n < m2 + r
         · have HR := Lib.hid (ptx_short g1 g2 (by rw [hll]; exact hk2) (by omega) (by rw [hbl]; omega))
           have hgt : (n : Int) - (m2 : Int) < (r : Int) := by omega
           clear hx hu hbl hll g1 g2 a1 a2 a3 b1 b2 b3 hl
           go_enter Tryz.func195, Tryz.ntmps195
           go_wp2_with fail
           refine G1.out.mono ?_
           rintro e w1 ⟨rfl, rfl⟩
           go_wp2_with fail
           refine G2.out.mono ?_
           rintro e w2 ⟨rfl, rfl⟩
           go_wp2_with fail
           go_ret3
           exact PTxPost.bad _ HR.out (Ext.refl _)
         · obtain ⟨E, hE⟩ : ∃ E, E = m2 + r := ⟨_, rfl⟩
           have hEn : E ≤ n := by omega
           have hle3 : ¬ (n : Int) - (m2 : Int) < (r : Int) := by omega
           have hrE : E - m2 = r := by omega
           have su := run_upto .u64 A2 n2 c2 k (by omega)
           have sc := run_cut A n c m2 E (by omega) (by omega)
           rw [hrE, show ((E : Nat) : Int) = (m2 : Int) + (r : Int) by omega] at sc
           have hmr : (m2 : Int) + (r : Int) ≤ 140737488355328 := by omega
           have hcr : Rd .u8 w (offA A m2 c) r (cut bs m2 r) := by
             have := hx.cut (l := m2) (h := E) (c := c) (by omega) hEn hcap
             rw [hrE] at this
             exact this
           obtain ⟨A9, hA9⟩ : ∃ A9, A9 = offA A m2 c := ⟨_, rfl⟩
           rw [← hA9] at sc hcr
           have hlr := hl.upto hk2
           obtain ⟨X, hX⟩ : ∃ X, X = last.take k ++ cut bs m2 r := ⟨_, rfl⟩
           have hXf : [last.take k, cut bs m2 r].flatten = X := by rw [hX]; simp
           have hXl : X.length = k + r := by rw [hX, List.length_append, hlr.len, hcr.len]
           have hcp := (cp_le last X).1
           have Hcon := Lib.hid (fun (W : World) (b cc : Nat) (ee : TypeId) (hb : W.heap[b]? = some (.cells #[.slice A2 k c2, .slice A9 r cc] ee)) (hW : Ext w W) => concat_any (some ⟨b, 0, none⟩) 2 2 [last.take k, cut bs m2 r] W (RdSS.two_at hb (hlr.ext hW) (hcr.ext hW)) (by rw [hXf, hXl]; omega) (by omega))
           rw [hXf, hXl] at Hcon
           have Hl := Lib.hid hl
           have HXl := Lib.hid hXl
           have Hal := Lib.hid (fun (W : World) (B : Option Addr) (cb : Nat) (hW : Ext w W) (hB : Rd .u8 W B (k + r) X) => palike_any A2 B n2 c2 (k + r) cb last X W (hl.ext hW) hB (by omega) (by omega))
           by_cases hc : k < cp last X
           · have HR := Lib.hid (ptx_more g1 g2 (by rw [hll]; exact hk2) (by omega) (by rw [hbl]; omega) (by rw [Int.toNat_natCast, ← hX]; exact hc))
             clear hx hu hbl hll g1 g2 a1 a2 a3 b1 b2 b3 hl hA9 hX hXf hXl hlr hcr
             obtain ⟨C, hC⟩ : ∃ C, C = cp last X := ⟨_, rfl⟩
             rw [← hC] at Hal hc hcp
             clear hC
             have hki : IntKind.i64.wrap (k : Int) = (k : Int) := IntWalk.i64_in _ (by omega)
             have hdc : decide (k < C) = true := decide_eq_true hc
             go_enter Tryz.func195, Tryz.ntmps195
             go_wp2_with fail
             refine G1.out.mono ?_
             rintro e w1 ⟨rfl, rfl⟩
             go_wp2_with fail
             refine G2.out.mono ?_
             rintro e w2 ⟨rfl, rfl⟩
             go_wp2_with fail
             clear hm2 hEn hE hs
             go_region_held3 (fun _ => True) (exact trivial) (first
               | (go_at_call 109; refine (Hcon.out _ w2.heap.size (c - m2) 22 (by first | exact heap_alloc_new w2 _ | (simp; done) | fail) (by (repeat (first | (with_reducible exact Ext.refl _) | (with_reducible apply Ext.drew) | (with_reducible apply Ext.alloc) | fail)))).mono ?_; rintro e w3 ⟨A3, c3, rfl, hown3, he3⟩)
               | fail)
             have hE3 : Ext w2 w3 := Ext.trans (by (repeat (first | (with_reducible exact Ext.refl _) | (with_reducible apply Ext.drew) | (with_reducible apply Ext.alloc) | fail))) he3
             have hown4 := hown3.mono (base' := w2.heap.size) (by simp)
             go_wp2_with fail
             refine (Hal.out _ _ _ hE3 (hown3.rd' HXl.out)).mono ?_
             rintro e w4 ⟨rfl, q4, rfl⟩
             go_wp2_with fail
             go_ret3
             exact PTxPost.bad _ HR.out (hE3.drewN _)
           · have HR := Lib.hid (ptx_yes g1 g2 (by rw [hll]; exact hk2) (by omega) (by rw [hbl]; omega) (by rw [Int.toNat_natCast, ← hX]; omega))
             rw [Int.toNat_natCast, ← hX] at HR
             clear hx hu hbl hll g1 g2 a1 a2 a3 b1 b2 b3 hl hA9 hX hXf hXl hlr hcr
             obtain ⟨C, hC⟩ : ∃ C, C = cp last X := ⟨_, rfl⟩
             rw [← hC] at Hal hc hcp
             clear hC
             have hki : IntKind.i64.wrap (k : Int) = (k : Int) := IntWalk.i64_in _ (by omega)
             have hdc : decide (k < C) = false := decide_eq_false hc
             go_enter Tryz.func195, Tryz.ntmps195
             go_wp2_with fail
             refine G1.out.mono ?_
             rintro e w1 ⟨rfl, rfl⟩
             go_wp2_with fail
             refine G2.out.mono ?_
             rintro e w2 ⟨rfl, rfl⟩
             go_wp2_with fail
             clear hm2 hEn hE hs
             go_region_held3 (fun _ => True) (exact trivial) (first
               | (go_at_call 109; refine (Hcon.out _ w2.heap.size (c - m2) 22 (by first | exact heap_alloc_new w2 _ | (simp; done) | fail) (by (repeat (first | (with_reducible exact Ext.refl _) | (with_reducible apply Ext.drew) | (with_reducible apply Ext.alloc) | fail)))).mono ?_; rintro e w3 ⟨A3, c3, rfl, hown3, he3⟩)
               | fail)
             have hE3 : Ext w2 w3 := Ext.trans (by (repeat (first | (with_reducible exact Ext.refl _) | (with_reducible apply Ext.drew) | (with_reducible apply Ext.alloc) | fail))) he3
             have hown4 := hown3.mono (base' := w2.heap.size) (by simp)
             go_wp2_with fail
             refine (Hal.out _ _ _ hE3 (hown3.rd' HXl.out)).mono ?_
             rintro e w4 ⟨rfl, q4, rfl⟩
             go_wp2_with fail
             go_ret3
             exact PTxPost.good _ HR.out HXl.out rfl (hown4.ext (Ext.of_drewN _ _)) (hE3.drewN _)
   · have HR := Lib.hid (ptx_e2 (last := last) g1 g2 z2)
     have hb2 : (e2 != 0) = true := by rw [bne_iff_ne]; exact z2
     clear hx hu hbl hll g1 g2 a1 a2 a3 hl
     go_enter Tryz.func195, Tryz.ntmps195
     go_wp2_with fail
     refine G1.out.mono ?_
     rintro e w1 ⟨rfl, rfl⟩
     go_wp2_with fail
     refine G2.out.mono ?_
     rintro e w2 ⟨rfl, rfl⟩
     go_wp2_with fail
     go_ret3
     exact PTxPost.bad _ HR.out (Ext.refl _)
 · have HR := Lib.hid (ptx_e1 (last := last) g1 z1)
   have hb1 : (e1 != 0) = true := by rw [bne_iff_ne]; exact z1
   clear hx hu hbl hll g1 hl
   go_enter Tryz.func195, Tryz.ntmps195
   go_wp2_with fail
   refine G1.out.mono ?_
   rintro e w1 ⟨rfl, rfl⟩
   go_wp2_with fail
   go_ret3
   exact PTxPost.bad _ HR.out (Ext.refl _)
set_option maxRecDepth 100000 in
theorem compareT_any (A A2 : Option Addr) (n c n2 c2 : Nat) (xs ys : List Nat) (w : World) (hx : Rd .u8 w A n xs) (hy : Rd .u8 w A2 n2 ys) (hu : U8 xs) (hu2 : U8 ys) :
   Calls Tryz.prog 64 #[.slice A n c, .slice A2 n2 c2] w fun e w' => e = .returned (.int .i64 (ordT xs ys)) ∧ w = w' := by
 have Hx := Lib.hid hx
 have Hy := Lib.hid hy
 go_enter Tryz.func64, Tryz.ntmps64
 go_wp2
 rw [run_callFunc_extern Tryz.func103 (by kernel_rfl) (by kernel_rfl) (by kernel_rfl) (e := Extern.BytealgCompare.compare) (by kernel_rfl), run_compare Hx.out Hy.out hu hu2]
 simp only [Result.andThen]
 rw [Oper.upon_value]
 go_wp2
 go_ret
 exact ⟨rfl, rfl⟩
theorem clone10_any (A : Option Addr) (n c : Nat) (bs : List Nat) (w : World) (hx : Rd .u8 w A n bs) (hn : n ≤ 180000000000000) :
   Calls Tryz.prog 100 #[.slice A n c] w fun e w' => ∃ A' c', e = .returned (.slice A' n c') ∧ Own .u8 5 w' w.heap.size A' c' bs ∧ Ext w w' := by
 have Hl := Lib.hid hx.len
 cases A with
 | none =>
   have h0 : n = 0 := by
     rcases Nat.eq_zero_or_pos n with h | h
     · exact h
     · obtain ⟨b, o, he, _⟩ := hx.2 h
       cases he
   subst h0
   have hb : bs = [] := List.eq_nil_of_length_eq_zero Hl.out
   subst hb
   have hq := fun w => Lib.run_eql_slice_nil (P := Tryz.prog) w 22 5 none 0 c 0 0 Tryz.underlying22
   go_enter Tryz.func100, Tryz.ntmps100
   go_wp2
   go_ret
   exact ⟨_, _, rfl, Own.nil .., Ext.refl w⟩
 | some a =>
   have hq := fun w => Lib.run_eql_slice_nil (P := Tryz.prog) w 22 5 (some a) n c 0 0 Tryz.underlying22
   have hown := Own.made (base := w.heap.size) .u8 5 w (Nat.le_refl _)
   have hrd := hx.ext ((Ext.refl w).alloc (.cells #[] 5))
   go_enter Tryz.func100, Tryz.ntmps100
   go_wp2_with (at_builtin; refine wpList_pushes (w0 := w) .u8 5 rfl _ _ 22 rfl _ 1 Tryz.underlying22 Tryz.infoU8 rfl hown 0 rfl rfl rfl hrd (by omega) (by omega) ((Ext.refl w).alloc _) (by simp) ?_; intro A1 c1 w1 hown1 hb1 hz1)
   go_ret
   exact ⟨_, _, rfl, by simpa using hown1, hb1⟩
def cntR (bs : List Nat) (a : Int) : Nat × Int × Int := if (vget bs a).2.2 ≠ 0 then (0, 0, (vget bs a).2.2) else if 4096 < (vget bs a).1 then (0, 0, 4) else ((vget bs a).1, (vget bs a).2.1, 0)
theorem cntR_err {bs : List Nat} {a n e : Int} {k : Nat} (h : vget bs a = (k, n, e)) (he : e ≠ 0) : cntR bs a = (0, 0, e) := by unfold cntR; rw [h]; exact if_pos he
theorem cntR_long {bs : List Nat} {a n : Int} {k : Nat} (h : vget bs a = (k, n, 0)) (hk : 4096 < k) : cntR bs a = (0, 0, 4) := by unfold cntR; rw [h, if_neg (fun q => q rfl), if_pos hk]
theorem cntR_yes {bs : List Nat} {a n : Int} {k : Nat} (h : vget bs a = (k, n, 0)) (hk : k ≤ 4096) : cntR bs a = (k, n, 0) := by unfold cntR; rw [h, if_neg (fun q => q rfl), if_neg (by simp only; omega)]
theorem getCount_any (A : Option Addr) (n c : Nat) (at_ : Int) (bs : List Nat) (w : World) (hx : Rd .u8 w A n bs) (hu : U8 bs) (hn : n ≤ 140737488355328) (hcap : n ≤ c) (hcm : c ≤ 9223372036854775807) :
   Calls Tryz.prog 193 #[.slice A n c, .int .i64 at_] w fun e w' => e = .returned (.tuple #[.int .i64 (cntR bs at_).1, .int .i64 (cntR bs at_).2.1, .int .i64 (cntR bs at_).2.2]) ∧ w' = w := by
 rcases g1 : vget bs at_ with ⟨k, n1, e1⟩
 have G1 := Lib.hid (get_is hx hu hn hcap hcm g1)
 by_cases z1 : e1 = 0
 · subst z1
   obtain ⟨_, _, _, hklt, _⟩ := vget_at hu g1
   by_cases hk : 4096 < k
   · have HR := Lib.hid (cntR_long g1 hk)
     clear hx hu g1
     go_enter Tryz.func193, Tryz.ntmps193
     go_wp2_with fail
     refine G1.out.mono ?_
     rintro e w1 ⟨rfl, rfl⟩
     go_wp2_with fail
     go_ret3
     exact ⟨by rw [HR.out]; rfl, by first | rfl | trivial⟩
   · have HR := Lib.hid (cntR_yes g1 (by omega))
     have hki : IntKind.i64.wrap (k : Int) = (k : Int) := IntWalk.i64_in _ (by omega)
     have hk2 : k ≤ 4096 := by omega
     clear hx hu g1
     go_enter Tryz.func193, Tryz.ntmps193
     go_wp2_with fail
     refine G1.out.mono ?_
     rintro e w1 ⟨rfl, rfl⟩
     go_wp2_with fail
     go_ret3
     exact ⟨by rw [HR.out]; rfl, by first | rfl | trivial⟩
 · have HR := Lib.hid (cntR_err g1 z1)
   have hb1 : (e1 != 0) = true := by rw [bne_iff_ne]; exact z1
   clear hx hu g1
   go_enter Tryz.func193, Tryz.ntmps193
   go_wp2_with fail
   refine G1.out.mono ?_
   rintro e w1 ⟨rfl, rfl⟩
   go_wp2_with fail
   go_ret3
   exact ⟨by rw [HR.out]; rfl, by first | rfl | trivial⟩
def EntPost (R : List Nat × Int × Int) (w0 w : World) (e : Ending) (w' : World) : Prop :=
 ∃ A' c', e = .returned (.tuple #[.slice A' R.1.length c', .int .i64 R.2.1, .int .i64 R.2.2]) ∧ Rd .u8 w0 A' R.1.length R.1 ∧ R.1.length ≤ c' ∧ c' ≤ 9223372036854775807 ∧ w' = w
set_option maxHeartbeats 800000 in
theorem getEntry_any (A : Option Addr) (n c : Nat) (at_ : Int) (bs : List Nat) (w0 w : World) (hx : Rd .u8 w0 A n bs) (hE0 : Ext w0 w) (hu : U8 bs) (hn : n ≤ 140737488355328) (hcap : n ≤ c) (hcm : c ≤ 9223372036854775807) :
   Calls Tryz.prog 209 #[.slice A n c, .int .i64 at_] w (EntPost (dtx bs at_) w0 w) := by
 have hbl := hx.len
 rcases g1 : vget bs at_ with ⟨k, n1, e1⟩
 have G1 := Lib.hid (get_is (hx.ext hE0) hu hn hcap hcm g1)
 by_cases z1 : e1 = 0
 · subst z1
   obtain ⟨a1, a2, a3, hklt, _⟩ := vget_at hu g1
   rw [hbl] at a3
   obtain ⟨m1, rfl⟩ := Int.eq_ofNat_of_zero_le (show 0 ≤ n1 by omega)
   by_cases hk : 200 < k
   · have HR := Lib.hid (dtx_long g1 hk)
     clear hE0 hx hu g1 hbl a1 a2 a3
     go_enter Tryz.func209, Tryz.ntmps209
     go_wp2_with fail
     refine G1.out.mono ?_
     rintro e w1 ⟨rfl, rfl⟩
     go_wp2_with fail
     go_ret3
     exact ⟨none, 0, by rw [HR.out]; rfl, by rw [HR.out]; exact Rd.nil .., by rw [HR.out]; simp, by omega, by first | rfl | trivial⟩
   · have hk2 : k ≤ 200 := by omega
     have hki : IntKind.i64.wrap (k : Int) = (k : Int) := IntWalk.i64_in _ (by omega)
     have hm1 : m1 ≤ n := by omega
     by_cases hs : n < m1 + k
     · have HR := Lib.hid (dtx_short g1 hk2 (by rw [hbl]; omega))
       have hgt : (n : Int) - (m1 : Int) < (k : Int) := by omega
       clear hE0 hx hu g1 hbl a1 a2 a3
       go_enter Tryz.func209, Tryz.ntmps209
       go_wp2_with fail
       refine G1.out.mono ?_
       rintro e w1 ⟨rfl, rfl⟩
       go_wp2_with fail
       go_ret3
       exact ⟨none, 0, by rw [HR.out]; rfl, by rw [HR.out]; exact Rd.nil .., by rw [HR.out]; simp, by omega, by first | rfl | trivial⟩
     · have HR := Lib.hid (dtx_yes g1 hk2 (by rw [hbl]; omega))
       rw [Int.toNat_natCast] at HR
       have hgt : ¬ (n : Int) - (m1 : Int) < (k : Int) := by omega
       obtain ⟨E, hE⟩ : ∃ E, E = m1 + k := ⟨_, rfl⟩
       have hrE : E - m1 = k := by omega
       have sc := run_cut A n c m1 E (by omega) (by omega)
       rw [hrE, show ((E : Nat) : Int) = (m1 : Int) + (k : Int) by omega] at sc
       have hmr : (m1 : Int) + (k : Int) ≤ 140737488355328 := by omega
       have hcr : Rd .u8 w0 (offA A m1 c) k (cut bs m1 k) := by
         have := hx.cut (l := m1) (h := E) (c := c) (by omega) (by omega) hcap
         rw [hrE] at this
         exact this
       have hcl : (cut bs m1 k).length = k := hcr.len
       have hc9 : k ≤ c - m1 := by omega
       obtain ⟨A9, hA9⟩ : ∃ A9, A9 = offA A m1 c := ⟨_, rfl⟩
       rw [← hA9] at sc hcr
       have Hcr := Lib.hid hcr
       have Hcl := Lib.hid hcl
       clear hE0 hx hu g1 hbl a1 a2 a3 hA9 hcr hcl hE hs hrE hm1
       go_enter Tryz.func209, Tryz.ntmps209
       go_wp2_with fail
       refine G1.out.mono ?_
       rintro e w1 ⟨rfl, rfl⟩
       go_wp2_with fail
       go_ret3
       exact ⟨A9, c - m1, by rw [HR.out]; simp only; rw [Hcl.out]; rfl, by rw [HR.out]; simp only; rw [Hcl.out]; exact Hcr.out, by rw [HR.out]; simp only; rw [Hcl.out]; exact hc9, by omega, by first | rfl | trivial⟩
 · have HR := Lib.hid (dtx_err g1 z1)
   have hb1 : (e1 != 0) = true := by rw [bne_iff_ne]; exact z1
   clear hE0 hx hu g1 hbl
   go_enter Tryz.func209, Tryz.ntmps209
   go_wp2_with fail
   refine G1.out.mono ?_
   rintro e w1 ⟨rfl, rfl⟩
   go_wp2_with fail
   go_ret3
   exact ⟨none, 0, by rw [HR.out]; rfl, by rw [HR.out]; exact Rd.nil .., by rw [HR.out]; simp, by omega, by first | rfl | trivial⟩
def entR (bs : List Nat) : List (List Nat) × Int × Int := if (cntR bs 0).2.2 ≠ 0 then ([], 0, (cntR bs 0).2.2) else dnA bs (cntR bs 0).1 (cntR bs 0).2.1 []
structure DEn (w wr : World) (A : Option Addr) (c : Nat) (us : List Sl) : Prop where
 row : OwnT wr w.heap.size A c us
 rd : ∀ s ∈ us, Rd .u8 w s.A s.body.length s.body
 u8 : ∀ s ∈ us, U8 s.body
 len : ∀ s ∈ us, s.body.length ≤ 200
 ext : Ext w wr
def EntsPost (R : List (List Nat) × Int × Int) (w : World) (e : Ending) (w' : World) : Prop :=
 ∃ A' c' us, e = .returned (.tuple #[.slice A' us.length c', .int .i64 R.2.1, .int .i64 R.2.2]) ∧ bodies us = R.1 ∧ DEn w w' A' c' us
theorem EntsPost.bad {w w' : World} (R : List (List Nat) × Int × Int) {E : Int} (h : R = ([], 0, E)) (he : Ext w w') : EntsPost R w (.returned (.tuple #[.slice none 0 0, .int .i64 0, .int .i64 E])) w' := by
 subst h
 exact ⟨none, 0, [], rfl, rfl, OwnG.nil .., fun s hs => (by cases hs), fun s hs => (by cases hs), fun s hs => (by cases hs), he⟩
theorem EntsPost.good {w w' : World} (R : List (List Nat) × Int × Int) {us : List Sl} {A : Option Addr} {m c : Nat} {a : Int} (h : R = (bodies us, a, 0)) (hm : us.length = m) (hd : DEn w w' A c us) : EntsPost R w (.returned (.tuple #[.slice A m c, .int .i64 a, .int .i64 0])) w' := by
 subst h
 subst hm
 exact ⟨A, c, us, rfl, rfl, hd⟩
set_option maxHeartbeats 1600000 in
set_option maxRecDepth 100000 in
theorem getEntries_any (A : Option Addr) (n c : Nat) (bs : List Nat) (w : World) (hx : Rd .u8 w A n bs) (hu : U8 bs) (hn : n ≤ 140737488355328) (hcap : n ≤ c) (hcm : c ≤ 9223372036854775807) :
   Calls Tryz.prog 192 #[.slice A n c] w (EntsPost (entR bs) w) := by
 have hbl := hx.len
 have G1 := getCount_any A n c 0 bs w hx hu hn hcap hcm
 rcases g1 : cntR bs 0 with ⟨k, n1, e1⟩
 rw [g1] at G1
 have HG1 := Lib.hid G1
 clear G1
 by_cases z1 : e1 = 0
 · subst z1
   have hv : vget bs 0 = (k, n1, 0) ∧ k ≤ 4096 := by
     rcases h1 : vget bs 0 with ⟨k', n', e'⟩
     by_cases he : e' = 0
     · subst he
       by_cases hk : 4096 < k'
       · rw [cntR_long h1 hk] at g1; injection g1 with _ g1; injection g1 with _ g1; exact absurd g1 (by decide)
       · rw [cntR_yes h1 (by omega)] at g1
         injection g1 with q1 g1; injection g1 with q2 _
         subst q1 q2
         exact ⟨rfl, by omega⟩
     · rw [cntR_err h1 he] at g1; injection g1 with _ g1; injection g1 with _ g1; exact absurd g1 he
   obtain ⟨a1, a2, a3, _, _⟩ := vget_at hu hv.1
   rw [hbl] at a3
   have hk2 := hv.2
   obtain ⟨m1, rfl⟩ := Int.eq_ofNat_of_zero_le (show 0 ≤ n1 by omega)
   obtain ⟨R, hR⟩ : ∃ R, R = entR bs := ⟨_, rfl⟩
   have HR := Lib.hid (show dnA bs (k - 0) (m1 : Int) (bodies []) = R by rw [hR]; unfold entR; rw [g1]; rfl)
   rw [← hR]
   have Hbl := Lib.hid hbl
   have Hx := Lib.hid hx
   have Hu := Lib.hid hu
   have hm1 : m1 ≤ n := by omega
   clear hR g1 hbl hx hu a1 a2 a3 hv
   go_enter Tryz.func192, Tryz.ntmps192
   go_wp2_with fail
   refine HG1.out.mono ?_
   rintro e w1 ⟨rfl, rfl⟩
   obtain ⟨w, hw⟩ : ∃ w, w = w1 := ⟨_, rfl⟩
   subst hw
   simp only
   go_wp2_with fail
   go_loopw [6, 8, 9, 10, 11, 12, 23] (fun at_ v _ _ _ _ i wr => ∃ (j a : Nat) (us : List Sl) (A' : Option Addr) (c' : Nat), j ≤ k ∧ i = .int .i64 j ∧ a ≤ n ∧ at_ = .int .i64 a ∧ v = .slice A' j c' ∧ Hid (us.length = j) ∧ Hid (dnA bs (k - j) a (bodies us) = R) ∧ Hid (DEn w wr A' c' us)) (fun _ _ _ _ _ _ i _ => k - (intOf i).toNat)
   case atStart => exact ⟨0, m1, [], none, 0, Nat.zero_le _, rfl, hm1, rfl, rfl, rfl, HR.out, ⟨OwnG.nil .., fun s hs => (by cases hs), fun s hs => (by cases hs), fun s hs => (by cases hs), Ext.refl _⟩⟩
   case round =>
     clear HR
     obtain ⟨j, a, us, A', c', hj, rfl, ha, rfl, rfl, Hl, HR, HD⟩ := hrel
     by_cases hlt : j < k
     · obtain ⟨q, hq⟩ : ∃ q, k - j = q + 1 := ⟨k - j - 1, by omega⟩
       have Hq2 := Lib.hid (show k - (j + 1) = q by omega)
       have Hq := Lib.hid hq
       clear hq
       have HG := getEntry_any A n c a bs w wr Hx.out HD.out.ext Hu.out hn hcap hcm
       rcases hg : dtx bs a with ⟨s, m, e⟩
       rw [hg] at HG
       have HGe := Lib.hid HG
       have Hg := Lib.hid hg
       clear HG hg
       by_cases he0 : e = 0
       · subst he0
         obtain ⟨b1, b2, b3, b4, b5, _⟩ := dtx_ok Hu.out Hg.out
         rw [Hbl.out] at b3
         obtain ⟨m', rfl⟩ := Int.eq_ofNat_of_zero_le (show 0 ≤ m by omega)
         have hm' : m' ≤ n := by omega
         have Hb4 := Lib.hid b4
         have Hb5 := Lib.hid b5
         have hbt : (bodies us).length = j := by rw [bodies_len, Hl.out]
         clear b1 b2 b3 b4 b5
         by_cases hj0 : j = 0
         · have Ho := Lib.hid (show ¬ (0 < (bodies us).length ∧ 0 ≤ ordT ((bodies us).getD ((bodies us).length - 1) []) s) from fun h => by have := h.1; omega)
           subst hj0
           go_wp2_with fail
           refine HGe.out.mono ?_
           rintro e' w3 ⟨A3, c3, rfl, hr3, _, _, rfl⟩
           simp only at hr3 ⊢
           have Hr3 := Lib.hid hr3
           clear hr3 hbt
           have HN := Lib.hid (show dnA bs (k - (0 + 1)) (m' : Int) (bodies (us ++ [⟨A3, c3, s⟩])) = R by
             rw [Hq2.out, ← HR.out, Hq.out, dnA_next Hg.out Ho.out]; unfold bodies; rw [List.map_append]; rfl)
           go_wp2_with (at_builtin; refine wpList_pushT (w0 := w) ⟨A3, c3, s⟩ rfl _ _ rfl (HD.out.row.ext ((Ext.refl _).alloc _)) (0) Hl.out rfl rfl (heap_alloc_new _ _) (by omega) (Ext.trans HD.out.ext ((Ext.refl _).alloc _)) (by have := HD.out.ext.size; simp; omega) ?_; intro A4 c4 w4 hown4 _ hb4 _)
           have HD4 := Lib.hid (show DEn w w4 A4 c4 (us ++ [⟨A3, c3, s⟩]) from by
             refine ⟨hown4, fun t ht => ?_, fun t ht => ?_, fun t ht => ?_, hb4⟩
             · rcases List.mem_append.1 ht with h1 | h1
               · exact HD.out.rd t h1
               · simp at h1; subst h1; exact Hr3.out
             · rcases List.mem_append.1 ht with h1 | h1
               · exact HD.out.u8 t h1
               · simp at h1; subst h1; exact Hb5.out
             · rcases List.mem_append.1 ht with h1 | h1
               · exact HD.out.len t h1
               · simp at h1; subst h1; exact Hb4.out)
           clear hown4 hb4
           go_wp2_with fail
           go_roundw
           case rel => exact ⟨0 + 1, m', _, A4, c4, by omega, by go_num, hm', rfl, by go_num, by rw [List.length_append, Hl.out]; rfl, HN.out, HD4.out⟩
           case measure => simp [intOf]; omega
         · obtain ⟨p, rfl⟩ : ∃ p, j = p + 1 := ⟨j - 1, by omega⟩
           obtain ⟨b, o, t, rfl, hf, hc⟩ := HD.out.row.rdL.at_ (j := p) (by rw [Hl.out]; omega)
           have hmt := List.mem_of_getElem? hf
           have hlast : (bodies us).getD ((bodies us).length - 1) [] = t.body := by rw [hbt, Nat.add_sub_cancel, bodies_get hf]
           have hrt := (HD.out.rd t hmt).ext HD.out.ext
           have hut := HD.out.u8 t hmt
           obtain ⟨tA, tc, tb⟩ := t
           simp only at hc hrt hut hlast
           have HC := Lib.hid (fun (A3 : Option Addr) (c3 : Nat) (h3 : Rd .u8 wr A3 s.length s) => compareT_any tA A3 tb.length tc s.length c3 tb s wr hrt h3 hut Hb5.out)
           obtain ⟨tl, htl⟩ : ∃ tl, tl = tb.length := ⟨_, rfl⟩
           rw [← htl] at hc HC
           have ho1 : 0 ≤ ordT tb s → dnA bs (q + 1) a (bodies us) = ([], 0, 5) := fun h => dnA_form Hg.out ⟨by omega, by rw [hlast]; exact h⟩
           have ho2 : ¬ 0 ≤ ordT tb s → ¬ (0 < (bodies us).length ∧ 0 ≤ ordT ((bodies us).getD ((bodies us).length - 1) []) s) := fun h h2 => h (by rw [← hlast]; exact h2.2)
           obtain ⟨r, hr⟩ : ∃ r, r = ordT tb s := ⟨_, rfl⟩
           rw [← hr] at HC ho1 ho2
           clear htl hr hf hmt hrt hut hlast hbt
           by_cases hneg : 0 ≤ r
           · have HE := Lib.hid (show R = ([], 0, 5) by rw [← HR.out, Hq.out, ho1 hneg])
             have d : decide (0 ≤ r) = true := decide_eq_true hneg
             clear ho1 ho2
             go_wp2_with fail
             refine HGe.out.mono ?_
             rintro e' w3 ⟨A3, c3, rfl, hr3, _, _, rfl⟩
             simp only at hr3 ⊢
             have Hr3 := Lib.hid hr3
             clear hr3
             go_wp2_with fail
             refine (HC.out A3 c3 (Hr3.out.ext HD.out.ext)).mono ?_
             rintro e' w4 ⟨rfl, rfl⟩
             go_wp2_with fail
             go_ret3
             exact EntsPost.bad _ HE.out HD.out.ext
           · have Ho := Lib.hid (ho2 hneg)
             have d : decide (0 ≤ r) = false := decide_eq_false hneg
             clear ho1 ho2
             go_wp2_with fail
             refine HGe.out.mono ?_
             rintro e' w3 ⟨A3, c3, rfl, hr3, _, _, rfl⟩
             simp only at hr3 ⊢
             have Hr3 := Lib.hid hr3
             clear hr3
             go_wp2_with fail
             refine (HC.out A3 c3 (Hr3.out.ext HD.out.ext)).mono ?_
             rintro e' w4 ⟨rfl, rfl⟩
             have HN := Lib.hid (show dnA bs (k - (p + 1 + 1)) (m' : Int) (bodies (us ++ [⟨A3, c3, s⟩])) = R by
               rw [Hq2.out, ← HR.out, Hq.out, dnA_next Hg.out Ho.out]; unfold bodies; rw [List.map_append]; rfl)
             go_wp2_with (at_builtin; refine wpList_pushT (w0 := w) ⟨A3, c3, s⟩ rfl _ _ rfl (HD.out.row.ext ((Ext.refl _).alloc _)) (p + 1) Hl.out rfl rfl (heap_alloc_new _ _) (by omega) (Ext.trans HD.out.ext ((Ext.refl _).alloc _)) (by have := HD.out.ext.size; simp; omega) ?_; intro A4 c4 w4 hown4 _ hb4 _)
             have HD4 := Lib.hid (show DEn w w4 A4 c4 (us ++ [⟨A3, c3, s⟩]) from by
               refine ⟨hown4, fun t ht => ?_, fun t ht => ?_, fun t ht => ?_, hb4⟩
               · rcases List.mem_append.1 ht with h1 | h1
                 · exact HD.out.rd t h1
                 · simp at h1; subst h1; exact Hr3.out
               · rcases List.mem_append.1 ht with h1 | h1
                 · exact HD.out.u8 t h1
                 · simp at h1; subst h1; exact Hb5.out
               · rcases List.mem_append.1 ht with h1 | h1
                 · exact HD.out.len t h1
                 · simp at h1; subst h1; exact Hb4.out)
             clear hown4 hb4
             go_wp2_with fail
             go_roundw
             case rel => exact ⟨p + 1 + 1, m', _, A4, c4, by omega, by go_num, hm', rfl, by go_num, by rw [List.length_append, Hl.out]; rfl, HN.out, HD4.out⟩
             case measure => simp [intOf]; omega
       · have hb1 : (e != 0) = true := by rw [bne_iff_ne]; exact he0
         have HE := Lib.hid (show R = ([], 0, e) by rw [← HR.out, Hq.out, dnA_err Hg.out he0])
         go_wp2_with fail
         refine HGe.out.mono ?_
         rintro e' w3 ⟨A3, c3, rfl, _, _, _, rfl⟩
         simp only
         go_wp2_with fail
         go_ret3
         exact EntsPost.bad _ HE.out HD.out.ext
     · obtain rfl : j = k := by omega
       have hR := HR.out
       rw [Nat.sub_self] at hR
       have HE := Lib.hid (show R = (bodies us, (a : Int), 0) by rw [← hR]; rfl)
       clear hR
       go_wp2_with fail
       go_ret3
       exact EntsPost.good _ HE.out Hl.out HD.out
 · have HE := Lib.hid (show entR bs = ([], 0, e1) by unfold entR; rw [g1]; exact if_pos z1)
   have hb1 : (e1 != 0) = true := by rw [bne_iff_ne]; exact z1
   clear hx hu g1 hbl
   go_enter Tryz.func192, Tryz.ntmps192
   go_wp2_with fail
   refine HG1.out.mono ?_
   rintro e w1 ⟨rfl, rfl⟩
   simp only
   go_wp2_with fail
   go_ret3
   exact EntsPost.bad _ HE.out (Ext.refl _)
end Go.Proofs.YthibbgmicmfkfaaGreat
