import Derived.Test.YthibbgmicmfkfaaGreatGW14
import Derived.Deep.RegionHeld3
namespace Go.Proofs.YthibbgmicmfkfaaGreat
open Go.RowKit
set_option maxRecDepth 100000
def stepR (k : Int) (xs : List Ci) (c : Int) (t : Int × List Nat) : Int × List Nat :=
 if sealE (outW k c xs) = 0 ∧ (t.1 = 0 ∨ (sealL (outW k c xs)).length < t.2.length) then (c, sealL (outW k c xs)) else t
def rbN (k : Int) (xs : List Ci) : Nat → Int → Int × List Nat → Int × List Nat
 | 0, _, t => t
 | m + 1, c, t => rbN k xs m (c + 1) (if c ∈ codecs k then stepR k xs c t else t)
def foldR (k : Int) (xs : List Ci) : List Int → Int × List Nat → Int × List Nat
 | [], t => t
 | c :: cs, t => foldR k xs cs (stepR k xs c t)
theorem rbN_fold (k : Int) (xs : List Ci) (t : Int × List Nat) : rbN k xs 5 1 t = foldR k xs (codecs k) t := by
 have h1 : (1 : Int) ∈ codecs k := by unfold codecs; split <;> simp
 cases hk : numK k with
 | true =>
   have e : codecs k = [1, 2, 3] := by unfold codecs; rw [hk]; rfl
   simp only [rbN, e]
   rw [if_neg (by decide), if_neg (by decide), if_pos (by decide), if_pos (by decide), if_pos (by decide)]
   rfl
 | false =>
   have e : codecs k = [1, 4, 5] := by unfold codecs; rw [hk]; rfl
   simp only [rbN, e]
   rw [if_pos (by decide), if_pos (by decide), if_neg (by decide), if_neg (by decide), if_pos (by decide)]
   rfl
theorem sealE_iff (b : List Nat) : sealE b = 0 ↔ ¬ 65000 < b.length + 4 := by
 unfold sealE
 split
 · rename_i h; exact ⟨fun e => absurd e (by decide), fun e => absurd h e⟩
 · rename_i h; exact ⟨fun _ => h, fun _ => rfl⟩
theorem sealL_ok {b : List Nat} (h : sealE b = 0) : sealL b = sl b := if_neg ((sealE_iff b).1 h)
def held12 (s : Int × List Nat) : Int × List Nat := if s.1 = 0 then (0, []) else if sealE s.2 = 0 then (s.1, sl s.2) else (0, [])
theorem held_step {k c : Int} {xs : List Ci} (hc : c ≠ 0) (s : Int × List Nat) : stepR k xs c (held12 s) = held12 (if s.1 = 0 ∨ (outW k c xs).length < s.2.length then (c, outW k c xs) else s) := by
 unfold stepR
 obtain ⟨o, ho⟩ : ∃ o, o = outW k c xs := ⟨_, rfl⟩
 rw [← ho]
 have ho4 : (sl o).length = o.length + 4 := sl_len o
 have hs4 : (sl s.2).length = s.2.length + 4 := sl_len s.2
 have hnew : held12 (c, o) = if sealE o = 0 then (c, sl o) else (0, []) := by unfold held12; rw [if_neg hc]
 by_cases q0 : s.1 = 0
 · have hh : held12 s = (0, []) := if_pos q0
   rw [if_pos (Or.inl q0), hh, hnew]
   by_cases e : sealE o = 0
   · rw [if_pos ⟨e, Or.inl rfl⟩, if_pos e, sealL_ok e]
   · rw [if_neg (fun q => e q.1), if_neg e]
 · by_cases f : sealE s.2 = 0
   · have hh : held12 s = (s.1, sl s.2) := by unfold held12; rw [if_neg q0, if_pos f]
     have f' := (sealE_iff _).1 f
     by_cases l : o.length < s.2.length
     · have e : sealE o = 0 := (sealE_iff _).2 (by omega)
       rw [if_pos (Or.inr l), hnew, if_pos e, hh, sealL_ok e, if_pos ⟨e, Or.inr (by simp only; omega)⟩]
     · rw [if_neg (show ¬ (s.1 = 0 ∨ o.length < s.2.length) from fun q => q.elim q0 l), hh]
       rw [if_neg]
       rintro ⟨e, q⟩
       rw [sealL_ok e] at q
       rcases q with q | q
       · exact q0 q
       · simp only at q; omega
   · have hh : held12 s = (0, []) := by unfold held12; rw [if_neg q0, if_neg f]
     have f' : 65000 < s.2.length + 4 := Decidable.byContradiction fun q => f ((sealE_iff _).2 q)
     by_cases l : o.length < s.2.length
     · rw [if_pos (Or.inr l), hnew, hh]
       by_cases e : sealE o = 0
       · rw [if_pos ⟨e, Or.inl rfl⟩, if_pos e, sealL_ok e]
       · rw [if_neg (fun q => e q.1), if_neg e]
     · have e : ¬ sealE o = 0 := fun e => (sealE_iff _).1 e (by omega)
       rw [if_neg (show ¬ (s.1 = 0 ∨ o.length < s.2.length) from fun q => q.elim q0 l), hh, if_neg (fun q => e q.1)]
theorem held_fold {k : Int} {xs : List Ci} (hc : chkB k xs = 0) : ∀ (L : List Int) (s : Int × List Nat), (∀ c ∈ L, c ≠ 0) → ∃ r, bestF k xs L s = (r, 0) ∧ foldR k xs L (held12 s) = held12 r
 | [], s, _ => ⟨s, rfl, rfl⟩
 | c :: cs, s, h => by
   unfold bestF foldR
   rw [putR_outW k c hc, if_neg (fun q => q rfl), held_step (h c (List.mem_cons_self ..))]
   exact held_fold hc cs _ (fun d q => h d (List.mem_cons_of_mem _ q))
theorem bbest_held {k : Int} {xs : List Ci} (hk : 1 ≤ k ∧ k ≤ 8) (hc : chkB k xs = 0) : bbestR k xs = if (rbN k xs 5 1 (0, [])).1 = 0 then ((0, []), 4) else (rbN k xs 5 1 (0, []), 0) := by
 obtain ⟨r, r1, r2⟩ := held_fold hc (codecs k) (0, []) (fun c h => by have := codecs_mem h; omega)
 obtain ⟨r', s1, s2, s3, _⟩ := bestF_spec hc (codecs k) (0, []) (fun c q => q) (fun q => absurd rfl q)
 have e0 : held12 (0, []) = (0, []) := if_pos rfl
 rw [rbN_fold, ← e0, r2, e0]
 have hr : r = r' := by
   rw [r1] at s1
   exact congrArg Prod.fst s1
 subst hr
 have hne := (s3 1 (by unfold codecs; split <;> simp)).1
 have hK : ¬ kindK k = false := by unfold kindK; rw [decide_eq_true hk]; decide
 unfold bbestR
 rw [if_neg hK, if_neg (fun q => q hc), r1, if_neg (fun q => q rfl)]
 simp only
 by_cases e : sealE r.2 = 0
 · have hh : held12 r = (r.1, sl r.2) := by unfold held12; rw [if_neg hne, if_pos e]
   rw [if_neg (fun q => q e), hh, if_neg hne, sealL_ok e]
 · have hh : held12 r = (0, []) := by unfold held12; rw [if_neg hne, if_neg e]
   rw [if_pos e, hh, if_pos rfl]
   have : sealE r.2 = 4 := by
     unfold sealE at e ⊢
     split
     · rfl
     · rename_i q; rw [if_neg q] at e; exact absurd rfl e
   rw [this]
set_option maxHeartbeats 6400000 in
theorem refBest_any (k : Int) (A : Option Addr) (n c : Nat) (xs : List Ci) (w : World) (hx : RdX w A n xs) (hc : CapX xs) (hn : n ≤ 281474976710656) :
   Calls Tryz.prog 95 #[.int .i64 k, .slice A n c] w (BestPost (bbestR k xs) w) := by
 have HC := Lib.hid (fun W (hW : Ext w W) => refCheckB_any k A n c xs W (hx.ext hW) hn)
 by_cases hk : 1 ≤ k ∧ k ≤ 8
 · have HF := Lib.hid (fun v W => refFits_any k v W hk)
   have hk0 := hk.1
   have hk8 := hk.2
   by_cases hz : chkB k xs = 0
   · have HR := Lib.hid (bbest_held hk hz)
     obtain ⟨g1, g2, g3⟩ := chkB_good hz
     have HW := Lib.hid (fun cd (hcd : 1 ≤ cd ∧ cd ≤ 5) W (hW : Ext w W) => refWrite_any k cd A n c xs W (hx.ext hW) hc hk hcd (by rw [← hx.1]; exact g1) g3)
     unfold PEncPost at HW
     obtain ⟨R, hR⟩ : ∃ R, R = rbN k xs 5 1 (0, []) := ⟨_, rfl⟩
     rw [← hR] at HR
     have HS0 : Hid (rbN k xs (6 - 1) ((1 : Nat) : Int) (0, []) = R) := Lib.hid hR.symm
     rw [hz] at HC
     have HO0 : Hid (Own .u8 5 w w.heap.size none 0 []) := Lib.hid (Own.nil ..)
     clear g1 g2 g3 hz hx hc hR hk
     go_enter Tryz.func95, Tryz.ntmps95
     go_wp2_with fail
     refine (HC.out _ (Ext.refl _)).mono ?_
     rintro e w1 ⟨rfl, he1⟩
     have HO1 := Lib.hid ((Own.made .u8 5 w1 (Nat.le_refl _)).mono he1.size)
     have HE1 := Lib.hid (he1.alloc (.cells #[] 5))
     go_wp2_with fail
     go_loopw [8, 9, 10] (fun cc v i wr => ∃ (j L : Nat) (cv : Int) (bst : List Nat) (Ab : Option Addr) (cb : Nat), 1 ≤ j ∧ j ≤ 6 ∧ i = .int .i64 (j : Int) ∧ cc = .int .i64 cv ∧ v = .slice Ab L cb ∧ Hid (bst.length = L) ∧ L ≤ 65000 ∧ Hid (rbN k xs (6 - j) (j : Int) (cv, bst) = R) ∧ Hid (Own .u8 5 wr w.heap.size Ab cb bst) ∧ Hid (Ext w wr)) (fun _ _ i _ => 6 - (intOf i).toNat)
     case atStart => exact ⟨1, 0, 0, [], _, _, Nat.le_refl _, by decide, rfl, rfl, rfl, rfl, by decide, HS0.out, HO1.out, HE1.out⟩
     case round =>
       clear HO1 HE1 HS0 HO0
       obtain ⟨j, L, cv, bst, Ab, cb, hj1, hj6, rfl, rfl, rfl, HL, hL, HS, HO, HE⟩ := hrel
       by_cases hlt : j < 6
       · have hst : rbN k xs (6 - (j + 1)) ((j : Int) + 1) (if (j : Int) ∈ codecs k then stepR k xs j (cv, bst) else (cv, bst)) = R := by
           have h := HS.out
           rw [show 6 - j = (6 - (j + 1)) + 1 by omega] at h
           exact h
         have hj1' : ((j + 1 : Nat) : Int) = (j : Int) + 1 := by omega
         rw [← hj1'] at hst
         by_cases hm : (j : Int) ∈ codecs k
         · have hFj := HF.out (j : Int)
           rw [decide_eq_true hm] at hFj
           rw [if_pos hm] at hst
           have hcd := codecs_mem hm
           have HWj := Lib.hid (HW.out (j : Int) hcd)
           have HFj := Lib.hid hFj
           unfold stepR at hst
           by_cases he : sealE (outW k j xs) = 0
           · rw [he] at HWj
             have hpl := sealL_len (outW k j xs)
             obtain ⟨P, hP⟩ : ∃ P, P = sealL (outW k j xs) := ⟨_, rfl⟩
             rw [← hP] at HWj hst hpl
             obtain ⟨p, hp⟩ : ∃ p, p = P.length := ⟨_, rfl⟩
             rw [← hp] at HWj hpl
             have Hp := Lib.hid hp.symm
             by_cases ht : cv = 0 ∨ P.length < bst.length
             · rw [if_pos ⟨he, ht⟩] at hst
               have HS2 := Lib.hid hst
               by_cases hc0 : cv = 0
               · clear hst hm he hP hp ht hFj hcd
                 subst hc0
                 go_wp2_with fail
                 refine (HFj.out _).mono ?_
                 rintro e w2 ⟨rfl, rfl⟩
                 go_wp2_with fail
                 refine (HWj.out _ HE.out).mono ?_
                 rintro e w3 ⟨A3, c3, rfl, ho3, he3⟩
                 have HO3 := Lib.hid (ho3.mono HE.out.size)
                 have HE3 := Lib.hid (HE.out.trans he3)
                 go_wp2_with fail
                 go_roundw
                 case rel => exact ⟨j + 1, p, (j : Int), P, A3, c3, by omega, by omega, by go_num, rfl, rfl, Hp.out, hpl, HS2.out, HO3.out, HE3.out⟩
                 case measure => simp [intOf]; omega
               · have hlt2 : (p : Int) < (L : Int) := by
                   have h1 := HL.out
                   rcases ht with q | q
                   · exact absurd q hc0
                   · omega
                 have hcb : (cv == 0) = false := beq_eq_false_iff_ne.2 hc0
                 clear hst hm he hP hp ht hFj hcd hc0
                 go_wp2_with fail
                 refine (HFj.out _).mono ?_
                 rintro e w2 ⟨rfl, rfl⟩
                 go_wp2_with fail
                 refine (HWj.out _ HE.out).mono ?_
                 rintro e w3 ⟨A3, c3, rfl, ho3, he3⟩
                 have HO3 := Lib.hid (ho3.mono HE.out.size)
                 have HE3 := Lib.hid (HE.out.trans he3)
                 go_wp2_with fail
                 go_roundw
                 case rel => exact ⟨j + 1, p, (j : Int), P, A3, c3, by omega, by omega, by go_num, rfl, rfl, Hp.out, hpl, HS2.out, HO3.out, HE3.out⟩
                 case measure => simp [intOf]; omega
             · rw [if_neg (fun q => ht q.2)] at hst
               have HS2 := Lib.hid hst
               have hcb : (cv == 0) = false := beq_eq_false_iff_ne.2 (fun q => ht (.inl q))
               have hlt2 : ¬ (p : Int) < (L : Int) := by
                 have h1 := HL.out
                 have : ¬ P.length < bst.length := fun q => ht (.inr q)
                 omega
               clear hst hm he hP hp ht hFj hcd
               go_wp2_with fail
               refine (HFj.out _).mono ?_
               rintro e w2 ⟨rfl, rfl⟩
               go_wp2_with fail
               refine (HWj.out _ HE.out).mono ?_
               rintro e w3 ⟨A3, c3, rfl, ho3, he3⟩
               have HO3 := Lib.hid (HO.out.ext he3)
               have HE3 := Lib.hid (HE.out.trans he3)
               go_wp2_with fail
               go_roundw
               case rel => exact ⟨j + 1, L, cv, bst, Ab, cb, by omega, by omega, by go_num, rfl, rfl, HL.out, hL, HS2.out, HO3.out, HE3.out⟩
               case measure => simp [intOf]; omega
           · rw [if_neg (fun q => he q.1)] at hst
             have HS2 := Lib.hid hst
             obtain ⟨E, hE⟩ : ∃ E, E = sealE (outW k j xs) := ⟨_, rfl⟩
             obtain ⟨P, hP⟩ : ∃ P, P = sealL (outW k j xs) := ⟨_, rfl⟩
             rw [← hE, ← hP] at HWj
             rw [← hE] at he
             have heb : (E == 0) = false := beq_eq_false_iff_ne.2 he
             clear hst hm he hE hP hFj hcd
             go_wp2_with fail
             refine (HFj.out _).mono ?_
             rintro e w2 ⟨rfl, rfl⟩
             go_wp2_with fail
             refine (HWj.out _ HE.out).mono ?_
             rintro e w3 ⟨A3, c3, rfl, ho3, he3⟩
             have HO3 := Lib.hid (HO.out.ext he3)
             have HE3 := Lib.hid (HE.out.trans he3)
             go_wp2_with fail
             go_roundw
             case rel => exact ⟨j + 1, L, cv, bst, Ab, cb, by omega, by omega, by go_num, rfl, rfl, HL.out, hL, HS2.out, HO3.out, HE3.out⟩
             case measure => simp [intOf]; omega
         · have hFj := HF.out (j : Int)
           rw [decide_eq_false hm] at hFj
           rw [if_neg hm] at hst
           have HS2 := Lib.hid hst
           have HFj := Lib.hid hFj
           clear hst hm hFj
           go_wp2_with fail
           refine (HFj.out _).mono ?_
           rintro e w2 ⟨rfl, rfl⟩
           go_wp2_with fail
           go_roundw
           case rel => exact ⟨j + 1, L, cv, bst, Ab, cb, by omega, by omega, by go_num, rfl, rfl, HL.out, hL, HS2.out, HO.out, HE.out⟩
           case measure => simp [intOf]; omega
       · obtain rfl : j = 6 := by omega
         have hS : (cv, bst) = R := HS.out
         subst hS
         have hR := HR.out
         simp only at hR
         by_cases hc0 : cv = 0
         · subst hc0
           rw [if_pos rfl] at hR
           have HR2 := Lib.hid hR
           clear hR
           go_wp2_with fail
           go_ret3
           exact BestPost.bad _ HR2.out HE.out
         · have hcb : (cv == 0) = false := beq_eq_false_iff_ne.2 hc0
           rw [if_neg hc0] at hR
           have HR2 := Lib.hid hR
           clear hR hc0
           go_wp2_with fail
           go_ret3
           rw [HR2.out]
           exact ⟨Ab, cb, by simp only; rw [HL.out]; rfl, HO.out, HE.out⟩
   · obtain ⟨E, hE⟩ : ∃ E, E = chkB k xs := ⟨_, rfl⟩
     have hK : ¬ kindK k = false := by unfold kindK; rw [decide_eq_true hk]; decide
     have HR : Hid (bbestR k xs = ((0, []), E)) := Lib.hid (by unfold bbestR; rw [if_neg hK, if_pos hz, hE])
     rw [← hE] at HC hz
     have hzb : (E == 0) = false := beq_eq_false_iff_ne.2 hz
     clear hz hx hc hE hK HF hk
     go_enter Tryz.func95, Tryz.ntmps95
     go_wp2_with fail
     refine (HC.out _ (Ext.refl _)).mono ?_
     rintro e w1 ⟨rfl, he1⟩
     go_wp2_with fail
     go_ret3
     exact BestPost.bad _ HR.out he1
 · have HR : Hid (bbestR k xs = ((0, []), 1)) := Lib.hid (by unfold bbestR; rw [if_pos (by unfold kindK; rw [decide_eq_false hk])])
   clear hx hc HC
   by_cases h1 : k < 1
   · clear hk
     go_enter Tryz.func95, Tryz.ntmps95
     go_wp2_with fail
     go_ret3
     exact BestPost.bad _ HR.out (Ext.refl _)
   · have h8 : 8 < k := by omega
     clear hk
     go_enter Tryz.func95, Tryz.ntmps95
     go_wp2_with fail
     go_ret3
     exact BestPost.bad _ HR.out (Ext.refl _)
theorem bestF_val12 {k : Int} {fs xs : List Ci} (h : fs.map Ci.val = xs.map Ci.val) : ∀ (L : List Int) (s : Int × List Nat), bestF k fs L s = bestF k xs L s
 | [], _ => rfl
 | c :: cs, s => by
   unfold bestF
   rw [putR_val12 h]
   split
   · rfl
   · exact bestF_val12 h cs _
theorem bbestR_val12 {k : Int} {fs xs : List Ci} (h : fs.map Ci.val = xs.map Ci.val) : bbestR k fs = bbestR k xs := by
 unfold bbestR
 rw [chkB_val, chkB_val, h, bestF_val12 h]
theorem isKindC_any (k : Int) (w : World) : Calls Tryz.prog 54 #[.int .i64 k] w fun e w' => e = .returned (.bool (kindK k)) ∧ Ext w w' := by
 have hc := check_any k true true 0 none 0 0 [] w (Rd.nil ..) (by intro x hx; cases hx) (by decide) (by decide) (by decide)
 have hk : (chk k true true 0 [] == 0) = kindK k := by
   unfold chk
   by_cases h : 1 ≤ k ∧ k ≤ 8
   · rw [kindK_yes h, if_neg (by simpa using h)]; rfl
   · rw [kindK_no h, if_pos h]; rfl
 obtain ⟨R, hR⟩ : ∃ R, R = chk k true true 0 [] := ⟨_, rfl⟩
 rw [← hR] at hc hk
 have HC := Lib.hid hc
 have HK := Lib.hid hk
 clear hc hk hR
 go_enter Tryz.func54, Tryz.ntmps54
 go_wp2_with fail
 refine HC.out.mono ?_
 rintro e w1 ⟨rfl, he⟩
 go_wp2_with fail
 go_ret
 exact ⟨by rw [← HK.out]; rfl, he⟩
def perK (p : Int) : Bool := decide (1 ≤ p ∧ p ≤ 4096)
theorem isPerC_any (p : Int) (w : World) : Calls Tryz.prog 55 #[.int .i64 p] w fun e w' => e = .returned (.bool (perK p)) ∧ w = w' := by
 by_cases h1 : 1 ≤ p
 · by_cases h2 : p ≤ 4096
   · have H := Lib.hid (show perK p = true from decide_eq_true ⟨h1, h2⟩)
     go_enter Tryz.func55, Tryz.ntmps55
     go_wp2_with fail
     go_ret
     exact ⟨by rw [H.out]; rfl, rfl⟩
   · have H := Lib.hid (show perK p = false from decide_eq_false (fun h => h2 h.2))
     have h3 : ¬ p ≤ 4096 := h2
     go_enter Tryz.func55, Tryz.ntmps55
     go_wp2_with fail
     go_ret
     exact ⟨by rw [H.out]; rfl, rfl⟩
 · have H := Lib.hid (show perK p = false from decide_eq_false (fun h => h1 h.1))
   go_enter Tryz.func55, Tryz.ntmps55
   go_wp2_with fail
   go_ret
   exact ⟨by rw [H.out]; rfl, rfl⟩
def riseP (ss : List (List Nat)) (n : Nat) : Prop := ∀ i, i < n → i = 0 ∨ ordT (ss.getD (i - 1) []) (ss.getD i []) < 0
instance (ss : List (List Nat)) (n : Nat) : Decidable (riseP ss n) := by unfold riseP; exact inferInstance
theorem riseP_step {ss : List (List Nat)} {j : Nat} (h : riseP ss j) (h1 : j = 0 ∨ ordT (ss.getD (j - 1) []) (ss.getD j []) < 0) : riseP ss (j + 1) := fun i hi => by
 rcases Nat.lt_or_eq_of_le (Nat.le_of_lt_succ hi) with h2 | h2
 · exact h i h2
 · exact h2 ▸ h1
set_option maxHeartbeats 3200000 in
theorem riseC_any (A : Option Addr) (n c : Nat) (ss : List (List Nat)) (w : World) (hx : RdSS w A n ss) (hu : U8s ss) (hn : n ≤ 140737488355328) :
   Calls Tryz.prog 58 #[.slice A n c] w fun e w' => e = .returned (.bool (decide (riseP ss n))) ∧ Ext w w' := by
 have Hx := Lib.hid hx
 have Hu := Lib.hid (fun j => hu.at_ j)
 obtain ⟨R, hR⟩ : ∃ R, R = decide (riseP ss n) := ⟨_, rfl⟩
 rw [← hR]
 have HR := Lib.hid hR
 have H0 : Hid (riseP ss 0) := Lib.hid (fun i hi => absurd hi (Nat.not_lt_zero _))
 clear hx hu hR
 go_enter Tryz.func58, Tryz.ntmps58
 go_wp2_with fail
 go_loopw [3, 6] (fun _ i wr => ∃ (j : Nat), j ≤ n ∧ i = .int .i64 (j : Int) ∧ Hid (riseP ss j) ∧ Hid (Ext w wr)) (fun _ i _ => n - (intOf i).toNat)
 case atStart => exact ⟨0, Nat.zero_le _, rfl, H0.out, Lib.hid (Ext.refl _)⟩
 case round =>
   obtain ⟨j, hj, rfl, HP, HE⟩ := hrel
   by_cases hlt : j < n
   · by_cases h0 : j = 0
     · subst h0
       have HP2 := Lib.hid (riseP_step HP.out (.inl rfl))
       go_wp2_with fail
       refine wp_region_held_drew (S := fun _ => True) (by kernel_rfl) trivial (fun hHeld => ?_)
       refine wpAnyH_take (i := 0) (v := ?_) rfl (by kernel_rfl) (by kernel_rfl) (by kernel_rfl) (fun _ _ _ h => h) (Or.inl ⟨by rfl, ?_⟩) hHeld ?_
       rotate_left
       · (intro w hSw; (try dsimp only at hSw); go_simp; (try with_reducible rfl))
       (simp only [Act.put, List.getElem_toArray, List.getElem_cons_zero, List.setIfInBounds_toArray, List.set_cons_zero, List.set_cons_succ])
       refine wpAnyH_take (i := 1) (v := ?_) rfl (by kernel_rfl) (by kernel_rfl) (by kernel_rfl) (fun _ _ _ h => h) (Or.inl ⟨by rfl, ?_⟩) hHeld ?_
       rotate_left
       · (intro w hSw; (try dsimp only at hSw); go_simp; (try with_reducible rfl))
       (simp only [Act.put, List.getElem_toArray, List.getElem_cons_zero, List.getElem_cons_succ, List.setIfInBounds_toArray, List.set_cons_zero, List.set_cons_succ])
       refine wpAnyH_take (i := 2) (v := ?_) rfl (by kernel_rfl) (by kernel_rfl) (by kernel_rfl) (fun _ _ _ h => h) (Or.inl ⟨by rfl, ?_⟩) hHeld ?_
       rotate_left
       · (intro w hSw; (try dsimp only at hSw); go_simp; (try with_reducible rfl))
       (simp only [Act.put, List.getElem_toArray, List.getElem_cons_zero, List.getElem_cons_succ, List.setIfInBounds_toArray, List.set_cons_zero, List.set_cons_succ])
       refine wpAnyH_take (i := 3) (v := undef) rfl (by kernel_rfl) (by kernel_rfl) (by kernel_rfl) (fun _ _ _ h => h) (Or.inr ⟨by rfl, rfl⟩) hHeld ?_
       (simp only [Act.put, List.getElem_toArray, List.getElem_cons_zero, List.getElem_cons_succ, List.setIfInBounds_toArray, List.set_cons_zero, List.set_cons_succ])
       refine wpAnyH_take (i := 4) (v := undef) rfl (by kernel_rfl) (by kernel_rfl) (by kernel_rfl) (fun _ _ _ h => h) (Or.inr ⟨by rfl, rfl⟩) hHeld ?_
       (simp only [Act.put, List.getElem_toArray, List.getElem_cons_zero, List.getElem_cons_succ, List.setIfInBounds_toArray, List.set_cons_zero, List.set_cons_succ])
       refine wpAnyH_take (i := 5) (v := undef) rfl (by kernel_rfl) (by kernel_rfl) (by kernel_rfl) (fun _ _ _ h => h) (Or.inr ⟨by rfl, rfl⟩) hHeld ?_
       (simp only [Act.put, List.getElem_toArray, List.getElem_cons_zero, List.getElem_cons_succ, List.setIfInBounds_toArray, List.set_cons_zero, List.set_cons_succ])
       refine wpAnyH_take (i := 6) (v := undef) rfl (by kernel_rfl) (by kernel_rfl) (by kernel_rfl) (fun _ _ _ h => h) (Or.inr ⟨by rfl, rfl⟩) hHeld ?_
       (simp only [Act.put, List.getElem_toArray, List.getElem_cons_zero, List.getElem_cons_succ, List.setIfInBounds_toArray, List.set_cons_zero, List.set_cons_succ])
       refine wpAnyH_take (i := 7) (v := undef) rfl (by kernel_rfl) (by kernel_rfl) (by kernel_rfl) (fun _ _ _ h => h) (Or.inr ⟨by rfl, rfl⟩) hHeld ?_
       (simp only [Act.put, List.getElem_toArray, List.getElem_cons_zero, List.getElem_cons_succ, List.setIfInBounds_toArray, List.set_cons_zero, List.set_cons_succ])
       refine wpAnyH_take (i := 8) (v := undef) rfl (by kernel_rfl) (by kernel_rfl) (by kernel_rfl) (fun _ _ _ h => h) (Or.inr ⟨by rfl, rfl⟩) hHeld ?_
       (simp only [Act.put, List.getElem_toArray, List.getElem_cons_zero, List.getElem_cons_succ, List.setIfInBounds_toArray, List.set_cons_zero, List.set_cons_succ])
       refine wpAnyH_take (i := 9) (v := undef) rfl (by kernel_rfl) (by kernel_rfl) (by kernel_rfl) (fun _ _ _ h => h) (Or.inr ⟨by rfl, rfl⟩) hHeld ?_
       (simp only [Act.put, List.getElem_toArray, List.getElem_cons_zero, List.getElem_cons_succ, List.setIfInBounds_toArray, List.set_cons_zero, List.set_cons_succ])
       refine wpAnyH_take (i := 10) (v := undef) rfl (by kernel_rfl) (by kernel_rfl) (by kernel_rfl) (fun _ _ _ h => h) (Or.inr ⟨by rfl, rfl⟩) hHeld ?_
       (simp only [Act.put, List.getElem_toArray, List.getElem_cons_zero, List.getElem_cons_succ, List.setIfInBounds_toArray, List.set_cons_zero, List.set_cons_succ])
       refine wpAnyH_take (i := 11) (v := undef) rfl (by kernel_rfl) (by kernel_rfl) (by kernel_rfl) (fun _ _ _ h => h) (Or.inr ⟨by rfl, rfl⟩) hHeld ?_
       (simp only [Act.put, List.getElem_toArray, List.getElem_cons_zero, List.getElem_cons_succ, List.setIfInBounds_toArray, List.set_cons_zero, List.set_cons_succ])
       refine wpAnyH_take (i := 12) (v := undef) rfl (by kernel_rfl) (by kernel_rfl) (by kernel_rfl) (fun _ _ _ h => h) (Or.inr ⟨by rfl, rfl⟩) hHeld ?_
       (simp only [Act.put, List.getElem_toArray, List.getElem_cons_zero, List.getElem_cons_succ, List.setIfInBounds_toArray, List.set_cons_zero, List.set_cons_succ])
       refine wpAnyH_take (i := 13) (v := undef) rfl (by kernel_rfl) (by kernel_rfl) (by kernel_rfl) (fun _ _ _ h => h) (Or.inr ⟨by rfl, rfl⟩) hHeld ?_
       (simp only [Act.put, List.getElem_toArray, List.getElem_cons_zero, List.getElem_cons_succ, List.setIfInBounds_toArray, List.set_cons_zero, List.set_cons_succ])
       refine wpAnyH_take (i := 14) (v := ?_) rfl (by kernel_rfl) (by kernel_rfl) (by kernel_rfl) (fun _ _ _ h => h) (Or.inl ⟨by rfl, ?_⟩) hHeld ?_
       rotate_left
       · (intro w hSw; (try dsimp only at hSw); go_simp; (try with_reducible rfl))
       (simp only [Act.put, List.getElem_toArray, List.getElem_cons_zero, List.getElem_cons_succ, List.setIfInBounds_toArray, List.set_cons_zero, List.set_cons_succ])
       refine wpAnyH_done (by kernel_rfl) ?_ _
       go_wp2_with fail
       go_roundw
       case rel => exact ⟨0 + 1, hlt, by go_num, HP2.out, Lib.hid (by repeat (first | exact HE.out | apply Ext.drew | apply Ext.alloc))⟩
       case measure => simp [intOf]; omega
     · obtain ⟨i, hi⟩ : ∃ i, i + 1 = j := ⟨j - 1, by omega⟩
       obtain ⟨b, o, a1, m1, c1, hA, hbl, q1, r1⟩ := (Hx.out.ext HE.out).at_ (show i < n by omega)
       obtain ⟨b', o', a2, m2, c2, hA', _, q2, r2⟩ := (Hx.out.ext HE.out).at_ hlt
       rw [hA] at hA'
       injection hA' with hA'
       injection hA' with e1 e2
       subst e1 e2
       subst hA
       have hgt : (0 : Int) < (j : Int) := by omega
       have hgt1 : 0 < j := by omega
       have hgt2 : decide ((0 : Int) < (j : Int)) = true := decide_eq_true hgt
       have hjm : (j : Int) - 1 = (i : Int) := by omega
       have hin : (i : Int) < (n : Int) := by omega
       have hjn : (j : Int) < (n : Int) := by omega
       have hi0 : (0 : Int) ≤ (i : Int) := by omega
       have hwj : IntKind.i64.wrap ((j : Int) - 1) = (i : Int) := by rw [hjm]; exact IntWalk.i64_in _ (by omega)
       have hwi : IntKind.i64.wrap (i : Int) = (i : Int) := IntWalk.i64_in _ (by omega)
       have HC := Lib.hid (fun W (hW : Ext wr W) => compareT_any a1 a2 m1 c1 m2 c2 (ss.getD i []) (ss.getD j []) W (r1.ext hW) (r2.ext hW) (Hu.out i) (Hu.out j))
       obtain ⟨O, hO⟩ : ∃ O, O = ordT (ss.getD i []) (ss.getD j []) := ⟨_, rfl⟩
       rw [← hO] at HC
       have HO : Hid (O = ordT (ss.getD (j - 1) []) (ss.getD j [])) := Lib.hid (by rw [hO, ← hi]; rfl)
       have K := Lib.hid (fun W (hW : Ext wr W) => (show W.cell? ⟨b, o + i, none⟩ = some (.slice a1 m1 c1) ∧ W.cell? ⟨b, o + j, none⟩ = some (.slice a2 m2 c2) from ⟨(hW.cells b _ hbl).trans q1, (hW.cells b _ hbl).trans q2⟩))
       clear hO r1 r2 hi
       by_cases hlo : O < 0
       · have HP2 := Lib.hid (riseP_step HP.out (.inr (by rw [← HO.out]; exact hlo)))
         have hge : ¬ 0 ≤ O := by omega
         go_wp2_with fail
         go_region_held3 (fun W => W.cell? ⟨b, o + i, none⟩ = some (.slice a1 m1 c1) ∧ W.cell? ⟨b, o + j, none⟩ = some (.slice a2 m2 c2))
           (first | (refine K.out _ ?_; (repeat (first | exact Ext.refl _ | apply Ext.drew | apply Ext.alloc | fail))) | fail)
           (first
             | (go_at_call 64; (with_reducible refine (HC.out _ ?_).mono ?_); (focus ((repeat (first | exact Ext.refl _ | apply Ext.drew | apply Ext.alloc | fail)); done)); rintro e w2 ⟨rfl, rfl⟩)
             | fail)
         go_wp2_with fail
         go_roundw
         case rel => exact ⟨j + 1, hlt, by go_num, HP2.out, Lib.hid (by repeat (first | exact HE.out | apply Ext.drew | apply Ext.alloc))⟩
         case measure => simp [intOf]; omega
       · have HF := Lib.hid (HR.out.trans (decide_eq_false (fun h => by
           rcases h j hlt with h1 | h1
           · exact h0 h1
           · exact hlo (HO.out ▸ h1))))
         have hge : 0 ≤ O := by omega
         go_wp2_with fail
         go_region_held3 (fun W => W.cell? ⟨b, o + i, none⟩ = some (.slice a1 m1 c1) ∧ W.cell? ⟨b, o + j, none⟩ = some (.slice a2 m2 c2))
           (first | (refine K.out _ ?_; (repeat (first | exact Ext.refl _ | apply Ext.drew | apply Ext.alloc | fail))) | fail)
           (first
             | (go_at_call 64; (with_reducible refine (HC.out _ ?_).mono ?_); (focus ((repeat (first | exact Ext.refl _ | apply Ext.drew | apply Ext.alloc | fail)); done)); rintro e w2 ⟨rfl, rfl⟩)
             | fail)
         go_wp2_with fail
         go_ret
         exact ⟨by rw [HF.out]; rfl, by repeat (first | exact HE.out | apply Ext.drew | apply Ext.alloc)⟩
   · obtain rfl : n = j := by omega
     have HT := Lib.hid (HR.out.trans (decide_eq_true HP.out))
     go_wp2_with fail
     go_ret
     exact ⟨by rw [HT.out]; rfl, HE.out⟩
theorem putNumC_any (n : Nat) (w : World) (hn : n ≤ 140737488355328) : Calls Tryz.prog 163 #[.int .i64 (n : Int)] w fun e w' => ∃ A' c', e = .returned (.slice A' (vput n).length c') ∧ Own .u8 5 w' w.heap.size A' c' (vput n) ∧ Ext w w' := by
 have hw : IntKind.u64.wrap (n : Int) = (n : Int) := IntWalk.u64_in _ (by omega)
 have HP := Lib.hid (fun W => put_any n W (by omega))
 obtain ⟨L, hL⟩ : ∃ L, L = vput n := ⟨_, rfl⟩
 rw [← hL] at HP ⊢
 clear hL
 go_enter Tryz.func163, Tryz.ntmps163
 go_wp2_with fail
 refine (HP.out _).mono ?_
 rintro e w1 ⟨A1, c1, rfl, ho1, he1⟩
 go_wp2_with fail
 go_ret
 exact ⟨A1, c1, rfl, ho1, he1⟩
def place (n : Nat) : List Nat := sl (upk 8 4 n)
set_option maxHeartbeats 800000 in
theorem putPlaceC_any (n : Nat) (w : World) (hn : n < 4294967296) : Calls Tryz.prog 135 #[.int .i64 (n : Int)] w fun e w' => ∃ A' c', e = .returned (.slice A' 8 c') ∧ Own .u8 5 w' w.heap.size A' c' (place n) ∧ Ext w w' := by
 have hd : n / 16777216 % 256 = n / 16777216 := by omega
 have H := Lib.hid ((four_upk n).trans (by rw [hd]))
 have hu4 : U8 [n % 256, n / 256 % 256, n / 65536 % 256, n / 16777216] := by
   intro v hv
   simp only [List.mem_cons, List.not_mem_nil, or_false] at hv
   rcases hv with rfl | rfl | rfl | rfl <;> omega
 have Hu4 := Lib.hid hu4
 clear hd hu4
 go_enter Tryz.func135, Tryz.ntmps135
 go_wp2_with fail
 have hr := Rd.lit_at .u8 5 w [n % 256, n / 256 % 256, n / 65536 % 256, n / 16777216] rfl (n := 4) rfl
 refine (seal_any _ 4 _ [n % 256, n / 256 % 256, n / 65536 % 256, n / 16777216] _ hr Hu4.out (by omega)).mono ?_
 rintro e w1 ⟨A1, c1, rfl, hown1, he1⟩
 have hE : Ext w w1 := Ext.trans ((Ext.refl w).alloc _) he1
 have hown := hown1.mono (show w.heap.size ≤ _ by simp)
 clear hr hown1 he1
 go_wp2_with fail
 go_ret
 exact ⟨_, _, rfl, by unfold place; rw [H.out]; exact hown, hE⟩
structure RdrC (w : World) (g : Nat) (v0 v1 : Value) : Prop where
 lt : g < w.heap.size
 c0 : w.cell? ⟨g, 0, none⟩ = some v0
 c1 : w.cell? ⟨g, 1, none⟩ = some v1
 f0 : w.frozen? ⟨g, 0, none⟩ = false
 f1 : w.frozen? ⟨g, 1, none⟩ = false
theorem RdrC.set0 {w : World} {g : Nat} {v0 v1 : Value} (h : RdrC w g v0 v1) (v : Value) : RdrC (w.setCell ⟨g, 0, none⟩ v) g v v1 :=
 ⟨by simp [World.setCell]; exact h.lt, (World.cell?_setCell_same _ _ _ h.c0), (World.cell?_setCell_other _ _ _ _ (fun e => by injection e with _ e2 _; exact absurd e2 (by decide))).trans h.c1, by rw [World.frozen?_setCell]; exact h.f0, by rw [World.frozen?_setCell]; exact h.f1⟩
theorem RdrC.set1 {w : World} {g : Nat} {v0 v1 : Value} (h : RdrC w g v0 v1) (v : Value) : RdrC (w.setCell ⟨g, 1, none⟩ v) g v0 v :=
 ⟨by simp [World.setCell]; exact h.lt, (World.cell?_setCell_other _ _ _ _ (fun e => by injection e with _ e2 _; exact absurd e2 (by decide))).trans h.c0, (World.cell?_setCell_same _ _ _ h.c1), by rw [World.frozen?_setCell]; exact h.f0, by rw [World.frozen?_setCell]; exact h.f1⟩
def numR (bs : List Nat) (f : Bool) (most : Nat) : Nat × List Nat × Bool :=
 if (vget bs 0).2.2 ≠ 0 ∨ most < (vget bs 0).1 then (0, bs, true) else ((vget bs 0).1, bs.drop (vget bs 0).2.1.toNat, f)
def bytR (bs : List Nat) (f : Bool) (n : Nat) : List Nat × List Nat × Bool := if bs.length < n then ([], bs, true) else (bs.take n, bs.drop n, f)
structure RdV (w : World) (v : Value) (bs : List Nat) : Prop where
 ex : ∃ A c, v = .slice A bs.length c ∧ Rd .u8 w A bs.length bs ∧ bs.length ≤ c ∧ c ≤ 9223372036854775807
theorem RdV.set {w : World} {A : Option Addr} {n c g i : Nat} {bs : List Nat} {x : Value} (hx : Rd .u8 w A n bs) (hA : ∀ p, A = some p → p.block ≠ g) (hc : n ≤ c) (hcm : c ≤ 9223372036854775807) : RdV (w.setCell ⟨g, i, none⟩ x) (.slice A n c) bs := by
 have hl := hx.len
 subst hl
 refine ⟨A, c, rfl, ?_, hc, hcm⟩
 refine ⟨rfl, fun h0 => ?_⟩
 obtain ⟨b, o, e, hb, hcell⟩ := hx.2 h0
 refine ⟨b, o, e, by simp [World.setCell]; exact hb, fun j hj => ?_⟩
 rw [World.cell?_setCell_far _ _ _ _ (fun q => hA _ e q.symm)]
 exact hcell j hj
theorem offA_block {A : Option Addr} {k m g : Nat} (h : ∀ p, A = some p → p.block ≠ g) : ∀ p, offA A k m = some p → p.block ≠ g := fun p hp => by
 unfold offA at hp
 split at hp
 · exact h p hp
 · cases hA : A with
   | none => rw [hA] at hp; cases hp
   | some q =>
     rw [hA] at hp
     injection hp with hp
     subst hp
     show (q.add k).block ≠ g
     have : (q.add k).block = q.block := by unfold Addr.add; split <;> rfl
     rw [this]
     exact h q hA
theorem offA_blk {A : Option Addr} {k m : Nat} {p' : Addr} (hp : offA A k m = some p') : ∃ p, A = some p ∧ p'.block = p.block := by
 unfold offA at hp
 split at hp
 · exact ⟨p', hp, rfl⟩
 · cases hA : A with
   | none => rw [hA] at hp; cases hp
   | some q =>
     rw [hA] at hp
     injection hp with hp
     subst hp
     refine ⟨q, rfl, ?_⟩
     show (q.add k).block = q.block
     unfold Addr.add
     split <;> rfl
def SameB (A : Option Addr) (v : Value) : Prop := ∀ A' n' c', v = .slice A' n' c' → ∀ p', A' = some p' → ∃ p, A = some p ∧ p'.block = p.block
theorem SameB.self (A : Option Addr) (n c : Nat) : SameB A (.slice A n c) := fun A' n' c' e p' hp => by injection e with e1 _ _; subst e1; exact ⟨p', hp, rfl⟩
theorem SameB.offA (A : Option Addr) (k m n c : Nat) : SameB A (.slice (offA A k m) n c) := fun A' n' c' e p' hp => by injection e with e1 _ _; subst e1; exact offA_blk hp
theorem numR_bad {bs : List Nat} {f : Bool} {most u : Nat} {a er : Int} (h : vget bs 0 = (u, a, er)) (hb : er ≠ 0 ∨ most < u) : numR bs f most = (0, bs, true) := by
 unfold numR
 rw [h, if_pos hb]
theorem numR_ok {bs : List Nat} {f : Bool} {most u : Nat} {a : Nat} (h : vget bs 0 = (u, (a : Int), 0)) (hb : u ≤ most) : numR bs f most = (u, bs.drop a, f) := by
 unfold numR
 rw [h, if_neg (fun q => q.elim (fun q => q rfl) (fun q => by simp only at q; omega))]
 rfl
set_option maxHeartbeats 1600000 in
theorem numC_any (g : Nat) (A : Option Addr) (n c : Nat) (bs : List Nat) (f : Bool) (most : Nat) (w : World) (hr : RdrC w g (.slice A n c) (.bool f)) (hx : Rd .u8 w A n bs) (hc : n ≤ c) (hcm : c ≤ 9223372036854775807) (hA : ∀ p, A = some p → p.block ≠ g) (hu : U8 bs) (hn : n ≤ 140737488355328) (hm : most ≤ 1000000) :
   Calls Tryz.prog 98 #[.pointer (some ⟨g, 0, none⟩), .int .i64 (most : Int)] w fun e w' => e = .returned (.int .i64 ((numR bs f most).1 : Int)) ∧ ∃ v', RdrC w' g v' (.bool (numR bs f most).2.2) ∧ RdV w' v' (numR bs f most).2.1 ∧ SameB A v' ∧ w.grownBy w' (some g) := by
 have hl := hx.len
 obtain ⟨hlt, hc0, hc1, hf0, hf1⟩ := hr
 have Hr : Hid (RdrC w g (.slice A n c) (.bool f)) := Lib.hid ⟨hlt, hc0, hc1, hf0, hf1⟩
 have HA := Lib.hid hA
 have Hx := Lib.hid hx
 have HG := Lib.hid (get_any A n c 0 bs w hx hu (by omega) hc hcm)
 have hva := fun v n => vget_at (bs := bs) (a := 0) (n := n) (v := v) hu
 unfold GetPost at HG
 have hbad := fun u a er (h : vget bs 0 = (u, a, er)) => numR_bad (f := f) (most := most) h
 have hok := fun u a (h : vget bs 0 = (u, ((a : Nat) : Int), 0)) => numR_ok (f := f) (most := most) h
 obtain ⟨⟨u, a, er⟩, hV⟩ : ∃ V, V = vget bs 0 := ⟨_, rfl⟩
 rw [← hV] at HG hva hbad hok
 simp only at HG
 have hwm : IntKind.u64.wrap (most : Int) = (most : Int) := IntWalk.u64_in _ (by omega)
 have bad : ∀ W, W = w.setCell ⟨g, 1, none⟩ (.bool true) → RdrC W g (.slice A n c) (.bool true) ∧ RdV W (.slice A n c) bs ∧ w.grownBy W (some g) := by
   rintro W rfl
   exact ⟨Hr.out.set1 _, RdV.set Hx.out HA.out hc hcm, grown_setCell w g 1 _⟩
 have Bad := Lib.hid bad
 have HAs := Lib.hid (SameB.self A n c)
 clear bad hV hx hu hA
 by_cases he : er = 0
 rotate_left
 · have HR := Lib.hid (hbad u a er rfl (.inl he))
   have heb : (er != 0) = true := by simp [he]
   rw [HR.out]
   clear hbad hok hva he
   go_enter Tryz.func98, Tryz.ntmps98
   go_wp2_with fail
   refine HG.out.mono ?_
   rintro e w1 ⟨rfl, rfl⟩
   go_wp2_with fail
   go_ret
   obtain ⟨b1, b2, b3⟩ := Bad.out _ rfl
   exact ⟨rfl, _, b1, b2, HAs.out, b3⟩
 subst he
 by_cases hbig : most < u
 · have HR := Lib.hid (hbad u a 0 rfl (.inr hbig))
   have hI : (most : Int) < (u : Int) := by omega
   rw [HR.out]
   clear hbad hok hva hbig
   go_enter Tryz.func98, Tryz.ntmps98
   go_wp2_with fail
   refine HG.out.mono ?_
   rintro e w1 ⟨rfl, rfl⟩
   go_wp2_with fail
   go_ret
   obtain ⟨b1, b2, b3⟩ := Bad.out _ rfl
   exact ⟨rfl, _, b1, b2, HAs.out, b3⟩
 obtain ⟨_, v1, v2, v3, _⟩ := hva u a rfl
 rw [hl] at v2
 obtain ⟨a, rfl⟩ := Int.eq_ofNat_of_zero_le (show 0 ≤ a by omega)
 have han : a ≤ n := by omega
 have HR := Lib.hid (hok u a rfl (by omega))
 have hI : ¬ (most : Int) < (u : Int) := by omega
 have hwu : IntKind.i64.wrap (u : Int) = (u : Int) := IntWalk.i64_in _ (by omega)
 have HSl := run_from A n c a han
 have Hok : Hid (∀ W, W = w.setCell ⟨g, 0, none⟩ (.slice (offA A a c) (n - a : Nat) (c - a : Nat)) → RdrC W g (.slice (offA A a c) (n - a) (c - a)) (.bool f) ∧ RdV W (.slice (offA A a c) (n - a) (c - a)) (bs.drop a) ∧ w.grownBy W (some g)) := Lib.hid (by
   rintro W rfl
   exact ⟨Hr.out.set0 _, RdV.set (Hx.out.offA han hc) (offA_block HA.out) (by omega) (by omega), grown_setCell w g 0 _⟩)
 have HAo := Lib.hid (SameB.offA A a c (n - a) (c - a))
 rw [HR.out]
 clear hbad hok hva hbig hl v1 v2 v3
 go_enter Tryz.func98, Tryz.ntmps98
 go_wp2_with fail
 refine HG.out.mono ?_
 rintro e w1 ⟨rfl, rfl⟩
 go_wp2_with fail
 go_ret
 obtain ⟨b1, b2, b3⟩ := Hok.out _ rfl
 exact ⟨rfl, _, b1, b2, HAo.out, b3⟩
theorem bytR_bad {bs : List Nat} {f : Bool} {n : Nat} (h : bs.length < n) : bytR bs f n = ([], bs, true) := if_pos h
theorem bytR_ok {bs : List Nat} {f : Bool} {n : Nat} (h : ¬ bs.length < n) : bytR bs f n = (bs.take n, bs.drop n, f) := if_neg h
set_option maxHeartbeats 1600000 in
theorem bytC_any (g : Nat) (A : Option Addr) (n c : Nat) (bs : List Nat) (f : Bool) (m : Nat) (w : World) (hr : RdrC w g (.slice A n c) (.bool f)) (hx : Rd .u8 w A n bs) (hc : n ≤ c) (hcm : c ≤ 9223372036854775807) (hA : ∀ p, A = some p → p.block ≠ g) (_hn : n ≤ 140737488355328) (hm : m ≤ 1000000) :
   Calls Tryz.prog 101 #[.pointer (some ⟨g, 0, none⟩), .int .i64 (m : Int)] w fun e w' => ∃ A1 c1, e = .returned (.slice A1 (bytR bs f m).1.length c1) ∧ (bytR bs f m).1.length ≤ c1 ∧ c1 ≤ 9223372036854775807 ∧ (A1 = none ∨ A1 = A) ∧ Rd .u8 w' A1 (bytR bs f m).1.length (bytR bs f m).1 ∧
     ∃ v', RdrC w' g v' (.bool (bytR bs f m).2.2) ∧ RdV w' v' (bytR bs f m).2.1 ∧ SameB A v' ∧ w.grownBy w' (some g) := by
 have hl := hx.len
 obtain ⟨hlt, hc0, hc1, hf0, hf1⟩ := hr
 have Hr : Hid (RdrC w g (.slice A n c) (.bool f)) := Lib.hid ⟨hlt, hc0, hc1, hf0, hf1⟩
 have HA := Lib.hid hA
 have Hx := Lib.hid hx
 by_cases hbig : n < m
 · have hI : (n : Int) < (m : Int) := by omega
   rw [bytR_bad (by omega)]
   have Bad : Hid (∀ W, W = w.setCell ⟨g, 1, none⟩ (.bool true) → RdrC W g (.slice A n c) (.bool true) ∧ RdV W (.slice A n c) bs ∧ w.grownBy W (some g)) := Lib.hid (by
     rintro W rfl
     exact ⟨Hr.out.set1 _, RdV.set Hx.out HA.out hc hcm, grown_setCell w g 1 _⟩)
   have HAs := Lib.hid (SameB.self A n c)
   clear hx hA hl hbig
   go_enter Tryz.func101, Tryz.ntmps101
   go_wp2_with fail
   go_ret
   obtain ⟨b1, b2, b3⟩ := Bad.out _ rfl
   exact ⟨none, 0, rfl, Nat.le_refl _, by decide, .inl rfl, Rd.nil .., _, b1, b2, HAs.out, b3⟩
 · have hI : ¬ (n : Int) < (m : Int) := by omega
   have hmn : m ≤ n := by omega
   rw [bytR_ok (by omega)]
   have hu1 := run_upto .i64 A n c m (by omega)
   have hs1 := run_from A n c m hmn
   have Hok : Hid (∀ W, W = w.setCell ⟨g, 0, none⟩ (.slice (offA A m c) (n - m : Nat) (c - m : Nat)) → RdrC W g (.slice (offA A m c) (n - m) (c - m)) (.bool f) ∧ RdV W (.slice (offA A m c) (n - m) (c - m)) (bs.drop m) ∧ Rd .u8 W A m (bs.take m) ∧ w.grownBy W (some g)) := Lib.hid (by
     rintro W rfl
     obtain ⟨A', c', e, q1, q2, q3⟩ := (RdV.set (i := 0) (g := g) (x := .slice (offA A m c) (n - m : Nat) (c - m : Nat)) (Hx.out.upto hmn) HA.out (by omega : m ≤ c) hcm).ex
     injection e with e1 e2 e3
     subst e1
     rw [← e2] at q1
     exact ⟨Hr.out.set0 _, RdV.set (Hx.out.offA hmn hc) (offA_block HA.out) (by omega) (by omega), q1, grown_setCell w g 0 _⟩)
   have HAo := Lib.hid (SameB.offA A m c (n - m) (c - m))
   have Htl : Hid ((bs.take m).length = m) := Lib.hid (by rw [List.length_take, hl]; omega)
   obtain ⟨T, hT⟩ : ∃ T, T = bs.take m := ⟨_, rfl⟩
   rw [← hT] at Htl Hok ⊢
   clear hT
   clear hx hA hl hbig
   go_enter Tryz.func101, Tryz.ntmps101
   go_wp2_with fail
   go_ret
   obtain ⟨b1, b2, b3, b4⟩ := Hok.out _ rfl
   exact ⟨A, c, by rw [Htl.out]; rfl, by rw [Htl.out]; omega, hcm, .inr rfl, by rw [Htl.out]; exact b3, _, b1, b2, HAo.out, b4⟩
theorem doneC_any (g : Nat) (A : Option Addr) (n c : Nat) (f : Bool) (w : World) (hr : RdrC w g (.slice A n c) (.bool f)) :
   Calls Tryz.prog 102 #[.pointer (some ⟨g, 0, none⟩)] w fun e w' => e = .returned (.bool (!f && decide (n = 0))) ∧ w = w' := by
 obtain ⟨hlt, hc0, hc1, hf0, hf1⟩ := hr
 cases f with
 | true =>
   go_enter Tryz.func102, Tryz.ntmps102
   go_wp2_with fail
   go_ret
   exact ⟨rfl, rfl⟩
 | false =>
   by_cases h0 : n = 0
   · subst h0
     go_enter Tryz.func102, Tryz.ntmps102
     go_wp2_with fail
     go_ret
     exact ⟨rfl, rfl⟩
   · have hb : ((n : Int) == 0) = false := by simp [h0]
     have hd : decide (n = 0) = false := decide_eq_false h0
     rw [hd]
     clear hd
     go_enter Tryz.func102, Tryz.ntmps102
     go_wp2_with fail
     go_ret
     exact ⟨rfl, rfl⟩
structure FilC (w : World) (g : Nat) (k : Int) (ks : Bool) (rows per : Int) (vb vf : Value) : Prop where
 lt : g < w.heap.size
 c0 : w.cell? ⟨g, 0, none⟩ = some (.int .i64 k)
 c1 : w.cell? ⟨g, 1, none⟩ = some (.bool ks)
 c2 : w.cell? ⟨g, 2, none⟩ = some (.int .i64 rows)
 c3 : w.cell? ⟨g, 3, none⟩ = some (.int .i64 per)
 c4 : w.cell? ⟨g, 4, none⟩ = some vb
 c5 : w.cell? ⟨g, 5, none⟩ = some vf
 fr : ∀ i, w.frozen? ⟨g, i, none⟩ = false
section
variable (g : Nat) (k : Int) (ks : Bool) (rows per : Int) (Ab : Option Addr) (nb cb : Nat) (vf : Value) (w : World) (h : FilC w g k ks rows per (.slice Ab nb cb) vf)
include h
theorem kindC_any : Calls Tryz.prog 27 #[.pointer (some ⟨g, 0, none⟩)] w fun e w' => e = .returned (.int .i64 k) ∧ w = w' := by
 obtain ⟨hlt, h0, h1, h2, h3, h4, h5, hf⟩ := h
 go_enter Tryz.func27, Tryz.ntmps27
 go_wp2_with fail
 go_ret
 exact ⟨rfl, rfl⟩
theorem rowsC_any : Calls Tryz.prog 26 #[.pointer (some ⟨g, 0, none⟩)] w fun e w' => e = .returned (.int .i64 rows) ∧ w = w' := by
 obtain ⟨hlt, h0, h1, h2, h3, h4, h5, hf⟩ := h
 go_enter Tryz.func26, Tryz.ntmps26
 go_wp2_with fail
 go_ret
 exact ⟨rfl, rfl⟩
theorem keysC_any : Calls Tryz.prog 28 #[.pointer (some ⟨g, 0, none⟩)] w fun e w' => e = .returned (.bool ks) ∧ w = w' := by
 obtain ⟨hlt, h0, h1, h2, h3, h4, h5, hf⟩ := h
 go_enter Tryz.func28, Tryz.ntmps28
 go_wp2_with fail
 go_ret
 exact ⟨rfl, rfl⟩
theorem blocksC_any : Calls Tryz.prog 29 #[.pointer (some ⟨g, 0, none⟩)] w fun e w' => e = .returned (.int .i64 (nb : Int)) ∧ w = w' := by
 obtain ⟨hlt, h0, h1, h2, h3, h4, h5, hf⟩ := h
 go_enter Tryz.func29, Tryz.ntmps29
 go_wp2_with fail
 go_ret
 exact ⟨rfl, rfl⟩
end
def rightK (k : Int) (ks : Bool) (per : Int) : Bool := (!ks || decide (k = 8)) && kindK k && perK per
set_option maxHeartbeats 800000 in
theorem rightC_any (g : Nat) (k : Int) (ks : Bool) (rows per : Int) (vb vf : Value) (w : World) (h : FilC w g k ks rows per vb vf) :
   Calls Tryz.prog 99 #[.pointer (some ⟨g, 0, none⟩)] w fun e w' => e = .returned (.bool (rightK k ks per)) ∧ Ext w w' := by
 have Hh := Lib.hid h
 have HK := Lib.hid (fun W => isKindC_any k W)
 have HP := Lib.hid (fun W => isPerC_any per W)
 have K3 := Lib.hid (fun W (hW : Ext w W) => (hW.cells g 3 h.lt).trans h.c3)
 obtain ⟨hlt, h0, h1, h2, h3, h4, h5, hf⟩ := h
 have hR : rightK k ks per = ((!ks || decide (k = 8)) && kindK k && perK per) := rfl
 obtain ⟨R, hRR⟩ : ∃ R, R = rightK k ks per := ⟨_, rfl⟩
 rw [← hRR] at hR ⊢
 clear hRR
 obtain ⟨A, hA⟩ : ∃ A, A = kindK k := ⟨_, rfl⟩
 obtain ⟨B, hB⟩ : ∃ A, A = perK per := ⟨_, rfl⟩
 rw [← hA, ← hB] at hR
 rw [← hA] at HK
 rw [← hB] at HP
 clear hA hB
 by_cases hkk : ks = true ∧ ¬ k = 8
 · obtain ⟨rfl, h8⟩ := hkk
   have hb : (k != 8) = true := by simp [h8]
   have HR : Hid (R = false) := Lib.hid (by rw [hR, decide_eq_false h8]; rfl)
   clear hR
   go_enter Tryz.func99, Tryz.ntmps99
   go_wp2_with fail
   go_ret
   exact ⟨by rw [HR.out]; rfl, Ext.refl _⟩
 · have hR2 : R = (A && B) := by
     rw [hR]
     cases ks with
     | false => rfl
     | true =>
       have : k = 8 := Decidable.not_not.1 (fun q => hkk ⟨rfl, q⟩)
       rw [decide_eq_true this]
       rfl
   have HR := Lib.hid hR2
   clear hR hR2
   have main : ∀ (x : Bool), x = ks → (x = true → (k != 8) = false) → Calls Tryz.prog 99 #[.pointer (some ⟨g, 0, none⟩)] w fun e w' => e = .returned (.bool R) ∧ Ext w w' := by
     intro x hx hx8
     cases x with
     | false =>
       rw [← hx] at h1
       clear hx hx8 hkk Hh
       cases A with
       | false =>
         go_enter Tryz.func99, Tryz.ntmps99
         go_wp2_with fail
         refine (HK.out _).mono ?_
         rintro e w1 ⟨rfl, he1⟩
         go_wp2_with fail
         go_ret
         exact ⟨by rw [HR.out]; rfl, he1⟩
       | true =>
         go_enter Tryz.func99, Tryz.ntmps99
         go_wp2_with fail
         refine (HK.out _).mono ?_
         rintro e w1 ⟨rfl, he1⟩
         have c3 := K3.out _ he1
         go_wp2_with fail
         refine (HP.out _).mono ?_
         rintro e w2 ⟨rfl, rfl⟩
         go_wp2_with fail
         go_ret
         exact ⟨by rw [HR.out]; rfl, he1⟩
     | true =>
       have h8 := hx8 rfl
       rw [← hx] at h1
       clear hx hx8 hkk Hh
       cases A with
       | false =>
         go_enter Tryz.func99, Tryz.ntmps99
         go_wp2_with fail
         refine (HK.out _).mono ?_
         rintro e w1 ⟨rfl, he1⟩
         go_wp2_with fail
         go_ret
         exact ⟨by rw [HR.out]; rfl, he1⟩
       | true =>
         go_enter Tryz.func99, Tryz.ntmps99
         go_wp2_with fail
         refine (HK.out _).mono ?_
         rintro e w1 ⟨rfl, he1⟩
         have c3 := K3.out _ he1
         go_wp2_with fail
         refine (HP.out _).mono ?_
         rintro e w2 ⟨rfl, rfl⟩
         go_wp2_with fail
         go_ret
         exact ⟨by rw [HR.out]; rfl, he1⟩
   refine main ks rfl (fun q => ?_)
   have : k = 8 := Decidable.not_not.1 (fun q' => hkk ⟨q, q'⟩)
   simp [this]
structure LSt where
 r : List Nat
 rf : Bool
 l : List Nat
 lf : Bool
 bs : List (List Nat)
 fs : List (List Nat)
def stB (s : LSt) : LSt :=
 ⟨(numR s.r s.rf 65000).2.1, (numR s.r s.rf 65000).2.2, (bytR s.l s.lf (numR s.r s.rf 65000).1).2.1, (bytR s.l s.lf (numR s.r s.rf 65000).1).2.2, s.bs ++ [(bytR s.l s.lf (numR s.r s.rf 65000).1).1], s.fs⟩
def stF (s : LSt) : LSt :=
 ⟨(bytR (numR s.r s.rf 200).2.1 (numR s.r s.rf 200).2.2 (numR s.r s.rf 200).1).2.1, (bytR (numR s.r s.rf 200).2.1 (numR s.r s.rf 200).2.2 (numR s.r s.rf 200).1).2.2, s.l, s.lf, s.bs, s.fs ++ [(bytR (numR s.r s.rf 200).2.1 (numR s.r s.rf 200).2.2 (numR s.r s.rf 200).1).1]⟩
def stL (ks : Bool) (s : LSt) : LSt := if ks then stF (stB s) else stB s
def itL (ks : Bool) : Nat → LSt → LSt
 | 0, s => s
 | n + 1, s => itL ks n (stL ks s)
structure FlM where
 k : Nat
 ks : Bool
 rows : Nat
 per : Nat
 bs : List (List Nat)
 fs : List (List Nat)
def endL (s : LSt) : Bool := !s.rf && decide (s.r.length = 0) && (!s.lf && decide (s.l.length = 0)) && decide (riseP s.fs s.fs.length)
def hdL (foot : List Nat) : Nat × Nat × Nat × List Nat × Bool :=
 ((numR (foot.drop 2) false 4096).1,
  (numR (numR (foot.drop 2) false 4096).2.1 (numR (foot.drop 2) false 4096).2.2 4096).1,
  (numR (numR (numR (foot.drop 2) false 4096).2.1 (numR (foot.drop 2) false 4096).2.2 4096).2.1 (numR (numR (foot.drop 2) false 4096).2.1 (numR (foot.drop 2) false 4096).2.2 4096).2.2 4096).1,
  (numR (numR (numR (foot.drop 2) false 4096).2.1 (numR (foot.drop 2) false 4096).2.2 4096).2.1 (numR (numR (foot.drop 2) false 4096).2.1 (numR (foot.drop 2) false 4096).2.2 4096).2.2 4096).2.1,
  (numR (numR (numR (foot.drop 2) false 4096).2.1 (numR (foot.drop 2) false 4096).2.2 4096).2.1 (numR (numR (foot.drop 2) false 4096).2.1 (numR (foot.drop 2) false 4096).2.2 4096).2.2 4096).2.2)
def toldR (foot blocks : List Nat) : Option FlM :=
 if foot.length < 2 ∨ 1 < foot.getD 1 0 then none
 else if (hdL foot).2.2.2.2 = true ∨ rightK (foot.getD 0 0 : Nat) (foot.getD 1 0 == 1) ((hdL foot).2.1 : Nat) = false ∨ (hdL foot).2.2.1 ≠ ((hdL foot).1 + (hdL foot).2.1 - 1) / (hdL foot).2.1 then none
 else if endL (itL (foot.getD 1 0 == 1) (hdL foot).2.2.1 ⟨(hdL foot).2.2.2.1, false, blocks, false, [], []⟩) = false then none
 else some ⟨foot.getD 0 0, foot.getD 1 0 == 1, (hdL foot).1, (hdL foot).2.1, (itL (foot.getD 1 0 == 1) (hdL foot).2.2.1 ⟨(hdL foot).2.2.2.1, false, blocks, false, [], []⟩).bs, (itL (foot.getD 1 0 == 1) (hdL foot).2.2.1 ⟨(hdL foot).2.2.2.1, false, blocks, false, [], []⟩).fs⟩
theorem numR_le {bs : List Nat} {f : Bool} {m : Nat} : (numR bs f m).1 ≤ m := by
 unfold numR
 split
 · exact Nat.zero_le _
 · rename_i h; exact Nat.le_of_not_lt (fun q => h (.inr q))
theorem numR_rest {bs : List Nat} {f : Bool} {m : Nat} : ∃ k, (numR bs f m).2.1 = bs.drop k := by
 unfold numR
 split
 · exact ⟨0, rfl⟩
 · exact ⟨_, rfl⟩
theorem bytR_rest {bs : List Nat} {f : Bool} {n : Nat} : ∃ k, (bytR bs f n).2.1 = bs.drop k := by
 unfold bytR
 split
 · exact ⟨0, rfl⟩
 · exact ⟨_, rfl⟩
theorem numR_u8 {bs : List Nat} {f : Bool} {m : Nat} (h : U8 bs) : U8 (numR bs f m).2.1 := by
 obtain ⟨k, e⟩ := numR_rest (bs := bs) (f := f) (m := m)
 rw [e]
 exact fun v hv => h v (List.mem_of_mem_drop hv)
theorem numR_len {bs : List Nat} {f : Bool} {m : Nat} : (numR bs f m).2.1.length ≤ bs.length := by
 obtain ⟨k, e⟩ := numR_rest (bs := bs) (f := f) (m := m)
 rw [e, List.length_drop]
 omega
theorem bytR_u8 {bs : List Nat} {f : Bool} {m : Nat} (h : U8 bs) : U8 (bytR bs f m).2.1 := by
 obtain ⟨k, e⟩ := bytR_rest (bs := bs) (f := f) (n := m)
 rw [e]
 exact fun v hv => h v (List.mem_of_mem_drop hv)
theorem bytR_len2 {bs : List Nat} {f : Bool} {m : Nat} : (bytR bs f m).2.1.length ≤ bs.length := by
 obtain ⟨k, e⟩ := bytR_rest (bs := bs) (f := f) (n := m)
 rw [e, List.length_drop]
 omega
theorem hdL_eq (foot : List Nat) {N1 N2 N3 : Nat × List Nat × Bool} (h1 : N1 = numR (foot.drop 2) false 4096) (h2 : N2 = numR N1.2.1 N1.2.2 4096) (h3 : N3 = numR N2.2.1 N2.2.2 4096) : hdL foot = (N1.1, N2.1, N3.1, N3.2.1, N3.2.2) := by
 subst h1 h2 h3
 rfl
theorem bytR_sub {bs : List Nat} {f : Bool} {n : Nat} : ∀ v ∈ (bytR bs f n).1, v ∈ bs := by
 unfold bytR
 split
 · intro v hv; cases hv
 · exact fun v hv => List.mem_of_mem_take hv
theorem bytR_len {bs : List Nat} {f : Bool} {n : Nat} : (bytR bs f n).1.length ≤ n := by
 unfold bytR
 split
 · exact Nat.zero_le _
 · rw [List.length_take]; omega
structure OkL (s : LSt) (n : Nat) : Prop where
 u1 : U8 s.r
 n1 : s.r.length ≤ 70000
 u2 : U8 s.l
 n2 : s.l.length ≤ 1100000
 lb : s.bs.length = n
 lf : s.fs.length ≤ n
 ub : ∀ t ∈ s.bs, U8 t
 uf : ∀ t ∈ s.fs, U8 t
 zb : ∀ t ∈ s.bs, t.length ≤ 65000
 zf : ∀ t ∈ s.fs, t.length ≤ 200
theorem okL_stB {s : LSt} {n : Nat} (h : OkL s n) : OkL (stB s) (n + 1) :=
 ⟨numR_u8 h.u1, Nat.le_trans numR_len h.n1, bytR_u8 h.u2, Nat.le_trans bytR_len2 h.n2, by unfold stB; simp [h.lb], Nat.le_succ_of_le h.lf, fun t ht => by
   rcases List.mem_append.1 ht with q | q
   · exact h.ub t q
   · rw [List.mem_singleton.1 q]
     exact fun v hv => h.u2 v (bytR_sub v hv), h.uf, fun t ht => by
   rcases List.mem_append.1 ht with q | q
   · exact h.zb t q
   · rw [List.mem_singleton.1 q]
     exact Nat.le_trans bytR_len numR_le, h.zf⟩
theorem okL_stL {ks : Bool} {s : LSt} {n : Nat} (h : OkL s n) : OkL (stL ks s) (n + 1) := by
 cases ks with
 | false => exact okL_stB h
 | true =>
   have h2 := okL_stB h
   exact ⟨bytR_u8 (numR_u8 h2.u1), Nat.le_trans bytR_len2 (Nat.le_trans numR_len h2.n1), h2.u2, h2.n2, h2.lb, by
     have : (stF (stB s)).fs.length = (stB s).fs.length + 1 := by unfold stF; simp
     show (stF (stB s)).fs.length ≤ n + 1
     rw [this]
     have : (stB s).fs.length = s.fs.length := rfl
     have := h.lf
     omega, h2.ub, fun t ht => by
     rcases List.mem_append.1 (show t ∈ (stB s).fs ++ _ from ht) with q | q
     · exact h2.uf t q
     · rw [List.mem_singleton.1 q]
       exact fun v hv => numR_u8 h2.u1 v (bytR_sub v hv), h2.zb, fun t ht => by
     rcases List.mem_append.1 (show t ∈ (stB s).fs ++ _ from ht) with q | q
     · exact h2.zf t q
     · rw [List.mem_singleton.1 q]
       exact Nat.le_trans bytR_len numR_le⟩
theorem cell_blk {w w' : World} {g i : Nat} (e : w'.heap[g]? = w.heap[g]?) : w'.cell? ⟨g, i, none⟩ = w.cell? ⟨g, i, none⟩ := by
 simp only [World.cell?, e]
theorem froz_blk {w w' : World} {g i : Nat} (e : w'.heap[g]? = w.heap[g]?) : w'.frozen? ⟨g, i, none⟩ = w.frozen? ⟨g, i, none⟩ := by
 simp only [World.frozen?, e]
theorem FilC.blk {w w' : World} {g : Nat} {k : Int} {ks : Bool} {rows per : Int} {vb vf : Value} (h : FilC w g k ks rows per vb vf) (hz : w.heap.size ≤ w'.heap.size) (e : w'.heap[g]? = w.heap[g]?) : FilC w' g k ks rows per vb vf :=
 ⟨Nat.lt_of_lt_of_le h.lt hz, (cell_blk e).trans h.c0, (cell_blk e).trans h.c1, (cell_blk e).trans h.c2, (cell_blk e).trans h.c3, (cell_blk e).trans h.c4, (cell_blk e).trans h.c5, fun i => (froz_blk e).trans (h.fr i)⟩
theorem RdrC.blk {w w' : World} {g : Nat} {v0 v1 : Value} (h : RdrC w g v0 v1) (hz : w.heap.size ≤ w'.heap.size) (e : w'.heap[g]? = w.heap[g]?) : RdrC w' g v0 v1 :=
 ⟨Nat.lt_of_lt_of_le h.lt hz, (cell_blk e).trans h.c0, (cell_blk e).trans h.c1, (froz_blk e).trans h.f0, (froz_blk e).trans h.f1⟩
theorem FilC.set2 {w : World} {g : Nat} {k : Int} {ks : Bool} {rows per : Int} {vb vf : Value} (h : FilC w g k ks rows per vb vf) (r : Int) : FilC (w.setCell ⟨g, 2, none⟩ (.int .i64 r)) g k ks r per vb vf := by
 have ne : ∀ i, i ≠ 2 → (w.setCell ⟨g, 2, none⟩ (.int .i64 r)).cell? ⟨g, i, none⟩ = w.cell? ⟨g, i, none⟩ := fun i hi => World.cell?_setCell_other _ _ _ _ (fun e => hi (by injection e with _ e2 _; exact e2.symm))
 exact ⟨by simp [World.setCell]; exact h.lt, (ne 0 (by decide)).trans h.c0, (ne 1 (by decide)).trans h.c1, World.cell?_setCell_same _ _ _ h.c2, (ne 3 (by decide)).trans h.c3, (ne 4 (by decide)).trans h.c4, (ne 5 (by decide)).trans h.c5, fun i => by rw [World.frozen?_setCell]; exact h.fr i⟩
theorem FilC.set3 {w : World} {g : Nat} {k : Int} {ks : Bool} {rows per : Int} {vb vf : Value} (h : FilC w g k ks rows per vb vf) (r : Int) : FilC (w.setCell ⟨g, 3, none⟩ (.int .i64 r)) g k ks rows r vb vf := by
 have ne : ∀ i, i ≠ 3 → (w.setCell ⟨g, 3, none⟩ (.int .i64 r)).cell? ⟨g, i, none⟩ = w.cell? ⟨g, i, none⟩ := fun i hi => World.cell?_setCell_other _ _ _ _ (fun e => hi (by injection e with _ e2 _; exact e2.symm))
 exact ⟨by simp [World.setCell]; exact h.lt, (ne 0 (by decide)).trans h.c0, (ne 1 (by decide)).trans h.c1, (ne 2 (by decide)).trans h.c2, World.cell?_setCell_same _ _ _ h.c3, (ne 4 (by decide)).trans h.c4, (ne 5 (by decide)).trans h.c5, fun i => by rw [World.frozen?_setCell]; exact h.fr i⟩
theorem FilC.set4 {w : World} {g : Nat} {k : Int} {ks : Bool} {rows per : Int} {vb vf : Value} (h : FilC w g k ks rows per vb vf) (v : Value) : FilC (w.setCell ⟨g, 4, none⟩ v) g k ks rows per v vf := by
 have ne : ∀ i, i ≠ 4 → (w.setCell ⟨g, 4, none⟩ v).cell? ⟨g, i, none⟩ = w.cell? ⟨g, i, none⟩ := fun i hi => World.cell?_setCell_other _ _ _ _ (fun e => hi (by injection e with _ e2 _; exact e2.symm))
 exact ⟨by simp [World.setCell]; exact h.lt, (ne 0 (by decide)).trans h.c0, (ne 1 (by decide)).trans h.c1, (ne 2 (by decide)).trans h.c2, (ne 3 (by decide)).trans h.c3, World.cell?_setCell_same _ _ _ h.c4, (ne 5 (by decide)).trans h.c5, fun i => by rw [World.frozen?_setCell]; exact h.fr i⟩
theorem FilC.set5 {w : World} {g : Nat} {k : Int} {ks : Bool} {rows per : Int} {vb vf : Value} (h : FilC w g k ks rows per vb vf) (v : Value) : FilC (w.setCell ⟨g, 5, none⟩ v) g k ks rows per vb v := by
 have ne : ∀ i, i ≠ 5 → (w.setCell ⟨g, 5, none⟩ v).cell? ⟨g, i, none⟩ = w.cell? ⟨g, i, none⟩ := fun i hi => World.cell?_setCell_other _ _ _ _ (fun e => hi (by injection e with _ e2 _; exact e2.symm))
 exact ⟨by simp [World.setCell]; exact h.lt, (ne 0 (by decide)).trans h.c0, (ne 1 (by decide)).trans h.c1, (ne 2 (by decide)).trans h.c2, (ne 3 (by decide)).trans h.c3, (ne 4 (by decide)).trans h.c4, World.cell?_setCell_same _ _ _ h.c5, fun i => by rw [World.frozen?_setCell]; exact h.fr i⟩
theorem run_push1 {P : Program} {w : World} (e t ty : TypeId) (z : Value) (bytes : Nat) (ht : P.underlying t = some (.slice e)) (hi : (P.info? e).map (fun i => (i.zero, i.size, i.bytes)) = some (some z, 1, bytes)) (hzs : z.cells.size = 1)
   {base : Nat} {A : Option Addr} {c : Nat} {vs : List Value} (v : Value) (hv1 : v.oneCell' = true) (n : Nat) (hn : vs.length = n) (hown : w.ownsRow base e 1 (.slice A n c) n vs) {g0 : Nat} (hg0 : w.heap[g0]? = some (.cells #[v] e))
   (hlen : ((n + 1) + (n + 1) / 4 + 192) * bytes ≤ 281474976710656) (hby : 0 < bytes) (hbase : base ≤ w.heap.size) :
   ∃ A' c' w', (Builtin.append_ #[t, t] ty #[.slice A n c, .slice (some ⟨g0, 0, none⟩) 1 1]).run P w = .ok (.slice A' (n + 1) c') w' ∧
     w'.ownsRow base e 1 (.slice A' (n + 1) c') (n + 1) (vs ++ [v]) ∧ (A' = A ∧ w.grownBy w' (A.map (·.block)) ∨ Ext w w' ∧ ∀ q, A' = some q → w.heap.size ≤ q.block) ∧ base ≤ w'.heap.size := by
 subst hn
 obtain ⟨i, hi0, hz, hsz, hbs⟩ := info_parts hi
 have hle : vs.length + 1 ≤ 281474976710656 := Nat.le_trans (Nat.le_trans (by omega) (Nat.le_mul_of_pos_right ((vs.length + 1) + (vs.length + 1) / 4 + 192) hby)) hlen
 have hcell : ∀ j u, [v][j]? = some u → w.cell? ((⟨g0, 0, none⟩ : Addr).add j) = some u := by
   intro j u hj
   match j, hj with
   | 0, hj =>
     simp at hj
     subst hj
     have := cell_of_row w g0 0 _ _ (0, 0) hg0
     simpa [Addr.add] using this
 have h1 : ∀ u ∈ [v], u.oneCell' = true := by intro u hu; simp at hu; subst hu; exact hv1
 have hlen2 : (vs ++ [v]).length = vs.length + 1 := by simp
 have hnew : ∀ (cap : Nat) (cur : Array Value), vs.length + 1 ≤ cap → cap ≤ maxLen → cur.size = cap * 1 → cur.toList.take (vs.length + 1) = vs ++ [v] →
     (w.drew.alloc (.cells cur e)).ownsRow base e 1 (.slice (some ⟨w.heap.size, 0, none⟩) (vs.length + 1) cap) (vs.length + 1) (vs ++ [v]) ∧ Ext w (w.drew.alloc (.cells cur e)) := by
   intro cap cur hc hm hcs htk
   exact ⟨⟨by simp, .inr ⟨w.heap.size, cap, cur, rfl, hbase, heap_alloc_new w.drew _, hc, hm, hcs, by rw [Nat.mul_one]; exact htk⟩⟩, (Ext.refl w).drew.alloc _⟩
 rcases hown.2 with ⟨hv, h0⟩ | ⟨g, cap, cur, hv, hbg, hh, hnc, hcm, hcs, htake⟩
 · injection hv with hA hl hc
   subst hA
   subst hc
   have hx0 : vs = [] := List.eq_nil_of_length_eq_zero h0
   subst hx0
   have hr := run_append_nil (P := P) w t ty e i z ht hi0 hz ⟨g0, 0, none⟩ 1 1 [v] (by simp [hsz]) hcell (by omega) (by omega) (by rw [hbs]; simp at hlen; omega)
   have hge := grownCap_ge w 1 0 e
   obtain ⟨ho1, he1⟩ := hnew (grownCap w 1 0 e) ([v].toArray ++ Builtin.zeroCells z.cells (grownCap w 1 0 e - 1)) (by simpa using hge) (grownCap_le_maxLen w 1 0 e (by simp [maxLen])) (by simp only [Array.size_append, List.size_toArray, size_zeroCells, hzs, List.length_singleton]; omega) (by simp)
   exact ⟨_, _, _, by simpa using hr, ho1, .inr ⟨he1, fun q hq => by injection hq with hq; subst hq; exact Nat.le_refl _⟩, Nat.le_trans hbase he1.size⟩
 · injection hv with hA hl hc
   subst hA
   subst hc
   by_cases hroom : vs.length + 1 ≤ c
   · have hr := run_append_room (P := P) w t ty e i ht hi0 g vs.length c cur hh ⟨g0, 0, none⟩ 1 1 [v] (by simp [hsz]) hcell h1 hroom (by rw [hsz, hcs]; simp; omega)
     refine ⟨_, _, _, hr, ⟨by simp, .inr ⟨g, c, _, rfl, hbg, setRow_heap w g cur _ e _ hh, hroom, hcm, ?_, ?_⟩⟩, .inl ⟨rfl, ?_⟩, ?_⟩
     · simp only [List.size_toArray, List.length_append, List.length_take, List.length_drop, Array.length_toList, hsz, List.length_singleton]
       omega
     · rw [hsz, htake, Nat.mul_one]
       have : (vs ++ [v]).length = vs.length + 1 := by simp
       rw [← this]
       exact List.take_left
     · exact ⟨rfl, rfl, rfl, by simp, fun j hj hne => setRow_other w g j _ (fun e => hne (by simp [e]))⟩
     · simp; omega
   · have holds : ∀ j u, vs[j]? = some u → w.cell? ((⟨g, 0, none⟩ : Addr).add j) = some u := World.ownsRow.cells hown (g := g) rfl
     have hr := run_append_grow (P := P) w t ty e i z ht hi0 hz ⟨g, 0, none⟩ vs.length c _ (by rw [hsz]; simp) holds ⟨g0, 0, none⟩ 1 1 [v] (by simp [hsz]) hcell (by omega) (by omega) (growslice_fits_wide (by omega) (by rw [hbs]; exact hlen))
     have hge := grownCap_ge w (vs.length + 1) c e
     obtain ⟨ho1, he1⟩ := hnew (grownCap w (vs.length + 1) c e) (vs.toArray ++ [v].toArray ++ Builtin.zeroCells z.cells (grownCap w (vs.length + 1) c e - (vs.length + 1))) hge (grownCap_le_maxLen w _ _ e (by unfold maxLen; omega)) (by simp only [Array.size_append, List.size_toArray, size_zeroCells, hzs, List.length_singleton]; omega) (by
         simp only [Array.toList_append, List.append_assoc]
         rw [← List.append_assoc, ← hlen2]
         exact List.take_left)
     exact ⟨_, _, _, hr, ho1, .inr ⟨he1, fun q hq => by injection hq with hq; subst hq; exact Nat.le_refl _⟩, Nat.le_trans hbase he1.size⟩
theorem Ext.toGrown {w w' : World} (h : Ext w w') (r : Option Nat) : w.grownBy w' r := ⟨h.os, h.tape, h.output, h.size, fun j hj _ => h.block j hj⟩
theorem Ext.grownB {w0 w w' : World} {r : Option Nat} (h : Ext w0 w) (hg : w.grownBy w' r) (hr : ∀ b, r = some b → w0.heap.size ≤ b) : Ext w0 w' := Below.grown h hg h.size hr
theorem FilC.grownR {w w' : World} {g : Nat} {r : Option Nat} {k : Int} {ks : Bool} {rows per : Int} {vb vf : Value} (h : FilC w g k ks rows per vb vf) (hg : w.grownBy w' r) (hr : r ≠ some g) : FilC w' g k ks rows per vb vf :=
 h.blk hg.size (hg.block g h.lt (fun e => hr e.symm))
theorem RdrC.grownR {w w' : World} {g : Nat} {r : Option Nat} {v0 v1 : Value} (h : RdrC w g v0 v1) (hg : w.grownBy w' r) (hr : r ≠ some g) : RdrC w' g v0 v1 :=
 h.blk hg.size (hg.block g h.lt (fun e => hr e.symm))
theorem Rd.grownR {w w' : World} {A : Option Addr} {n : Nat} {r : Option Nat} {bs : List Nat} (h : Rd .u8 w A n bs) (hg : w.grownBy w' r) (hA : ∀ p, A = some p → r ≠ some p.block) : Rd .u8 w' A n bs :=
 ⟨h.1, fun h0 => by
   obtain ⟨c, o, e, hc, hcell⟩ := h.2 h0
   refine ⟨c, o, e, Nat.lt_of_lt_of_le hc hg.size, fun j hj => ?_⟩
   rw [cell_blk (hg.block c hc (fun q => hA _ e q.symm))]
   exact hcell j hj⟩
theorem OwnS.grownR {w w' : World} {base c : Nat} {A : Option Addr} {ss : List Sl} {r : Option Nat} (h : OwnS w base A c ss) (hg : w.grownBy w' r) (hA : ∀ p, A = some p → r ≠ some p.block) : OwnS w' base A c ss := by
 refine World.ownsRow.kept h hg ?_
 cases A with
 | none => exact Or.inl rfl
 | some a => exact Or.inr (fun e => hA a rfl e.symm)
theorem OwnS.nil (w : World) (base : Nat) : OwnS w base none 0 [] := World.ownsRow_nil w base _ 1
structure Rdr (w : World) (g : Nat) (A0 : Option Addr) (rest : List Nat) (f : Bool) : Prop where
 ex : ∃ A c, RdrC w g (.slice A rest.length c) (.bool f) ∧ Rd .u8 w A rest.length rest ∧ rest.length ≤ c ∧ c ≤ 9223372036854775807 ∧ ∀ p', A = some p' → ∃ p, A0 = some p ∧ p'.block = p.block
theorem Rdr.grownR {w w' : World} {g : Nat} {r : Option Nat} {A0 : Option Addr} {rest : List Nat} {f : Bool} (h : Rdr w g A0 rest f) (hg : w.grownBy w' r) (hr : r ≠ some g) (hA : ∀ p, A0 = some p → r ≠ some p.block) : Rdr w' g A0 rest f := by
 obtain ⟨A, c, h1, h2, h3, h4, h5⟩ := h.ex
 refine ⟨A, c, h1.grownR hg hr, h2.grownR hg (fun p' hp' e => ?_), h3, h4, h5⟩
 obtain ⟨p, q1, q2⟩ := h5 p' hp'
 exact hA p q1 (by rw [← q2]; exact e)
theorem Rdr.num {w : World} {g : Nat} {A0 : Option Addr} {rest : List Nat} {f : Bool} (h : Rdr w g A0 rest f) (hA0 : ∀ p, A0 = some p → p.block ≠ g) (hu : U8 rest) (hn : rest.length ≤ 140737488355328) (most : Nat) (mi : Int) (hmi : mi = (most : Int)) (hm : most ≤ 1000000) :
   Calls Tryz.prog 98 #[.pointer (some ⟨g, 0, none⟩), .int .i64 mi] w fun e w' => e = .returned (.int .i64 ((numR rest f most).1 : Int)) ∧ Rdr w' g A0 (numR rest f most).2.1 (numR rest f most).2.2 ∧ w.grownBy w' (some g) := by
 subst hmi
 obtain ⟨A, c, h1, h2, h3, h4, h5⟩ := h.ex
 refine (numC_any g A rest.length c rest f most w h1 h2 h3 h4 (fun p' hp' => ?_) hu hn hm).mono ?_
 · obtain ⟨p, q1, q2⟩ := h5 p' hp'
   rw [q2]
   exact hA0 p q1
 · rintro e w' ⟨rfl, v', r1, r2, r3, r4⟩
   refine ⟨rfl, ?_, r4⟩
   obtain ⟨A', c', rfl, s1, s2, s3⟩ := r2.ex
   refine ⟨A', c', r1, s1, s2, s3, fun p' hp' => ?_⟩
   obtain ⟨q, q1, q2⟩ := r3 A' _ c' rfl p' hp'
   obtain ⟨p, p1, p2⟩ := h5 q q1
   exact ⟨p, p1, q2.trans p2⟩
theorem Rdr.byt {w : World} {g : Nat} {A0 : Option Addr} {rest : List Nat} {f : Bool} (h : Rdr w g A0 rest f) (hA0 : ∀ p, A0 = some p → p.block ≠ g) (hn : rest.length ≤ 140737488355328) (m : Nat) (hm : m ≤ 1000000) :
   Calls Tryz.prog 101 #[.pointer (some ⟨g, 0, none⟩), .int .i64 (m : Int)] w fun e w' => ∃ s : Sl, e = .returned s.v ∧ s.body = (bytR rest f m).1 ∧ Rd .u8 w' s.A s.body.length s.body ∧ s.body.length ≤ s.c ∧ s.c ≤ 9223372036854775807 ∧ (∀ p', s.A = some p' → ∃ p, A0 = some p ∧ p'.block = p.block) ∧
     Rdr w' g A0 (bytR rest f m).2.1 (bytR rest f m).2.2 ∧ w.grownBy w' (some g) := by
 obtain ⟨A, c, h1, h2, h3, h4, h5⟩ := h.ex
 refine (bytC_any g A rest.length c rest f m w h1 h2 h3 h4 (fun p' hp' => ?_) hn hm).mono ?_
 · obtain ⟨p, q1, q2⟩ := h5 p' hp'
   rw [q2]
   exact hA0 p q1
 · rintro e w' ⟨A1, c1, rfl, t1, t2, t3, t4, v', r1, r2, r3, r4⟩
   refine ⟨⟨A1, c1, (bytR rest f m).1⟩, rfl, rfl, t4, t1, t2, fun p' hp' => ?_, ?_, r4⟩
   · rcases t3 with rfl | rfl
     · cases hp'
     · exact h5 p' hp'
   · obtain ⟨A', c', rfl, s1, s2, s3⟩ := r2.ex
     refine ⟨A', c', r1, s1, s2, s3, fun p' hp' => ?_⟩
     obtain ⟨q, q1, q2⟩ := r3 A' _ c' rfl p' hp'
     obtain ⟨p, p1, p2⟩ := h5 q q1
     exact ⟨p, p1, q2.trans p2⟩
theorem wp_pushS {w : World} {o : Oper} {a : Act} {K : Act → World → Prop} {Q : Exit → Act → World → Prop} (f : Sl) (s y : Operand)
   (ho : o.op = .call { callee := .builtin .append, args := #[s, y], argTypes := #[33, 33] })
   {base : Nat} {A : Option Addr} {c : Nat} {ss : List Sl} (hown : OwnS w base A c ss) (n : Nat) (hn : ss.length = n) (hs : a.eval s = .slice A n c)
   {g : Nat} (hy : a.eval y = .slice (some ⟨g, 0, none⟩) 1 1) (hg : w.heap[g]? = some (.cells #[.slice f.A f.body.length f.c] 22))
   (hlen : n ≤ 1048576) (hbase : base ≤ w.heap.size)
   (h : ∀ A' c' w', OwnS w' base A' c' (ss ++ [f]) → w.grownBy w' (A.map (·.block)) → (∀ q, A' = some q → w.heap.size ≤ q.block ∨ A' = A) → base ≤ w'.heap.size → K (a.put o.dst (.slice A' (n + 1) c')) w') :
   Oper.wp Tryz.prog o a w K Q := by
 have hml : (ss.map Sl.v).length = n := by rw [List.length_map, hn]
 obtain ⟨A', c', w', hr, h2, h3, h4⟩ := run_push1 (P := Tryz.prog) (w := w) 22 33 o.type _ 24 Tryz.underlying33 Tryz.infoS rfl (.slice f.A f.body.length f.c) rfl n hml (by have := hown; unfold OwnS at this; rw [hn] at this; exact this) hg (by omega) (by omega) hbase
 unfold Oper.wp execOp
 simp only [ho, resolve, invoke, builtin, Sem.run_bind, Sem.run_pure, Result.andThen_ok, List.map_toArray, List.map_cons, List.map_nil, hs, hy, hr]
 refine h A' c' w' ?_ ?_ ?_ h4
 · unfold OwnS
   rw [List.length_append, List.length_singleton, hn, List.map_append]
   exact h2
 · rcases h3 with ⟨_, q⟩ | ⟨q, _⟩
   · exact q
   · exact Ext.toGrown q _
 · intro q hq
   rcases h3 with ⟨e, _⟩ | ⟨_, e⟩
   · exact .inr e
   · exact .inl (e q hq)
theorem froz_row {w : World} {g i : Nat} {cs : Array Value} {T : TypeId} (h : w.heap[g]? = some (.cells cs T)) : w.frozen? ⟨g, i, none⟩ = false := by
 unfold World.frozen?
 rw [h]
 rfl
theorem RdrC.made (w : World) (v0 v1 : Value) (T : TypeId) : RdrC (w.alloc (.cells #[v0, v1] T)) w.heap.size v0 v1 := by
 have h := heap_alloc_new w (.cells #[v0, v1] T)
 exact ⟨(Array.getElem?_eq_some_iff.1 h).1, cell_of_row _ _ 0 _ _ (0, 0) h, cell_of_row _ _ 1 _ _ (0, 0) h, froz_row h, froz_row h⟩
theorem FilC.made (w : World) (k : Int) (ks : Bool) (rows per : Int) (vb vf : Value) (T : TypeId) : FilC (w.alloc (.cells #[.int .i64 k, .bool ks, .int .i64 rows, .int .i64 per, vb, vf] T)) w.heap.size k ks rows per vb vf := by
 have h := heap_alloc_new w (.cells #[.int .i64 k, .bool ks, .int .i64 rows, .int .i64 per, vb, vf] T)
 exact ⟨(Array.getElem?_eq_some_iff.1 h).1, cell_of_row _ _ 0 _ _ (0, 0) h, cell_of_row _ _ 1 _ _ (0, 0) h, cell_of_row _ _ 2 _ _ (0, 0) h, cell_of_row _ _ 3 _ _ (0, 0) h, cell_of_row _ _ 4 _ _ (0, 0) h, cell_of_row _ _ 5 _ _ (0, 0) h, fun i => froz_row h⟩
structure FilOwn (w : World) (base g : Nat) (f : FlM) : Prop where
 lo : base ≤ g
 ex : ∃ (Ab : Option Addr) (cb : Nat) (Af : Option Addr) (cf : Nat) (bs fs : List Sl), FilC w g (f.k : Int) f.ks (f.rows : Int) (f.per : Int) (.slice Ab f.bs.length cb) (.slice Af f.fs.length cf) ∧ OwnS w base Ab cb bs ∧ OwnS w base Af cf fs ∧ bs.map Sl.body = f.bs ∧ fs.map Sl.body = f.fs ∧
   (∀ s ∈ bs, Rd .u8 w s.A s.body.length s.body ∧ s.body.length ≤ s.c ∧ s.c ≤ 9223372036854775807) ∧ (∀ s ∈ fs, Rd .u8 w s.A s.body.length s.body ∧ s.body.length ≤ s.c ∧ s.c ≤ 9223372036854775807)
def ToldPost (R : Option FlM) (w : World) (e : Ending) (w' : World) : Prop :=
 Ext w w' ∧ ((R = none ∧ e = .returned (.tuple #[.pointer none, .bool false])) ∨ ∃ f g, R = some f ∧ e = .returned (.tuple #[.pointer (some ⟨g, 0, none⟩), .bool true]) ∧ FilOwn w' w.heap.size g f)
set_option maxHeartbeats 800000 in
theorem told_short (A : Option Addr) (n c : Nat) (foot : List Nat) (B : Option Addr) (m d : Nat) (w : World) (hx : Rd .u8 w A n foot) (hu : U8 foot) (h : foot.length < 2 ∨ 1 < foot.getD 1 0) :
   Calls Tryz.prog 60 #[.slice A n c, .slice B m d] w fun e w' => e = .returned (.tuple #[.pointer none, .bool false]) ∧ w = w' := by
 have hl := hx.len
 rw [hl] at h
 by_cases h2 : n < 2
 · have hI : (n : Int) < 2 := by omega
   clear h hx hu hl
   go_enter Tryz.func60, Tryz.ntmps60
   go_wp2_with fail
   go_ret2
   exact ⟨rfl, rfl⟩
 · have hI : ¬ (n : Int) < 2 := by omega
   obtain ⟨b, o, hA, hbl, hc⟩ := hx.at_ (show 1 < n by omega)
   have hv8 := hu.at_ 1
   obtain ⟨v, hv⟩ : ∃ v, v = foot.getD 1 0 := ⟨_, rfl⟩
   rw [← hv] at hc hv8 h
   have h1 : (1 : Int) < (v : Int) := by omega
   subst hA
   clear h hx hu hl hv h2
   go_enter Tryz.func60, Tryz.ntmps60
   go_wp2_with fail
   go_ret2
   exact ⟨rfl, rfl⟩
end Go.Proofs.YthibbgmicmfkfaaGreat
