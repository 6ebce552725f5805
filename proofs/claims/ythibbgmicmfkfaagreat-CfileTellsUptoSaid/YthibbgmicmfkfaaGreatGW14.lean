import Derived.Test.YthibbgmicmfkfaaGreatGW13
namespace Go.Proofs.YthibbgmicmfkfaaGreat
open Go.RowKit
set_option maxRecDepth 100000
theorem wdt_one' (v : Nat) : wdt [v] = bl v := by simp [wdt]
theorem rd_zs {w : World} {A : Option Addr} {n : Nat} {ns : List Nat} (h : RdG shZ w A n (zs ns)) : Rd .i64 w A n ns := by
 refine ⟨by rw [← h.1, zs_len], fun hn => ?_⟩
 obtain ⟨b, o, rfl, hb, hc⟩ := h.2 hn
 refine ⟨b, o, rfl, hb, fun j hj => ?_⟩
 have hjl : j < ns.length := by have := h.1; rw [zs_len] at this; omega
 have h1 := hc j (ns[j] : Int) (by unfold zs; rw [List.getElem?_map, List.getElem?_eq_getElem hjl]; rfl) 0 (.int .i64 (ns[j] : Int)) rfl
 rw [show o + j * shZ.sz + 0 = o + j from by show o + j * 1 + 0 = o + j; omega] at h1
 rw [h1]
 simp [List.getD, hjl]
theorem refWidth10_any (n : Nat) (w : World) (hn : n ≤ 1000000) :
   Calls Tryz.prog 126 #[.int .i64 (n : Int)] w fun e w' => e = .returned (.int .i64 (wfor n)) ∧ Ext w w' := by
 by_cases h : n = 0
 · subst h
   go_enter Tryz.func126, Tryz.ntmps126
   go_wp2
   go_ret
   exact ⟨rfl, Ext.refl w⟩
 · obtain ⟨m, rfl⟩ : ∃ m, n = m + 1 := ⟨n - 1, by omega⟩
   have HW := Lib.hid (show wfor (m + 1) = bl m by unfold wfor; rw [if_neg h, Nat.add_sub_cancel])
   have hz : (((m : Int) + 1) == 0) = false := by rw [beq_eq_false_iff_ne]; omega
   clear h
   go_enter Tryz.func126, Tryz.ntmps126
   go_wp2_with fail
   refine (refWidth_any _ 1 1 [m] _ (Rd.lit_at .u64 69 w [m] rfl rfl) (by intro v hv; simp at hv; omega) (by omega)).mono ?_
   rintro e w1 ⟨rfl, rfl⟩
   rw [wdt_one', ← HW.out]
   go_wp2_with fail
   go_ret
   exact ⟨rfl, (Ext.refl w).alloc _⟩
set_option maxHeartbeats 1600000 in
theorem refDencode_any (A : Option Addr) (n c : Nat) (ss : List Sl) (w : World) (hx : TxL w A n ss) (hn : n ≤ 140737488355328) :
   Calls Tryz.prog 199 #[.slice A n c] w (PEncPost (dencR (bodies ss)) w) := by
 have HI := Lib.hid (refIndex_any A n c ss w hx hn)
 have hbl : (bodies ss).length = n := by rw [bodies_len, hx.len]
 by_cases hbad : 4096 < (bodies ss).length ∨ anyLong (bodies ss) = true
 · have HR := Lib.hid (dencR_bad hbad)
   rw [idxR_bad hbad] at HI
   clear hbad hx hbl
   go_enter Tryz.func199, Tryz.ntmps199
   go_wp2_with fail
   refine HI.out.mono ?_
   rintro e w1 ⟨A1, c1, us, B, cB, rfl, hb, _, _, he1⟩
   simp only at hb ⊢
   rw [show us.length = 0 by rw [← bodies_len, hb]; rfl, show ([] : List Nat).length = 0 from rfl]
   clear hb
   go_wp2_with fail
   go_ret2
   exact PEncPost.bad _ HR.out he1
 · have hgn : (bodies ss).length ≤ 4096 := by
     rcases Nat.lt_or_ge 4096 (bodies ss).length with q | q
     · exact absurd (.inl q) hbad
     · exact q
   have hgl : anyLong (bodies ss) = false := by
     cases q : anyLong (bodies ss) with
     | true => exact absurd (.inr q) hbad
     | false => rfl
   have HR := Lib.hid (dencR_good hgn hgl)
   rw [idxR_good hgn hgl, show (bodies ss).map (fun s => skN s (dents (bodies ss))) = dcodes (bodies ss) from rfl] at HI
   have hdl := denc_len hgn hgl
   have hLn := dents_len _ (bodies ss) rfl
   have hns := dcodes_lt (ss := bodies ss)
   have hcl := dcodes_len (bodies ss)
   have hshort := dents_short hgl
   obtain ⟨hp1, hp2⟩ := pack_good (by omega) (by omega) hns
   obtain ⟨L, hL⟩ : ∃ L, L = dents (bodies ss) := ⟨_, rfl⟩
   obtain ⟨ns, hnse⟩ : ∃ ns, ns = dcodes (bodies ss) := ⟨_, rfl⟩
   have hden : denc (bodies ss) = (vput L.length ++ entB L) ++ (vput ns.length ++ packB (wfor L.length) ns) := by rw [hL, hnse]; rfl
   rw [← hL] at HI hLn hns hp1 hp2 hshort
   rw [← hnse] at HI hns hp1 hp2 hcl
   obtain ⟨V, hV⟩ : ∃ V, V = denc (bodies ss) := ⟨_, rfl⟩
   rw [← hV] at HR hdl hden
   obtain ⟨m, hm⟩ : ∃ m, m = L.length := ⟨_, rfl⟩
   obtain ⟨k, hk⟩ : ∃ k, k = ns.length := ⟨_, rfl⟩
   rw [← hm] at hns hp1 hp2 hden hLn
   rw [← hk] at hden hcl
   have hVl := hdl
   rw [hden] at hVl
   simp only [List.length_append] at hVl
   have Hden := Lib.hid hden
   have Hm := Lib.hid hm
   have Hk := Lib.hid hk
   have Hp1 := Lib.hid hp1
   have Hp2 := Lib.hid hp2
   have Hns := Lib.hid (show ∀ v ∈ ns, v ≤ 1000000 from fun v h => by have := hns v h; omega)
   have HnsU := Lib.hid (show U64 ns from fun v h => by have := hns v h; omega)
   have Hshort := Lib.hid hshort
   have hm4 : m ≤ 4096 := by omega
   have hk4 : k ≤ 4096 := by omega
   obtain ⟨E, hE⟩ : ∃ E, E = vput m ++ entB L := ⟨_, rfl⟩
   have hEl : E.length ≤ 1000000 := by rw [hE, List.length_append]; omega
   have HE0 := Lib.hid hE
   obtain ⟨pl, hpl⟩ : ∃ pl, (packB (wfor m) ns).length = pl := ⟨_, rfl⟩
   have Hpl := Lib.hid hpl
   have hpl6 : pl ≤ 1000000 := by rw [← hpl]; omega
   clear hbad hx hbl hL hnse hden hV hm hk hp1 hp2 hns hshort hgn hgl hLn hcl hVl hE hpl
   go_enter Tryz.func199, Tryz.ntmps199
   go_wp2_with fail
   refine HI.out.mono ?_
   rintro e w1 ⟨A1, c1, us, B, cB, rfl, hb, hen, hnum, he1⟩
   simp only at hb hnum ⊢
   have hul : us.length = m := by rw [Hm.out, ← hb, bodies_len]
   rw [hul] at hen ⊢
   rw [← Hk.out]
   have hnr := rd_zs (hnum.rd' (n := k) (by rw [zs_len]; exact Hk.out.symm))
   have Hen := Lib.hid hen
   have Hb := Lib.hid hb
   have Hul := Lib.hid hul
   clear hb hen hul hnum
   go_wp2_with fail
   refine (refPut_any m _ (by omega)).mono ?_
   rintro e w2 ⟨A2, c2, rfl, hown2, he2⟩
   have HP0 := Lib.hid (show vput m ++ entB ((bodies us).drop 0) = E by rw [HE0.out, Hb.out]; rfl)
   go_wp2_with fail
   go_loopw [7, 8] (fun v i wr => ∃ (j : Nat) (P : List Nat) (A' : Option Addr) (c' : Nat), j ≤ m ∧ i = .int .i64 j ∧ v = .slice A' P.length c' ∧ Hid (P ++ entB ((bodies us).drop j) = E) ∧ Own .u8 5 wr w1.heap.size A' c' P ∧ Ext w1 wr) (fun _ i _ => m - (intOf i).toNat)
   case atStart => exact ⟨0, _, A2, c2, Nat.zero_le _, rfl, rfl, HP0.out, hown2, he2⟩
   case round =>
     clear HP0 hown2 he2
     obtain ⟨j, P, A', c', hj, rfl, rfl, HP, hown, he⟩ := hrel
     by_cases hlt : j < m
     · obtain ⟨b, o, s, rfl, hf, hc0⟩ := Hen.out.rd.at_ hlt
       have blt := World.block_lt_of_cell? _ _ hc0
       have hst := entB_step (bodies_at hf)
       have hmem := List.mem_of_getElem? hf
       have hsl := Hshort.out s.body (by rw [← Hb.out]; exact List.mem_map.2 ⟨s, hmem, rfl⟩)
       have hrs := (Hen.out.own s hmem).rd
       obtain ⟨sA, sc, body⟩ := s
       simp only at hc0 hsl hst hrs
       have hPl : P.length ≤ 1000000 := by rw [← HP.out, List.length_append] at hEl; omega
       have hN : (P ++ vput body.length ++ body) ++ entB ((bodies us).drop (j + 1)) = E := by
         rw [← HP.out, hst]
         simp
       have HN := Lib.hid hN
       obtain ⟨bl2, hm⟩ : ∃ bl2, bl2 = body.length := ⟨_, rfl⟩
       rw [← hm] at hc0 hsl hrs HN
       have Hm2 := Lib.hid hm
       have Hrs := Lib.hid hrs
       have Hc := Lib.hid (fun (W : World) (hW : Ext w1 W) => (Below.cell hW (p := ⟨b, o + j, none⟩) blt).trans hc0)
       have hc := Hc.out wr he
       clear hN hst hf hm hrs HP hc0 hmem
       go_wp2_with fail
       refine (refPut_any bl2 _ (by omega)).mono ?_
       rintro e w4 ⟨A4, c4, rfl, hown4, he4⟩
       have hv1 := vput_le (u := bl2) (by omega)
       go_wp2_with fail
       refine (cat_any _ _ _ _ _ _ P (vput bl2) _ ((hown.ext he4).rd) hown4.rd (by omega)).mono ?_
       rintro e w5 ⟨A5, c5, rfl, hown5, he5⟩
       have hE5 := (he.trans he4).trans he5
       have hL5 : (P ++ vput bl2).length = P.length + (vput bl2).length := List.length_append
       have hc5 := Hc.out w5 hE5
       go_wp2_with fail
       refine (cat_any _ _ _ _ _ _ (P ++ vput bl2) body _ (hown5.rd' hL5) (Hrs.out.ext hE5) (by omega)).mono ?_
       rintro e w6 ⟨A6, c6, rfl, hown6, he6⟩
       have hown7 := hown6.mono (base' := w1.heap.size) hE5.size
       have hE6 := hE5.trans he6
       clear hown5 hown6 hc hc5
       go_wp2_with fail
       go_roundw
       case rel => exact ⟨j + 1, _, A6, c6, by omega, by go_num, by rw [List.length_append, List.length_append, ← Hm2.out], HN.out, hown7, hE6⟩
       case measure => simp [intOf]; omega
     · obtain rfl : m = j := by omega
       have hfin := Lib.hid (show P = E by rw [← HP.out, List.drop_of_length_le (by rw [bodies_len, Hul.out]; exact Nat.le_refl _)]; simp [entB])
       have hownE := hown.rd
       rw [hfin.out] at hownE ⊢
       obtain ⟨el, hel⟩ : ∃ el, E.length = el := ⟨_, rfl⟩
       rw [hel] at hownE hEl ⊢
       have Hel := Lib.hid hel
       obtain ⟨W1, hW1⟩ : ∃ W1, W1 = wr := ⟨_, rfl⟩
       rw [← hW1] at hownE he ⊢
       clear HP hown hel hW1
       go_wp2_with fail
       go_loopw [9, 10] (fun v i wx => ∃ (q : Nat) (B' : Option Addr) (cB' : Nat), q ≤ k ∧ i = .int .i64 q ∧ v = .slice B' q cB' ∧ Hid (Own .u64 69 wx W1.heap.size B' cB' (ns.take q)) ∧ Hid (Ext W1 wx)) (fun _ i _ => k - (intOf i).toNat)
       case atStart => exact ⟨0, _, _, Nat.zero_le _, rfl, rfl, Own.made _ _ _ (Nat.le_refl _), (Ext.refl _).alloc _⟩
       case round =>
         obtain ⟨q, B', cB', hq, rfl, rfl, HO, HEx⟩ := hrel
         by_cases hlt2 : q < k
         · obtain ⟨b, o, rfl, hbb, hc⟩ := (hnr.ext (he.trans HEx.out)).at_ hlt2
           have hvs : ns[q]? = some (ns.getD q 0) := by simp [List.getD, show q < ns.length by rw [← Hk.out]; exact hlt2]
           have hv := Hns.out _ (List.mem_of_getElem? hvs)
           have htk : ns.take (q + 1) = ns.take q ++ [ns.getD q 0] := take_nextG ns q hvs
           obtain ⟨f, hfv⟩ : ∃ f, f = ns.getD q 0 := ⟨_, rfl⟩
           rw [← hfv] at hc hv htk
           have hlq : (ns.take q).length = q := by rw [List.length_take, ← Hk.out]; omega
           have Htk := Lib.hid htk
           have Hlq := Lib.hid hlq
           clear hvs hfv htk hlq
           go_wp2_with (at_builtin; refine wpList_push .u64 f 69 rfl _ _ 72 rfl _ 8 Tryz.underlying72 Tryz.infoU64 rfl HO.out q Hlq.out rfl rfl rfl (by omega) (by omega) HEx.out HEx.out.size ?_; intro A4 c4 w4 hown4 hb4 hz4)
           rw [← Htk.out] at hown4
           have HO4 := Lib.hid hown4
           have HE4 := Lib.hid (show Ext W1 w4 from hb4)
           clear hown4 hb4 hz4
           go_wp2_with fail
           go_roundw
           case rel => exact ⟨q + 1, A4, c4, by omega, by go_num, rfl, HO4.out, HE4.out⟩
           case measure => simp [intOf]; omega
         · obtain rfl : k = q := by omega
           have hO := HO.out
           rw [List.take_of_length_le (by rw [← Hk.out]; exact Nat.le_refl _)] at hO
           have hnu := hO.rd' (n := k) Hk.out.symm
           have hE9 := he.trans HEx.out
           have hownE2 := hownE.ext HEx.out
           clear hO HO
           go_wp2_with fail
           refine (refWidth10_any m _ (by omega)).mono ?_
           rintro e w5 ⟨rfl, he5⟩
           go_wp2_with fail
           refine (refPack_any _ k _ (wfor m : Int) ns _ (hnu.ext he5) HnsU.out (by omega)).mono ?_
           rintro e w6 ⟨A6, c6, rfl, hown6, he6⟩
           rw [Hp2.out] at hown6 ⊢
           rw [Hp1.out, Hpl.out]
           have hr6 := hown6.rd' Hpl.out
           clear hown6
           go_wp2_with fail
           refine (refPut_any k _ (by omega)).mono ?_
           rintro e w7 ⟨A7, c7, rfl, hown7, he7⟩
           have hv1 := vput_le (u := k) (by omega)
           go_wp2_with fail
           refine (cat_any _ _ _ _ _ _ E (vput k) _ (((hownE2.ext he5).ext he6).ext he7) hown7.rd (by omega)).mono ?_
           rintro e w8 ⟨A8, c8, rfl, hown8, he8⟩
           have hL8 : (E ++ vput k).length = el + (vput k).length := by rw [List.length_append, Hel.out]
           go_wp2_with fail
           refine (cat_any _ _ _ _ _ _ (E ++ vput k) (packB (wfor m) ns) _ (hown8.rd' hL8) ((hr6.ext he7).ext he8) (by omega)).mono ?_
           rintro e w9 ⟨A9, c9, rfl, hown9, he9⟩
           have hb9 := ((((he1.trans hE9).trans he5).trans he6).trans he7).trans he8
           have hfV : E ++ vput k ++ packB (wfor m) ns = V := by rw [Hden.out, HE0.out]; simp
           rw [hfV] at hown9
           have hfl := congrArg List.length hfV
           rw [List.length_append, hL8, Hpl.out] at hfl
           have Hfl := Lib.hid hfl.symm
           clear hfV hfl
           go_wp2_with fail
           go_ret2
           exact PEncPost.good _ HR.out Hfl.out (hown9.mono hb9.size) (hb9.trans he9)
theorem rows_ne {w : World} {base base' sz sz' n n' c c' : Nat} {e e' : TypeId} {A A' : Option Addr} {l l' : Nat} {cs cs' : List Value} (hne : e ≠ e') (h : w.ownsRow base e sz (.slice A l c) n cs) (k : w.ownsRow base' e' sz' (.slice A' l' c') n' cs') :
   ∀ a a', A = some a → A' = some a' → a'.block ≠ a.block := by
 rintro a a' rfl rfl q
 rcases h.2 with ⟨hv, _⟩ | ⟨g, cap, cur, hv, _, hh, _⟩
 · cases hv
 · injection hv with hA
   injection hA with hA
   rcases k.2 with ⟨hv', _⟩ | ⟨g', cap', cur', hv', _, hh', _⟩
   · cases hv'
   · injection hv' with hA'
     injection hA' with hA'
     subst hA hA'
     simp at q
     subst q
     rw [hh] at hh'
     injection hh' with hh'
     injection hh' with h1 h2 h3
     exact hne h2
theorem Tryz.infoZ12 : (Tryz.prog.info? 2).map (fun i => (i.zero, i.size, i.bytes)) = some (some (.int .i64 0), 1, 8) := by kernel_rfl
structure Rows3 (w wr : World) (b0 : Nat) (Av As Ao : Option Addr) (cv cs co : Nat) (vs : List Int) (ss : List Sl) (out : List Nat) : Prop where
 v : OwnG shZ 2 wr b0 Av cv vs
 s : OwnT wr b0 As cs ss
 o : Own .u8 5 wr b0 Ao co out
 e : Ext w wr
theorem slice_block (A : Option Addr) (n c : Nat) : (Value.slice A n c).ownBlock = A.map (·.block) := by cases A <;> rfl
theorem Rows3.ext {w wr w1 : World} {b0 : Nat} {Av As Ao : Option Addr} {cv cs co : Nat} {vs : List Int} {ss : List Sl} {out : List Nat} (h : Rows3 w wr b0 Av As Ao cv cs co vs ss out) (he : Ext wr w1) : Rows3 w w1 b0 Av As Ao cv cs co vs ss out :=
 ⟨h.v.ext he, OwnG.ext h.s he, h.o.ext he, h.e.trans he⟩
theorem off12 {A B : Option Addr} (h : ∀ a b, A = some a → B = some b → b.block ≠ a.block) : ∀ b, B = some b → some b.block ≠ A.map (·.block) := by
 intro b hb e
 cases hA : A with
 | none => rw [hA] at e; cases e
 | some a => rw [hA] at e; injection e with e; exact h a b hA hb e
section
variable {w wr w1 : World} {b0 : Nat} {Av As Ao : Option Addr} {cv cs co : Nat} {vs : List Int} {ss : List Sl} {out : List Nat}
theorem Rows3.pushV (h : Rows3 w wr b0 Av As Ao cv cs co vs ss out) {A' : Option Addr} {c' : Nat} {vs' : List Int} (ho : OwnG shZ 2 w1 b0 A' c' vs') (hg : wr.grownBy w1 (Av.map (·.block))) (he : Ext w w1) : Rows3 w w1 b0 A' As Ao c' cs co vs' ss out :=
 ⟨ho, OwnG.grown h.s hg (off12 (rows_ne (by decide) h.v h.s)), h.o.grown hg (off12 (rows_ne (by decide) h.v h.o)), he⟩
theorem Rows3.pushS (h : Rows3 w wr b0 Av As Ao cv cs co vs ss out) {A' : Option Addr} {c' : Nat} {ss' : List Sl} (ho : OwnT w1 b0 A' c' ss') (hg : wr.grownBy w1 (As.map (·.block))) (he : Ext w w1) : Rows3 w w1 b0 Av A' Ao cv c' co vs ss' out :=
 ⟨OwnG.grown h.v hg (off12 (rows_ne (by decide) h.s h.v)), ho, h.o.grown hg (off12 (rows_ne (by decide) h.s h.o)), he⟩
theorem Rows3.pushO (h : Rows3 w wr b0 Av As Ao cv cs co vs ss out) {A' : Option Addr} {c' : Nat} {out' : List Nat} (ho : Own .u8 5 w1 b0 A' c' out') (hg : wr.grownBy w1 (Ao.map (·.block))) (he : Ext w w1) : Rows3 w w1 b0 Av As A' cv cs c' vs ss out' :=
 ⟨OwnG.grown h.v hg (off12 (rows_ne (by decide) h.o h.v)), OwnG.grown h.s hg (off12 (rows_ne (by decide) h.o h.s)), ho, he⟩
theorem Rows3.added (h : Rows3 w wr b0 Av As Ao cv cs co vs ss out) (hb : w.heap.size ≤ b0) (hg : wr.grownBy w1 (Ao.map (·.block))) : Ext w w1 :=
 Below.grown h.e hg h.e.size (fun g hg' => by
   cases hA : Ao with
   | none => rw [hA] at hg'; cases hg'
   | some a =>
     rw [hA] at hg'
     injection hg' with hg'
     have := (h.o.block a hA).1
     have e : a.block = g := hg'
     omega)
end
theorem plain1_nul (k : Int) (x : Ci) : plainL k [x] = plain1 k x := by unfold plainL; simp
theorem plainL_app (k : Int) (a b : List Ci) : plainL k (a ++ b) = plainL k a ++ plainL k b := by unfold plainL; rw [List.map_append, List.flatten_append]
set_option maxHeartbeats 6400000 in
theorem refBody_any (k cd : Int) (A : Option Addr) (n c : Nat) (xs : List Ci) (w : World) (hx : RdX w A n xs) (hc : CapX xs) (hk : 1 ≤ k ∧ k ≤ 8) (hn : n ≤ 4096) (h200 : ∀ x ∈ xs, x.txt.length ≤ 200) :
   Calls Tryz.prog 166 #[.int .i64 k, .int .i64 cd, .slice A n c] w fun e w' => ∃ A' c', e = .returned (.slice A' (valR k cd (nn xs)).1.length c') ∧ Own .u8 5 w' w.heap.size A' c' (valR k cd (nn xs)).1 ∧ Ext w w' := by
 have Hx := Lib.hid hx
 have Hl := Lib.hid hx.1
 have Hc := Lib.hid hc
 have H2 := Lib.hid h200
 have Hnum := Lib.hid hx.nums
 obtain ⟨w0, hw0⟩ : ∃ w0, w0 = ((w.alloc (.cells #[] 2)).alloc (.cells #[] 22)).alloc (.cells #[] 5) := ⟨_, rfl⟩
 have H0 : Hid (Rows3 w w0 w.heap.size (some ⟨w.heap.size, 0, none⟩) (some ⟨w.heap.size + 1, 0, none⟩) (some ⟨w.heap.size + 2, 0, none⟩) 0 0 0 ((nn (xs.take 0)).map Ci.num) ((nn (xs.take 0)).map Ci.sb) (plainL k (nn (xs.take 0)))) := Lib.hid (by
   rw [hw0]
   refine ⟨OwnG.ext (OwnG.ext (OwnG.made shZ 2 w (Nat.le_refl _)) ((Ext.refl _).alloc _)) ((Ext.refl _).alloc _), ?_, ?_, (((Ext.refl w).alloc _).alloc _).alloc _⟩
   · have := OwnG.made (base := w.heap.size) shS 22 (w.alloc (.cells #[] 2)) (by simp)
     simp only [World.size_alloc] at this
     exact OwnG.ext this ((Ext.refl _).alloc _)
   · have := Own.made (base := w.heap.size) .u8 5 ((w.alloc (.cells #[] 2)).alloc (.cells #[] 22)) (by simp; omega)
     simp only [World.size_alloc] at this
     exact this)
 have HW0 := Lib.hid hw0
 have hk6 : (k ≤ 6) = (numK k = true) := by
   unfold numK
   rw [decide_eq_true_eq]
   exact propext ⟨fun h => ⟨hk.1, h⟩, fun h => h.2⟩
 have Hk6 := Lib.hid hk6
 clear hx hc h200 hw0 hk6
 go_enter Tryz.func166, Tryz.ntmps166
 go_wp2_with fail
 rw [← HW0.out]
 go_loopw [7, 8, 9, 10] (fun v s o i wr => ∃ (j m L : Nat) (Av As Ao : Option Addr) (cv cs co : Nat), j ≤ n ∧ m ≤ j ∧ i = .int .i64 j ∧ v = .slice Av m cv ∧ s = .slice As m cs ∧ o = .slice Ao L co ∧ Hid ((nn (xs.take j)).length = m) ∧ Hid ((plainL k (nn (xs.take j))).length = L ∧ L ≤ 210 * j) ∧ Hid (Rows3 w wr w.heap.size Av As Ao cv cs co ((nn (xs.take j)).map Ci.num) ((nn (xs.take j)).map Ci.sb) (plainL k (nn (xs.take j))))) (fun _ _ _ i _ => n - (intOf i).toNat)
 case atStart => exact ⟨0, 0, 0, _, _, _, 0, 0, 0, Nat.zero_le _, Nat.le_refl _, rfl, rfl, rfl, rfl, rfl, ⟨rfl, Nat.le_refl _⟩, H0.out⟩
 case round =>
   clear H0 HW0
   obtain ⟨j, m, L, Av, As, Ao, cv, cs, co, hj, hmj, rfl, rfl, rfl, rfl, HM, HL, HR⟩ := hrel
   by_cases hlt : j < n
   · obtain ⟨b, o, x, hA, hbl0, hxj, x0, x1, x2, xin⟩ := Hx.out.at_ hlt
     have hnt := nn_take hxj
     have hxm : x ∈ xs := List.mem_of_getElem? hxj
     have hx2 := H2.out x hxm
     subst hA
     obtain ⟨xn, xi, xA, xc, xt⟩ := x
     simp only at x0 x1 x2 hnt hx2
     have HX : Hid (∀ W, Ext w W → W.cell? ⟨b, o + j * 3, none⟩ = some (.bool xn) ∧ W.cell? ⟨b, o + j * 3 + 1, none⟩ = some (.int .i64 xi) ∧ W.cell? ⟨b, o + j * 3 + 2, none⟩ = some (.slice xA xt.length xc)) := Lib.hid (fun W hW => ⟨(hW.cells b _ hbl0).trans x0, (hW.cells b _ hbl0).trans x1, (hW.cells b _ hbl0).trans x2⟩)
     have Hxin := Lib.hid xin
     have Hnt := Lib.hid hnt
     have hE := HR.out.e
     obtain ⟨y0, y1, y2⟩ := HX.out wr hE
     clear x0 x1 x2 hnt hxj hxm xin
     cases xn with
     | true =>
       have HM1 : Hid ((nn (xs.take (j + 1))).length = m) := Lib.hid (by rw [Hnt.out]; simpa using HM.out)
       have e1 : nn (xs.take (j + 1)) = nn (xs.take j) := by rw [Hnt.out]; simp
       have HL1 : Hid ((plainL k (nn (xs.take (j + 1)))).length = L ∧ L ≤ 210 * (j + 1)) := Lib.hid (by rw [e1]; exact ⟨HL.out.1, by have := HL.out.2; omega⟩)
       have HR1 : Hid (Rows3 w wr w.heap.size Av As Ao cv cs co ((nn (xs.take (j + 1))).map Ci.num) ((nn (xs.take (j + 1))).map Ci.sb) (plainL k (nn (xs.take (j + 1))))) := Lib.hid (by rw [e1]; exact HR.out)
       clear e1
       go_wp2_with fail
       go_roundw
       case rel => exact ⟨j + 1, m, L, Av, As, Ao, cv, cs, co, by omega, by omega, by go_num, rfl, rfl, rfl, HM1.out, HL1.out, HR1.out⟩
       case measure => simp [intOf]; omega
     | false =>
       have e1 : nn (xs.take (j + 1)) = nn (xs.take j) ++ [⟨false, xi, xA, xc, xt⟩] := Hnt.out
       have He1 := Lib.hid e1
       have HMv : Hid (((nn (xs.take j)).map Ci.num).length = m) := Lib.hid (by rw [List.length_map]; exact HM.out)
       have HMs : Hid (((nn (xs.take j)).map Ci.sb).length = m) := Lib.hid (by rw [List.length_map]; exact HM.out)
       have HM1 : Hid ((nn (xs.take (j + 1))).length = m + 1) := Lib.hid (by rw [e1, List.length_append, HM.out]; rfl)
       have hsz := hE.size
       obtain ⟨xl, hxl⟩ : ∃ xl, xl = xt.length := ⟨_, rfl⟩
       rw [← hxl] at y2 hx2 HX
       have Hxl := Lib.hid hxl
       have hlo := Hxin.out.lo
       have hhi := Hxin.out.hi
       simp only at hlo hhi
       clear e1 hxl
       obtain ⟨P, hP⟩ : ∃ P, P = plain1 k ⟨false, xi, xA, xc, xt⟩ := ⟨_, rfl⟩
       obtain ⟨p, hp⟩ : ∃ p, p = P.length := ⟨_, rfl⟩
       have hp1 : p ≤ 210 := by rw [hp, hP]; exact plain1_le (k := k) hlo hhi (by rw [← Hxl.out]; exact hx2)
       have HL1 : Hid ((plainL k (nn (xs.take (j + 1)))).length = L + p ∧ L + p ≤ 210 * (j + 1)) := Lib.hid (by rw [He1.out, plainL_app, plain1_nul, ← hP, List.length_append, HL.out.1, ← hp]; exact ⟨rfl, by have := HL.out.2; omega⟩)
       have HPl : Hid (plainL k (nn (xs.take (j + 1))) = plainL k (nn (xs.take j)) ++ P) := Lib.hid (by rw [He1.out, plainL_app, plain1_nul, ← hP])
       have HVl : Hid ((nn (xs.take (j + 1))).map Ci.num = (nn (xs.take j)).map Ci.num ++ [xi]) := Lib.hid (by rw [He1.out, List.map_append]; rfl)
       have HSl : Hid ((nn (xs.take (j + 1))).map Ci.sb = (nn (xs.take j)).map Ci.sb ++ [⟨xA, xc, xt⟩]) := Lib.hid (by rw [He1.out, List.map_append]; rfl)
       have HP := Lib.hid hp
       have hL1 : L ≤ 1000000 := by have := HL.out.2; omega
       by_cases h6 : k ≤ 6
       · have hN : numK k = true := by rw [← Hk6.out]; exact h6
         have hr := fold_range (v := xi) ⟨hlo, hhi⟩
         obtain ⟨u, hu⟩ : ∃ u : Nat, (u : Int) = foldS xi := ⟨(foldS xi).toNat, by omega⟩
         have hP2 : P = vput u := by rw [hP]; unfold plain1; rw [if_pos hN]; simp only; rw [← hu, Int.toNat_natCast]
         have hFo : Hid (∀ W, Calls Tryz.prog 196 #[.int .i64 xi] W fun e w' => e = .returned (.int .u64 (u : Int)) ∧ W = w') := Lib.hid (fun W => by rw [hu]; exact refFold_any xi W hlo hhi)
         have hPu : Hid (∀ W, Calls Tryz.prog 94 #[.int .u64 (u : Int)] W fun e w' => ∃ A' c', e = .returned (.slice A' p c') ∧ Own .u8 5 w' W.heap.size A' c' P ∧ Ext W w') := Lib.hid (fun W => by
           have := refPut_any u W (by omega)
           rw [← hP2, ← HP.out] at this
           exact this)
         clear hP2 hu hr hP hp hN
         go_wp2_with (first
           | (at_builtin; refine wpList_pushG (w0 := w) shZ xi 2 rfl _ _ 115 rfl (.int .i64 0) 8 Tryz.underlying115 Tryz.infoZ12 rfl (by decide) (OwnG.ext HR.out.v ((Ext.refl _).alloc _)) m HMv.out rfl rfl (heap_alloc_new wr _) (by omega) (by omega) (hE.alloc _) (by simp; omega) ?_; intro A1 c1 w1 ho1 hg1 he1 hz1; have HR1 := Lib.hid ((HR.out.ext ((Ext.refl _).alloc (.cells #[.int .i64 xi] 2))).pushV ho1 (by rw [← slice_block Av m cv]; exact hg1) he1); obtain ⟨u0, u1, u2⟩ := HX.out w1 he1)
           | (at_builtin; refine wpList_pushT (w0 := w) ⟨xA, xc, xt⟩ rfl _ _ rfl (OwnG.ext HR1.out.s ((Ext.refl _).alloc _)) m HMs.out rfl rfl ((heap_alloc_new w1 _).trans (by rw [Hxl.out])) (by omega) (HR1.out.e.alloc _) (by have := HR1.out.e.size; simp; omega) ?_; intro A2 c2 w2 ho2 hg2 he2 hz2; have HR2 := Lib.hid ((HR1.out.ext ((Ext.refl _).alloc (.cells #[.slice xA xl xc] 22))).pushS ho2 (by rw [← slice_block As m cs]; exact hg2) he2); obtain ⟨t0, t1, t2⟩ := HX.out w2 he2)
           | fail)
         refine (hFo.out _).mono ?_
         rintro e w3 ⟨rfl, rfl⟩
         go_wp2_with fail
         refine (hPu.out _).mono ?_
         rintro e w3 ⟨A3, c3, rfl, ho3, he3⟩
         have HR3 := Lib.hid (HR2.out.ext he3)
         have Hne : Hid (∀ p q, Ao = some p → A3 = some q → p.block ≠ q.block) := Lib.hid (fun p q hp hq => by
           have a1 := (HR2.out.o.block p hp).2
           have a2 := (ho3.block q hq).1
           omega)
         go_wp2_with fail
         refine (add12_any Ao A3 L co p c3 w.heap.size _ _ _ HR3.out.o HL.out.1 (ho3.rd' HP.out.symm) (fun _ => Hne.out) HR3.out.e.size (by omega)).mono ?_
         rintro e w4 ⟨A4, c4, rfl, ho4, hg4⟩
         have HR4 := Lib.hid (HR3.out.pushO ho4 hg4 (HR3.out.added (Nat.le_refl _) hg4))
         go_wp2_with fail
         go_roundw
         case rel => exact ⟨j + 1, m + 1, L + p, A1, A2, A4, c1, c2, c4, by omega, by omega, by go_num, by go_num, by go_num, by go_num, HM1.out, HL1.out, by rw [HVl.out, HSl.out, HPl.out]; exact HR4.out⟩
         case measure => simp [intOf]; omega
       · have hN : numK k = false := by
           have : ¬ (numK k = true) := by rw [← Hk6.out]; exact h6
           exact Bool.eq_false_iff.2 this
         have h7 : 6 < k := by omega
         obtain ⟨V, hV⟩ : ∃ V, V = vput xl := ⟨_, rfl⟩
         obtain ⟨v, hv⟩ : ∃ v, v = V.length := ⟨_, rfl⟩
         have HP2 : Hid (P = V ++ xt) := Lib.hid (by rw [hP]; unfold plain1; rw [hN, if_neg (by decide)]; simp only; rw [hV, Hxl.out])
         have hpv : p = v + xl := by rw [HP.out, HP2.out, List.length_append, ← hv, ← Hxl.out]
         have hPu : Hid (∀ W, Calls Tryz.prog 94 #[.int .u64 (xl : Int)] W fun e w' => ∃ A' c', e = .returned (.slice A' v c') ∧ Own .u8 5 w' W.heap.size A' c' V ∧ Ext W w') := Lib.hid (fun W => by
           have := refPut_any xl W (by omega)
           rw [← hV, ← hv] at this
           exact this)
         have hw64 : IntKind.u64.wrap (xl : Int) = (xl : Int) := IntWalk.u64_in _ (by omega)
         have Hv := Lib.hid hv
         have Hpv := Lib.hid hpv
         have hvp : v ≤ 210 := by omega
         clear hV hv hpv hP hp hN h6
         go_wp2_with (first
           | (at_builtin; refine wpList_pushG (w0 := w) shZ xi 2 rfl _ _ 115 rfl (.int .i64 0) 8 Tryz.underlying115 Tryz.infoZ12 rfl (by decide) (OwnG.ext HR.out.v ((Ext.refl _).alloc _)) m HMv.out rfl rfl (heap_alloc_new wr _) (by omega) (by omega) (hE.alloc _) (by simp; omega) ?_; intro A1 c1 w1 ho1 hg1 he1 hz1; have HR1 := Lib.hid ((HR.out.ext ((Ext.refl _).alloc (.cells #[.int .i64 xi] 2))).pushV ho1 (by rw [← slice_block Av m cv]; exact hg1) he1); obtain ⟨u0, u1, u2⟩ := HX.out w1 he1)
           | (at_builtin; refine wpList_pushT (w0 := w) ⟨xA, xc, xt⟩ rfl _ _ rfl (OwnG.ext HR1.out.s ((Ext.refl _).alloc _)) m HMs.out rfl rfl ((heap_alloc_new w1 _).trans (by rw [Hxl.out])) (by omega) (HR1.out.e.alloc _) (by have := HR1.out.e.size; simp; omega) ?_; intro A2 c2 w2 ho2 hg2 he2 hz2; have HR2 := Lib.hid ((HR1.out.ext ((Ext.refl _).alloc (.cells #[.slice xA xl xc] 22))).pushS ho2 (by rw [← slice_block As m cs]; exact hg2) he2); obtain ⟨t0, t1, t2⟩ := HX.out w2 he2)
           | fail)
         refine (hPu.out _).mono ?_
         rintro e w3 ⟨A3, c3, rfl, ho3, he3⟩
         have HR3 := Lib.hid (HR2.out.ext he3)
         have Hne : Hid (∀ p q, Ao = some p → A3 = some q → p.block ≠ q.block) := Lib.hid (fun p q hp hq => by
           have a1 := (HR2.out.o.block p hp).2
           have a2 := (ho3.block q hq).1
           omega)
         obtain ⟨s0, s1, s2⟩ := HX.out w3 HR3.out.e
         go_wp2_with fail
         refine (add12_any Ao A3 L co v c3 w.heap.size _ _ _ HR3.out.o HL.out.1 (ho3.rd' Hv.out.symm) (fun _ => Hne.out) HR3.out.e.size (by omega)).mono ?_
         rintro e w4 ⟨A4, c4, rfl, ho4, hg4⟩
         have HR4 := Lib.hid (HR3.out.pushO ho4 hg4 (HR3.out.added (Nat.le_refl _) hg4))
         have Hxr : Hid (Rd .u8 w4 xA xl xt) := Lib.hid (by rw [Hxl.out]; exact Hxin.out.rd.ext HR4.out.e)
         have Hl4 : Hid ((plainL k (nn (xs.take j)) ++ V).length = L + v) := Lib.hid (by rw [List.length_append, HL.out.1, ← Hv.out])
         have Hn4 : Hid (0 < xl → ∀ p q, A4 = some p → xA = some q → p.block ≠ q.block) := Lib.hid (fun h0 p q hp hq => by
           have a1 := (HR4.out.o.block p hp).1
           obtain ⟨b', o', e', hb', _⟩ := Hxin.out.rd.at_ (j := 0) (by rw [← Hxl.out]; exact h0)
           simp only at e'
           rw [hq] at e'
           injection e' with e'
           rw [e']
           simp only
           omega)
         obtain ⟨r0, r1, r2⟩ := HX.out w4 HR4.out.e
         go_wp2_with fail
         refine (add12_any A4 xA (L + v) c4 xl xc w.heap.size _ _ _ HR4.out.o Hl4.out Hxr.out Hn4.out HR4.out.e.size (by omega)).mono ?_
         rintro e w5 ⟨A5, c5, rfl, ho5, hg5⟩
         have HR5 := Lib.hid (HR4.out.pushO ho5 hg5 (HR4.out.added (Nat.le_refl _) hg5))
         go_wp2_with fail
         go_roundw
         case rel => exact ⟨j + 1, m + 1, L + v + xl, A1, A2, A5, c1, c2, c5, by omega, by omega, by go_num, by go_num, by go_num, by go_num, HM1.out, (by rw [Nat.add_assoc, ← Hpv.out]; exact HL1.out), by rw [HVl.out, HSl.out, HPl.out, HP2.out, ← List.append_assoc]; exact HR5.out⟩
         case measure => simp [intOf]; omega
   · obtain rfl : j = n := by omega
     have ht : xs.take j = xs := List.take_of_length_le (Nat.le_of_eq Hl.out)
     rw [ht] at HM HL HR
     have HVr : Hid (RdG shZ wr Av m ((nn xs).map Ci.num)) := Lib.hid (HR.out.v.rd' (by rw [List.length_map]; exact HM.out))
     have H64 : Hid (R64s ((nn xs).map Ci.num)) := Lib.hid (fun v hv => by
       obtain ⟨x, hx, rfl⟩ := List.mem_map.1 hv
       exact Hnum.out _ (List.mem_map_of_mem (nn_mem hx)))
     have HTx : Hid (TxL wr As m ((nn xs).map Ci.sb)) := Lib.hid (by
       have hr := OwnG.rdL HR.out.s
       rw [List.length_map, HM.out] at hr
       refine ⟨hr, fun s hs => ?_⟩
       obtain ⟨x, hxm, rfl⟩ := List.mem_map.1 hs
       have hxm := nn_mem hxm
       obtain ⟨j', hj', e⟩ := List.getElem_of_mem hxm
       obtain ⟨b, o, y, _, _, hy, _, _, _, hin⟩ := Hx.out.at_ (j := j') (by rw [← Hl.out]; exact hj')
       rw [List.getElem?_eq_getElem hj', e] at hy
       have hy2 := Option.some.inj hy
       subst hy2
       exact ⟨hin.rd.ext HR.out.e, hin.u8, (Hc.out x hxm).1, (Hc.out x hxm).2, by have := hin.len; show x.txt.length ≤ _; omega⟩)
     have hE := HR.out.e
     clear ht hlt
     by_cases h2 : cd = 2
     · subst h2
       have HV := Lib.hid (show valR k 2 (nn xs) = encode8 ((nn xs).map Ci.num) from rfl)
       go_wp2_with fail
       refine (refEncode_any Av m cv _ wr HVr.out H64.out).mono ?_
       rintro e w2 ⟨A2, c2, rfl, ho2, he2⟩
       go_wp2_with fail
       go_ret
       rw [HV.out]
       exact ⟨A2, c2, rfl, ho2.mono hE.size, hE.trans he2⟩
     by_cases h3 : cd = 3
     · subst h3
       have HV := Lib.hid (show valR k 3 (nn xs) = encode9 ((nn xs).map Ci.num) from rfl)
       go_wp2_with fail
       refine (refPencode_any Av m cv _ wr HVr.out H64.out).mono ?_
       rintro e w2 ⟨A2, c2, rfl, ho2, he2⟩
       go_wp2_with fail
       go_ret
       rw [HV.out]
       exact ⟨A2, c2, rfl, ho2.mono hE.size, hE.trans he2⟩
     by_cases h4 : cd = 4
     · subst h4
       have HV := Lib.hid (show valR k 4 (nn xs) = dencR ((nn xs).map Ci.txt) from rfl)
       go_wp2_with fail
       refine (refDencode_any As m cs _ wr HTx.out (by omega)).mono ?_
       rintro e w2 ⟨A2, c2, rfl, ho2, he2⟩
       go_wp2_with fail
       go_ret
       rw [HV.out, ← bodies_sl]
       exact ⟨A2, c2, rfl, ho2.mono hE.size, hE.trans he2⟩
     by_cases h5 : cd = 5
     · subst h5
       have HV := Lib.hid (show valR k 5 (nn xs) = pencR ((nn xs).map Ci.txt) from rfl)
       go_wp2_with fail
       refine (refEncode11_any As m cs _ wr HTx.out (by omega)).mono ?_
       rintro e w2 ⟨A2, c2, rfl, ho2, he2⟩
       go_wp2_with fail
       go_ret
       rw [HV.out, ← bodies_sl]
       exact ⟨A2, c2, rfl, ho2.mono hE.size, hE.trans he2⟩
     have HV := Lib.hid (show valR k cd (nn xs) = (plainL k (nn xs), 0) by unfold valR; rw [if_neg h2, if_neg h3, if_neg h4, if_neg h5])
     have b2 : (cd == 2) = false := beq_eq_false_iff_ne.2 h2
     have b3 : (cd == 3) = false := beq_eq_false_iff_ne.2 h3
     have b4 : (cd == 4) = false := beq_eq_false_iff_ne.2 h4
     have b5 : (cd == 5) = false := beq_eq_false_iff_ne.2 h5
     clear h2 h3 h4 h5
     go_wp2_with fail
     go_ret
     rw [HV.out]
     exact ⟨Ao, co, by rw [HL.out.1]; rfl, HR.out.o, hE⟩
def outW (k cd : Int) (xs : List Ci) : List Nat := [cd.toNat] ++ (vput xs.length ++ (nullsL xs ++ (valR k cd (nn xs)).1))
theorem outW_u8 (k cd : Int) (hcd : 1 ≤ cd ∧ cd ≤ 5) {xs : List Ci} (h : R64s (xs.map Ci.num)) (h2 : ∀ x ∈ xs, U8 x.txt) : U8 (outW k cd xs) := by
 unfold outW
 refine u8_append ?_ (u8_append (vput_u8 _) (u8_append (nullsL_u8 xs) (valR_u8 k cd ?_ (fun x hx => h2 x (nn_mem hx)))))
 · intro v hv
   simp at hv; omega
 · intro v hv
   obtain ⟨x, hx, rfl⟩ := List.mem_map.1 hv
   exact h _ (List.mem_map.2 ⟨x, nn_mem hx, rfl⟩)
def smL (us : List Nat) : Nat := if 1 ∈ us then 1 else 0
theorem smL_one (us : List Nat) : smL (us ++ [1]) = 1 := if_pos (by simp)
theorem smL_nul (us : List Nat) : smL (us ++ [0]) = smL us := by unfold smL; simp
theorem push2_grown {w w' : World} {A A' : Option Addr} (h : A' = A ∧ w.grownBy w' (A.map (·.block)) ∨ Ext w w' ∧ ∀ q, A' = some q → w.heap.size ≤ q.block) : w.grownBy w' (A.map (·.block)) := by
 rcases h with ⟨_, h⟩ | ⟨h, _⟩
 · exact h
 · exact ⟨h.os, h.tape, h.output, h.size, fun b hb _ => h.block b hb⟩
set_option maxHeartbeats 6400000 in
theorem refWrite_any (k cd : Int) (A : Option Addr) (n c : Nat) (xs : List Ci) (w : World) (hx : RdX w A n xs) (hc : CapX xs) (hk : 1 ≤ k ∧ k ≤ 8) (hcd : 1 ≤ cd ∧ cd ≤ 5) (hn : n ≤ 4096) (h200 : ∀ x ∈ xs, x.txt.length ≤ 200) :
   Calls Tryz.prog 136 #[.int .i64 k, .int .i64 cd, .slice A n c] w (PEncPost (sealL (outW k cd xs), sealE (outW k cd xs)) w) := by
 obtain ⟨d, rfl⟩ : ∃ d : Nat, cd = d := ⟨cd.toNat, by omega⟩
 have Hx := Lib.hid hx
 have Hl := Lib.hid hx.1
 have Hc := Lib.hid hc
 have H2 := Lib.hid h200
 have HU := Lib.hid (outW_u8 k d hcd hx.nums (fun x h => (hx.all x h).u8))
 have Hnb := Lib.hid (show (nb xs).length = n by rw [nb_len]; exact hx.1)
 have hvl0 := valR_len k d (xs := nn xs) (fun v hv => by
   obtain ⟨x, h, rfl⟩ := List.mem_map.1 hv
   exact hx.nums _ (List.mem_map_of_mem (nn_mem h))) (fun x h => h200 x (nn_mem h)) (by have := nn_le xs; have := hx.1; omega)
 obtain ⟨V, hV⟩ : ∃ V, V = (valR k d (nn xs)).1 := ⟨_, rfl⟩
 obtain ⟨O, hO⟩ : ∃ O, O = outW k d xs := ⟨_, rfl⟩
 have HOv : Hid (O = ([d] ++ vput n) ++ (nullsL xs ++ V)) := Lib.hid (by rw [hO, hV]; unfold outW; rw [hx.1, Int.toNat_natCast, List.append_assoc])
 rw [← hO] at HU ⊢
 rw [← hV] at hvl0
 have HV := Lib.hid hV
 obtain ⟨vl, hvl⟩ : ∃ vl, vl = V.length := ⟨_, rfl⟩
 rw [← hvl] at hvl0
 have Hvl := Lib.hid hvl
 obtain ⟨lo, hlo⟩ : ∃ lo, lo = O.length := ⟨_, rfl⟩
 have Hlo := Lib.hid hlo
 obtain ⟨pn, hpn⟩ : ∃ pn, pn = vput n := ⟨_, rfl⟩
 have hpn1 : pn.length ≤ 10 := by rw [hpn, vput_len]; exact vsize_le (by omega)
 obtain ⟨p, hp⟩ : ∃ p, p = pn.length := ⟨_, rfl⟩
 have Hp := Lib.hid hp
 rw [← hp] at hpn1
 rw [← hpn] at HOv
 have hlob : lo ≤ 1002000 := by rw [hlo, HOv.out, List.length_append, List.length_append, List.length_append, ← hp, ← hvl]; have := nullsL_len (xs := xs) (by rw [hx.1]; exact hn); simp only [List.length_singleton]; omega
 have hPu : Hid (∀ W, Calls Tryz.prog 94 #[.int .u64 (n : Int)] W fun e w' => ∃ A' c', e = .returned (.slice A' p c') ∧ Own .u8 5 w' W.heap.size A' c' pn ∧ Ext W w') := Lib.hid (fun W => by
   have := refPut_any n W (by omega)
   rw [← hpn, ← hp] at this
   exact this)
 have hw8 : IntKind.u8.wrap (d : Int) = (d : Int) := IntWalk.u8_in _ (by omega)
 have hw64 : IntKind.u64.wrap (n : Int) = (n : Int) := IntWalk.u64_in _ (by omega)
 have H0 : Hid (Own .u8 5 (w.alloc (.cells #[.int .u8 (d : Int)] 5)) w.heap.size (some ⟨w.heap.size, 0, none⟩) 1 [d]) := Lib.hid (ownLit w [d] (by simp))
 clear hx hc h200 hV hO hvl hlo hpn hp
 go_enter Tryz.func136, Tryz.ntmps136
 go_wp2_with fail
 refine (hPu.out _).mono ?_
 rintro e w1 ⟨A1, c1, rfl, ho1, he1⟩
 have HE1 : Hid (Ext w w1) := Lib.hid (((Ext.refl w).alloc _).trans he1)
 have HO1 := Lib.hid (H0.out.ext he1)
 have Hne1 : Hid (∀ p q, some (⟨w.heap.size, 0, none⟩ : Addr) = some p → A1 = some q → p.block ≠ q.block) := Lib.hid (fun p q hp hq => by
   injection hp with hp
   have a2 := (ho1.block q hq).1
   rw [← hp]
   simp only [World.size_alloc] at a2 ⊢
   omega)
 have HA1 := Lib.hid (add12_any (some ⟨w.heap.size, 0, none⟩) A1 1 1 p c1 w.heap.size [d] pn w1 HO1.out rfl (ho1.rd' Hp.out.symm) (fun _ => Hne1.out) HE1.out.size (by omega))
 obtain ⟨q, hq⟩ : ∃ q, q = 1 + p := ⟨_, rfl⟩
 rw [← hq] at HA1
 have hqb : q ≤ 11 := by omega
 have Hq := Lib.hid hq
 clear hq
 go_wp2_with fail
 refine HA1.out.mono ?_
 rintro e w2 ⟨A2, c2, rfl, ho2, hg2⟩
 have HE2 := Lib.hid (Own.grown_ext HO1.out HE1.out (Nat.le_refl _) hg2)
 have HO2 := Lib.hid (ho2.ext ((Ext.refl w2).alloc (.cells #[] 69)))
 have HS2 : Hid (Own .u64 69 (w2.alloc (.cells #[] 69)) w.heap.size (some ⟨w2.heap.size, 0, none⟩) 0 ((nb xs).take 0)) := Lib.hid ((Own.made .u64 69 w2 (Nat.le_refl _)).mono HE2.out.size)
 have HL2 : Hid (([d] ++ pn).length = q) := Lib.hid (by rw [Hq.out, List.length_append, ← Hp.out]; rfl)
 clear ho2 hg2
 go_wp2_with fail
 go_loopw [9, 10, 11] (fun us sm i wr => ∃ (j S : Nat) (Au : Option Addr) (cu : Nat), j ≤ n ∧ i = .int .i64 j ∧ us = .slice Au j cu ∧ sm = .int .u8 S ∧ Hid (S = smL ((nb xs).take j)) ∧ Hid (Own .u64 69 wr w.heap.size Au cu ((nb xs).take j)) ∧ Hid (Own .u8 5 wr w.heap.size A2 c2 ([d] ++ pn)) ∧ Hid (Ext w wr)) (fun _ _ i _ => n - (intOf i).toNat)
 case atStart => exact ⟨0, 0, _, _, Nat.zero_le _, rfl, rfl, rfl, rfl, HS2.out, HO2.out, HE2.out.alloc _⟩
 case round =>
   clear HO2 HS2
   obtain ⟨j, S, Au, cu, hj, rfl, rfl, rfl, HS, HUs, HOs, HE⟩ := hrel
   by_cases hlt : j < n
   · obtain ⟨b, o, x, rfl, hbl0, hxj, x0, x1, x2, xin⟩ := (Hx.out.ext HE.out).at_ hlt
     have hat := nb_at hxj
     have Htl := Lib.hid (show ((nb xs).take j).length = j by rw [List.length_take, Hnb.out]; omega)
     have hz := HE.out.size
     obtain ⟨xn, xi, xA, xc, xt⟩ := x
     simp only at x0 x1 x2 hat
     clear xin hxj
     cases xn with
     | true =>
       have Hnx : Hid ((nb xs).take (j + 1) = (nb xs).take j ++ [1]) := Lib.hid (by rw [List.take_add_one, hat]; rfl)
       clear hat
       go_wp2_with (at_builtin; refine wpList_push2 .u64 1 69 rfl _ _ 72 rfl _ 8 Tryz.underlying72 Tryz.infoU64 rfl HUs.out j Htl.out rfl rfl rfl (by omega) (by omega) hz ?_; intro A3 c3 w3 ho3 hw3 hz3)
       have hg3 := push2_grown hw3
       have HO3 := Lib.hid (HOs.out.grown hg3 (off12 (rows_ne (by decide) HUs.out HOs.out)))
       have HE3 := Lib.hid (Own.grown_ext HUs.out HE.out (Nat.le_refl _) hg3)
       go_roundw
       case rel => exact ⟨j + 1, 1, A3, c3, hlt, by go_num, by go_num, rfl, Lib.hid (by rw [Hnx.out, smL_one]), (by rw [Hnx.out]; exact ho3), HO3.out, HE3.out⟩
       case measure => simp [intOf]; omega
     | false =>
       have Hnx : Hid ((nb xs).take (j + 1) = (nb xs).take j ++ [0]) := Lib.hid (by rw [List.take_add_one, hat]; rfl)
       clear hat
       go_wp2_with (at_builtin; refine wpList_push2 .u64 0 69 rfl _ _ 72 rfl _ 8 Tryz.underlying72 Tryz.infoU64 rfl HUs.out j Htl.out rfl rfl rfl (by omega) (by omega) hz ?_; intro A3 c3 w3 ho3 hw3 hz3)
       have hg3 := push2_grown hw3
       have HO3 := Lib.hid (HOs.out.grown hg3 (off12 (rows_ne (by decide) HUs.out HOs.out)))
       have HE3 := Lib.hid (Own.grown_ext HUs.out HE.out (Nat.le_refl _) hg3)
       go_roundw
       case rel => exact ⟨j + 1, S, A3, c3, hlt, by go_num, by go_num, rfl, (by rw [Hnx.out, smL_nul]; exact HS.out), (by rw [Hnx.out]; exact ho3), HO3.out, HE3.out⟩
       case measure => simp [intOf]; omega
   · obtain rfl : j = n := by omega
     rw [List.take_of_length_le (Nat.le_of_eq Hnb.out)] at HS HUs
     have hz := HE.out.size
     have hpk := nb_pack (xs := xs) (by rw [Hl.out]; exact hn)
     have hpb : packL 1 (nb xs) = packB 1 (nb xs) := by unfold packL; rw [hpk, if_pos rfl]; rfl
     have Hpk := Lib.hid hpk
     have Hpb := Lib.hid hpb
     clear hpk hpb hlt
     by_cases h1 : 1 ∈ nb xs
     · have hN : nullsL xs = 1 :: packB 1 (nb xs) := if_pos h1
       have hS1 : S = 1 := HS.out.trans (if_pos h1)
       subst hS1
       obtain ⟨R, hR⟩ : ∃ R, R = packB 1 (nb xs) := ⟨_, rfl⟩
       rw [← hR] at hN
       have hRl : R.length ≤ 512 := by rw [hR]; unfold packB; rw [upk_len, Hnb.out]; omega
       obtain ⟨r, hr⟩ : ∃ r, r = R.length := ⟨_, rfl⟩
       rw [← hr] at hRl
       have HPk : Hid (∀ W, Rd .u64 W Au j (nb xs) → Calls Tryz.prog 165 #[.int .i64 1, .slice Au j cu] W fun e w' => ∃ A' c', e = .returned (.tuple #[.slice A' r c', .int .i64 0]) ∧ Own .u8 5 w' W.heap.size A' c' R ∧ Ext W w') := Lib.hid (fun W hW => by
         have := refPack_any Au j cu 1 (nb xs) W hW (nb_u64 xs) (by omega)
         unfold PackPost at this
         rw [Hpk.out, Hpb.out, ← hR, ← hr] at this
         exact this)
       have Hr := Lib.hid hr
       have HN := Lib.hid hN
       clear hR hr hN h1 HS
       go_wp2_with (at_builtin; refine wpList_push2 .u8 1 5 rfl _ _ 22 rfl _ 1 Tryz.underlying22 Tryz.infoU8 rfl HOs.out q HL2.out rfl rfl rfl (by omega) (by omega) hz ?_; intro A3 c3 w3 ho3 hw3 hz3)
       have hg3 := push2_grown hw3
       have HS3 := Lib.hid (HUs.out.grown hg3 (off12 (rows_ne (by decide) HOs.out HUs.out)))
       have HE3 := Lib.hid (Own.grown_ext HOs.out HE.out (Nat.le_refl _) hg3)
       have HP3 := Lib.hid (HPk.out w3 (HS3.out.rd' Hnb.out))
       have HO3 := Lib.hid ho3
       clear hw3 hg3
       go_wp2_with fail
       refine HP3.out.mono ?_
       rintro e w4 ⟨A4, c4, rfl, ho4, he4⟩
       have HO4 := Lib.hid (HO3.out.ext he4)
       have HE4 := Lib.hid (HE3.out.trans he4)
       have HL4 : Hid ((([d] ++ pn) ++ [1]).length = q + 1) := Lib.hid (by rw [List.length_append, HL2.out]; rfl)
       have Hne4 : Hid (∀ p q, A3 = some p → A4 = some q → p.block ≠ q.block) := Lib.hid (fun p q hp hq => by
         have a1 := (HO3.out.block p hp).2
         have a2 := (ho4.block q hq).1
         omega)
       go_wp2_with fail
       refine (add12_any A3 A4 (q + 1) c3 r c4 w.heap.size _ _ w4 HO4.out HL4.out (ho4.rd' Hr.out.symm) (fun _ => Hne4.out) HE4.out.size (by omega)).mono ?_
       rintro e w5 ⟨A5, c5, rfl, ho5, hg5⟩
       have HE5 := Lib.hid (Own.grown_ext HO4.out HE4.out (Nat.le_refl _) hg5)
       have HO5 := Lib.hid ho5
       have HL5 : Hid ((([d] ++ pn) ++ [1] ++ R).length = q + 1 + r) := Lib.hid (by rw [List.length_append, HL4.out, ← Hr.out])
       have HOO5 : Hid (O = (([d] ++ pn) ++ [1] ++ R) ++ V) := Lib.hid (by rw [HOv.out, HN.out]; simp)
       clear ho5 hg5 ho4 he4
       have HB5 := Lib.hid (refBody_any k d A j c xs w5 (Hx.out.ext HE5.out) Hc.out hk hn H2.out)
       rw [← HV.out] at HB5
       simp only [← Hvl.out] at HB5
       go_wp2_with fail
       refine HB5.out.mono ?_
       rintro e w7 ⟨A7, c7, rfl, ho7, he7⟩
       have HO7 := Lib.hid (HO5.out.ext he7)
       have Hne7 : Hid (∀ p q, A5 = some p → A7 = some q → p.block ≠ q.block) := Lib.hid (fun p q hp hq => by
         have a1 := (HO5.out.block p hp).2
         have a2 := (ho7.block q hq).1
         omega)
       have HE7 := Lib.hid (HE5.out.trans he7)
       have HA7 := Lib.hid (add12_any A5 A7 (q + 1 + r) c5 vl c7 w.heap.size _ _ w7 HO7.out HL5.out (ho7.rd' Hvl.out.symm) (fun _ => Hne7.out) HE7.out.size (by omega))
       have hLO : q + 1 + r + vl = lo := by rw [Hlo.out, HOO5.out, List.length_append, HL5.out, ← Hvl.out]
       rw [hLO] at HA7
       clear hLO
       go_wp2_with fail
       refine HA7.out.mono ?_
       rintro e w8 ⟨A8, c8, rfl, ho8, hg8⟩
       have HE8 := Lib.hid (Own.grown_ext HO7.out HE7.out (Nat.le_refl _) hg8)
       have HO8 : Hid (Own .u8 5 w8 w.heap.size A8 c8 O) := Lib.hid (by rw [HOO5.out]; exact ho8)
       clear ho7 ho8 hg8 he7
       by_cases hbig : 65000 < lo + 4
       · have hbi : (65000 : Int) < (lo : Int) + 4 := by omega
         have HR2 : Hid (sealL O = [] ∧ sealE O = 4) := Lib.hid (by unfold sealL sealE; rw [← Hlo.out, if_pos hbig, if_pos hbig]; exact ⟨rfl, rfl⟩)
         clear hbig
         go_wp2_with fail
         go_ret2
         exact PEncPost.bad _ (by rw [HR2.out.1, HR2.out.2]) HE8.out
       · have hbi : ¬ (65000 : Int) < (lo : Int) + 4 := by omega
         have HSe := Lib.hid (refSeal_any A8 lo c8 O w8 (HO8.out.rd' Hlo.out.symm) HU.out (by omega))
         clear hlob hvl0
         have HR2 : Hid (sealL O = sl O ∧ sealE O = 0) := Lib.hid (by unfold sealL sealE; rw [← Hlo.out, if_neg hbig, if_neg hbig]; exact ⟨rfl, rfl⟩)
         clear hbig
         have hwr : IntKind.i64.wrap ((lo : Int) + 4) = (lo : Int) + 4 := IntWalk.i64_in _ (by omega)
         have hbd : decide ((65000 : Int) < (lo : Int) + 4) = false := decide_eq_false hbi
         clear hbi hqb hpn1 hcd hw8
         go_wp2_with fail
         refine HSe.out.mono ?_
         rintro e w9 ⟨A9, c9, rfl, ho9, he9⟩
         go_wp2_with fail
         go_ret2
         exact PEncPost.good _ (by rw [HR2.out.1, HR2.out.2]) (by rw [sl_len, ← Hlo.out]) (ho9.mono HE8.out.size) (HE8.out.trans he9)
     · have hN : nullsL xs = [0] := if_neg h1
       have hS1 : S = 0 := HS.out.trans (if_neg h1)
       subst hS1
       have HN := Lib.hid hN
       clear hN h1 HS
       go_wp2_with (at_builtin; refine wpList_push2 .u8 0 5 rfl _ _ 22 rfl _ 1 Tryz.underlying22 Tryz.infoU8 rfl HOs.out q HL2.out rfl rfl rfl (by omega) (by omega) hz ?_; intro A3 c3 w3 ho3 hw3 hz3)
       have hg3 := push2_grown hw3
       have HE3 := Lib.hid (Own.grown_ext HOs.out HE.out (Nat.le_refl _) hg3)
       have HO3 := Lib.hid ho3
       have HL3 : Hid ((([d] ++ pn) ++ [0]).length = q + 1) := Lib.hid (by rw [List.length_append, HL2.out]; rfl)
       have HOO3 : Hid (O = (([d] ++ pn) ++ [0]) ++ V) := Lib.hid (by rw [HOv.out, HN.out]; simp)
       clear ho3 hw3 hg3
       have HB3 := Lib.hid (refBody_any k d A j c xs w3 (Hx.out.ext HE3.out) Hc.out hk hn H2.out)
       rw [← HV.out] at HB3
       simp only [← Hvl.out] at HB3
       go_wp2_with fail
       refine HB3.out.mono ?_
       rintro e w7 ⟨A7, c7, rfl, ho7, he7⟩
       have HO7 := Lib.hid (HO3.out.ext he7)
       have Hne7 : Hid (∀ p q, A3 = some p → A7 = some q → p.block ≠ q.block) := Lib.hid (fun p q hp hq => by
         have a1 := (HO3.out.block p hp).2
         have a2 := (ho7.block q hq).1
         omega)
       have HE7 := Lib.hid (HE3.out.trans he7)
       have HA7 := Lib.hid (add12_any A3 A7 (q + 1) c3 vl c7 w.heap.size _ _ w7 HO7.out HL3.out (ho7.rd' Hvl.out.symm) (fun _ => Hne7.out) HE7.out.size (by omega))
       have hLO : q + 1 + vl = lo := by rw [Hlo.out, HOO3.out, List.length_append, HL3.out, ← Hvl.out]
       rw [hLO] at HA7
       clear hLO
       go_wp2_with fail
       refine HA7.out.mono ?_
       rintro e w8 ⟨A8, c8, rfl, ho8, hg8⟩
       have HE8 := Lib.hid (Own.grown_ext HO7.out HE7.out (Nat.le_refl _) hg8)
       have HO8 : Hid (Own .u8 5 w8 w.heap.size A8 c8 O) := Lib.hid (by rw [HOO3.out]; exact ho8)
       clear ho7 ho8 hg8 he7
       by_cases hbig : 65000 < lo + 4
       · have hbi : (65000 : Int) < (lo : Int) + 4 := by omega
         have HR2 : Hid (sealL O = [] ∧ sealE O = 4) := Lib.hid (by unfold sealL sealE; rw [← Hlo.out, if_pos hbig, if_pos hbig]; exact ⟨rfl, rfl⟩)
         clear hbig
         go_wp2_with fail
         go_ret2
         exact PEncPost.bad _ (by rw [HR2.out.1, HR2.out.2]) HE8.out
       · have hbi : ¬ (65000 : Int) < (lo : Int) + 4 := by omega
         have HSe := Lib.hid (refSeal_any A8 lo c8 O w8 (HO8.out.rd' Hlo.out.symm) HU.out (by omega))
         clear hlob hvl0
         have HR2 : Hid (sealL O = sl O ∧ sealE O = 0) := Lib.hid (by unfold sealL sealE; rw [← Hlo.out, if_neg hbig, if_neg hbig]; exact ⟨rfl, rfl⟩)
         clear hbig
         have hwr : IntKind.i64.wrap ((lo : Int) + 4) = (lo : Int) + 4 := IntWalk.i64_in _ (by omega)
         have hbd : decide ((65000 : Int) < (lo : Int) + 4) = false := decide_eq_false hbi
         clear hbi hqb hpn1 hcd hw8
         go_wp2_with fail
         refine HSe.out.mono ?_
         rintro e w9 ⟨A9, c9, rfl, ho9, he9⟩
         go_wp2_with fail
         go_ret2
         exact PEncPost.good _ (by rw [HR2.out.1, HR2.out.2]) (by rw [sl_len, ← Hlo.out]) (ho9.mono HE8.out.size) (HE8.out.trans he9)
theorem noLong12 : ∀ {ss : List (List Nat)}, (∀ s ∈ ss, s.length ≤ 200) → anyLong ss = false := by
 intro ss h
 cases q : anyLong ss with
 | false => rfl
 | true =>
   unfold anyLong at q
   obtain ⟨s, hs, hl⟩ := List.any_eq_true.1 q
   have h2 := h s hs
   have h3 := of_decide_eq_true hl
   omega
theorem valR_ok (k cd : Int) {xs : List Ci} (h2 : ∀ x ∈ xs, x.txt.length ≤ 200) (hn : xs.length ≤ 4096) : (valR k cd xs).2 = 0 := by
 have h3 : ∀ s ∈ xs.map Ci.txt, s.length ≤ 200 := fun s hs => by
   obtain ⟨x, hx, rfl⟩ := List.mem_map.1 hs
   exact h2 x hx
 unfold valR
 split
 · unfold encode8; rw [if_neg (by rw [List.length_map]; omega)]
 · split
   · unfold encode9; rw [if_neg (by rw [List.length_map]; omega)]
   · split
     · rw [dencR_good (by rw [List.length_map]; exact hn) (noLong12 h3)]
     · split
       · rw [pencR_good (by rw [List.length_map]; exact hn) (noLong12 h3)]
       · rfl
theorem putR_outW (k cd : Int) {xs : List Ci} (h : chkB k xs = 0) : putR k cd xs = (outW k cd xs, 0) := by
 obtain ⟨g1, _, g3⟩ := chkB_good h
 unfold putR
 rw [if_neg (fun q => q (valR_ok k cd (fun x hx => g3 x (nn_mem hx)) (by have := nn_le xs; omega)))]
 rfl
section
variable {fs xs : List Ci} (h : fs.map Ci.val = xs.map Ci.val)
include h
theorem val_len12 : fs.length = xs.length := by simpa using congrArg List.length h
theorem val_num12 : fs.map Ci.num = xs.map Ci.num := by
 have := congrArg (List.map fun v => v.2.1) h
 rw [List.map_map, List.map_map] at this
 exact this
theorem val_txt12 : fs.map Ci.txt = xs.map Ci.txt := by
 have := congrArg (List.map fun v => v.2.2) h
 rw [List.map_map, List.map_map] at this
 exact this
theorem val_nb12 : nb fs = nb xs := by
 have := congrArg (List.map fun v => if v.1 then 1 else 0) h
 rw [List.map_map, List.map_map] at this
 exact this
theorem val_plain12 (k : Int) : plainL k fs = plainL k xs := by
 have := congrArg (fun l => (List.map (fun v => if numK k then vput (foldS v.2.1).toNat else vput v.2.2.length ++ v.2.2) l).flatten) h
 simp only [List.map_map] at this
 exact this
theorem valR_val12 (k cd : Int) : valR k cd fs = valR k cd xs := by
 unfold valR
 rw [val_num12 h, val_txt12 h, val_plain12 h]
end
theorem nn_val12 : ∀ {fs xs : List Ci}, fs.map Ci.val = xs.map Ci.val → (nn fs).map Ci.val = (nn xs).map Ci.val
 | [], [], _ => rfl
 | [], _ :: _, h => by cases h
 | _ :: _, [], h => by cases h
 | f :: fs, x :: xs, h => by
   rw [List.map_cons, List.map_cons] at h
   injection h with h1 h2
   have ih := nn_val12 h2
   have h3 : f.nul = x.nul := congrArg Prod.fst h1
   unfold nn at ih ⊢
   rw [List.filter_cons, List.filter_cons, h3]
   split
   · rw [List.map_cons, List.map_cons, h1, ih]
   · exact ih
theorem putR_val12 {fs xs : List Ci} (h : fs.map Ci.val = xs.map Ci.val) (k cd : Int) : putR k cd fs = putR k cd xs := by
 unfold putR nullsL
 rw [valR_val12 (nn_val12 h), val_len12 h, val_nb12 h]
theorem sealL_len (b : List Nat) : (sealL b).length ≤ 65000 := by
 unfold sealL
 split
 · simp
 · rw [sl_len]; omega
theorem wN_fwd : ∀ (xs : List Ci), (∀ x ∈ xs, x.nul = true → x.num = 0 ∧ x.txt = []) → wN (nb xs) ((nn xs).map Ci.val) = xs.map Ci.val
 | [], _ => rfl
 | x :: r, h => by
   have ih := wN_fwd r (fun y hy => h y (List.mem_cons_of_mem _ hy))
   have hx := h x (List.mem_cons_self ..)
   obtain ⟨nu, num, A, c, t⟩ := x
   cases nu with
   | true =>
     obtain ⟨h1, h2⟩ := hx rfl
     simp only at h1 h2
     subst h1 h2
     show wN (1 :: nb r) ((nn r).map Ci.val) = _
     rw [wN_null rfl, ih]
     rfl
   | false =>
     show wN (0 :: nb r) (Ci.val ⟨false, num, A, c, t⟩ :: (nn r).map Ci.val) = _
     rw [wN_val (by decide), ih]
     rfl
theorem nb_count : ∀ (xs : List Ci), (nb xs).count 0 = (nn xs).length
 | [] => rfl
 | x :: r => by
   have ih := nb_count r
   obtain ⟨nu, num, A, c, t⟩ := x
   cases nu with
   | true =>
     show (1 :: nb r).count 0 = (nn r).length
     rw [List.count_cons_of_ne (by decide), ih]
   | false =>
     show (0 :: nb r).count 0 = (nn r).length + 1
     rw [List.count_cons_self, ih]
theorem nullR_fwd (pre rest : List Nat) {xs : List Ci} (hn : xs.length ≤ 4096) :
   nullR (pre ++ (nullsL xs ++ rest)) pre.length xs.length = ((nb xs, ((pre.length + (nullsL xs).length : Nat) : Int)), 0) := by
 by_cases h1 : 1 ∈ nb xs
 · have hN : nullsL xs = 1 :: packB 1 (nb xs) := if_pos h1
   obtain ⟨R, hR⟩ : ∃ R, R = packB 1 (nb xs) := ⟨_, rfl⟩
   obtain ⟨u1, u2, _⟩ := unp_pack (wd := 1) (vs := nb xs) (by decide) (by rw [nb_len]; exact hn) (nb_wd xs)
   rw [← hR, nb_len] at u1 u2
   have hRl : R.length = (xs.length + 7) / 8 := by rw [hR]; unfold packB; rw [upk_len, nb_len, Nat.one_mul]
   rw [← hR] at hN
   rw [hN]
   unfold nullR
   rw [if_neg (by simp)]
   have hg : (pre ++ (1 :: R ++ rest)).getD pre.length 0 = 1 := by simp
   rw [hg, if_neg (by decide), if_pos rfl]
   have hd : ((pre ++ (1 :: R ++ rest)).drop (pre.length + 1)).take ((xs.length + 7) / 8) = R := by
     rw [← List.drop_drop, List.drop_left, List.cons_append, List.drop_succ_cons, List.drop_zero, ← hRl, List.take_left]
   unfold rowR
   rw [hd, ← hRl, if_neg (by simp; omega)]
   have u1' : unpE (pk 8 R) R.length 1 (xs.length : Int) = 0 := u1
   have u2' : unpL (pk 8 R) R.length 1 (xs.length : Int) = nb xs := u2
   rw [u1', u2', if_neg (fun q => q rfl), if_neg (by have := List.count_pos_iff.2 h1; omega), List.length_cons]
   congr 3
   omega
 · have hN : nullsL xs = [0] := if_neg h1
   rw [hN]
   unfold nullR
   rw [if_neg (by simp)]
   have hg : (pre ++ ([0] ++ rest)).getD pre.length 0 = 0 := by simp
   rw [hg, if_pos rfl]
   have hb : nb xs = List.replicate xs.length 0 := by
     rw [← nb_len xs]
     exact List.eq_replicate_of_mem fun v hv => by
       have h2 := nb_wd xs v hv
       have h3 : v ≠ 1 := fun e => h1 (e ▸ hv)
       omega
   rw [← hb]
   rfl
def Canon (k : Int) (ys : List Ci) : Prop := ∀ y ∈ ys, y.nul = false ∧ (numK k = true → y.txt = []) ∧ (numK k = false → y.num = 0) ∧ R64 y.num ∧ y.txt.length ≤ 200
theorem pcR_fwd {k : Int} {y : Ci} (pre rest : List Nat) (h1 : numK k = true → y.txt = []) (h2 : numK k = false → y.num = 0) (h3 : R64 y.num) (h4 : y.txt.length ≤ 200) :
   pcR k (pre ++ (plain1 k y ++ rest)) (pre.length : Int) = ((y.num, y.txt), ((pre.length + (plain1 k y).length : Nat) : Int), 0) := by
 unfold pcR plain1
 cases hk : numK k with
 | true =>
   rw [if_pos rfl, if_pos rfl]
   have hr := fold_range h3
   obtain ⟨g, _, _⟩ := vget_put (bs := pre ++ (vput (foldS y.num).toNat ++ rest)) (rest := rest) (a := pre.length) (u := (foldS y.num).toNat) (by omega) (by simp) (by rw [List.drop_left])
   rw [g, if_neg (fun q => q rfl), h1 hk]
   simp only
   rw [Int.toNat_of_nonneg hr.1, unf_fold]
   congr 2
 | false =>
   rw [if_neg (by decide), if_neg (by decide), List.append_assoc, dtx_put pre y.txt rest h4, h2 hk]
   congr 2
theorem plA_fwd {k : Int} : ∀ (ys : List Ci) (pre : List Nat) (acc : List Cv), Canon k ys → plA k (pre ++ plainL k ys) ys.length (pre.length : Int) acc = (acc ++ ys.map Ci.val, ((pre ++ plainL k ys).length : Int), 0)
 | [], pre, acc, _ => by simp [plA, plainL]
 | y :: r, pre, acc, h => by
   obtain ⟨y0, y1, y2, y3, y4⟩ := h y (List.mem_cons_self ..)
   have e : plainL k (y :: r) = plain1 k y ++ plainL k r := by simp [plainL]
   have ih := plA_fwd r (pre ++ plain1 k y) (acc ++ [(false, y.num, y.txt)]) (fun z hz => h z (List.mem_cons_of_mem _ hz))
   rw [List.length_cons]
   unfold plA
   rw [e, pcR_fwd pre (plainL k r) y1 y2 y3 y4, if_neg (fun q => q rfl)]
   simp only
   rw [List.append_assoc, List.length_append] at ih
   rw [ih, List.map_cons, List.append_assoc]
   have hv : y.val = (false, y.num, y.txt) := by unfold Ci.val; rw [y0]
   rw [hv]
   rfl
theorem valuesR_fwd (k cd : Int) (hm : cd ∈ codecs k) {ys : List Ci} (hc : Canon k ys) (hl : ys.length ≤ 4096) : valuesR k cd (valR k cd ys).1 ys.length = (ys.map Ci.val, 0) := by
 have h64 : R64s (ys.map Ci.num) := fun v hv => by
   obtain ⟨y, hy, rfl⟩ := List.mem_map.1 hv
   exact (hc y hy).2.2.2.1
 have h200 : ∀ s ∈ ys.map Ci.txt, s.length ≤ 200 := fun s hs => by
   obtain ⟨y, hy, rfl⟩ := List.mem_map.1 hs
   exact (hc y hy).2.2.2.2
 have hz : numK k = true → (ys.map Ci.num).map (fun v => (false, v, ([] : List Nat))) = ys.map Ci.val := fun hk => by
   rw [List.map_map]
   refine List.map_congr_left fun y hy => ?_
   obtain ⟨y0, y1, _⟩ := hc y hy
   show (false, y.num, []) = (y.nul, y.num, y.txt)
   rw [y0, y1 hk]
 have ht : numK k = false → (ys.map Ci.txt).map (fun t => (false, (0 : Int), t)) = ys.map Ci.val := fun hk => by
   rw [List.map_map]
   refine List.map_congr_left fun y hy => ?_
   obtain ⟨y0, _, y2, _⟩ := hc y hy
   show (false, 0, y.txt) = (y.nul, y.num, y.txt)
   rw [y0, y2 hk]
 have hln : (ys.map Ci.num).length = ys.length := List.length_map ..
 have hlt : (ys.map Ci.txt).length = ys.length := List.length_map ..
 unfold valuesR
 by_cases c1 : cd = 1
 · subst c1
   rw [if_pos rfl]
   have hv : valR k 1 ys = (plainL k ys, 0) := rfl
   rw [hv]
   have h := plA_fwd ys [] [] hc
   rw [List.nil_append, List.nil_append] at h
   unfold gplR
   have h' : plA k (plainL k ys) ys.length 0 [] = (ys.map Ci.val, ((plainL k ys).length : Int), 0) := h
   rw [h', if_neg (fun q => q rfl), if_neg (Int.lt_irrefl _)]
 rw [if_neg c1]
 have done : ∀ b, codR cd b = (ys.map Ci.val, 0) → (if (codR cd b).2 ≠ 0 then (([] : List Cv), (codR cd b).2) else if (codR cd b).1.length ≠ ys.length then ([], 5) else ((codR cd b).1, 0)) = (ys.map Ci.val, 0) := fun b hb => by
   rw [hb, if_neg (fun q => q rfl), if_neg (fun q => q (List.length_map ..))]
 refine done _ ?_
 unfold codR valR
 unfold codecs at hm
 cases hk : numK k with
 | true =>
   rw [hk, if_pos rfl] at hm
   by_cases c2 : cd = 2
   · subst c2
     rw [if_pos rfl, if_pos rfl]
     have hs : encode8 (ys.map Ci.num) = (encR (rsp (ys.map Ci.num)), 0) := by unfold encode8; rw [if_neg (by omega)]
     have hd : decode8 (encR (rsp (ys.map Ci.num))) = (ys.map Ci.num, 0) := by
       have := decode8_enc (rs := rsp (ys.map Ci.num)) [] (rsp_good h64) (by rw [rsp_flat h64]; omega)
       rw [List.append_nil, if_pos rfl, rsp_flat h64] at this
       exact this
     rw [hs, hd]
     unfold zR
     rw [if_neg (fun q => q rfl), hz hk]
   · have c3 : cd = 3 := by simp at hm; omega
     subst c3
     rw [if_neg (by decide), if_pos rfl, if_neg (by decide), if_pos rfl]
     have hs : encode9 (ys.map Ci.num) = (encP (ys.map Ci.num), 0) := by unfold encode9; rw [if_neg (by omega)]
     rw [hs, (back9 h64 (by omega)).1]
     unfold zR
     rw [if_neg (fun q => q rfl), hz hk]
 | false =>
   rw [hk, if_neg (by decide)] at hm
   by_cases c4 : cd = 4
   · subst c4
     rw [if_neg (by decide), if_neg (by decide), if_pos rfl, if_neg (by decide), if_neg (by decide), if_pos rfl, dencR_good (by omega) (noLong12 h200), ddec_put (by omega) (noLong12 h200)]
     unfold tR
     rw [if_neg (fun q => q rfl), ht hk]
   · have c5 : cd = 5 := by simp at hm; omega
     subst c5
     rw [if_neg (by decide), if_neg (by decide), if_neg (by decide), if_neg (by decide), if_neg (by decide), if_neg (by decide), if_pos rfl, pencR_good (by omega) (noLong12 h200)]
     have hp := pdec_put (ys.map Ci.txt) [] (by omega) h200
     rw [List.append_nil] at hp
     have hp2 : pdec (penc (ys.map Ci.txt)) = (ys.map Ci.txt, 0) := hp
     show tR (pdec (penc (ys.map Ci.txt))) = _
     rw [hp2]
     unfold tR
     rw [if_neg (fun q => q rfl), ht hk]
theorem chk_canon {k : Int} {nul : Bool} {num : Int} {txt : List Nat} (hk : 1 ≤ k ∧ k ≤ 8) (h : chk k true nul num txt = 0) :
   (nul = true → num = 0 ∧ txt = []) ∧ (nul = false → (numK k = true → txt = []) ∧ (numK k = false → num = 0)) := by
 constructor
 · rintro rfl
   rw [chk_null hk, if_pos rfl] at h
   by_cases q : num ≠ 0 ∨ 0 < txt.length
   · rw [if_pos q] at h; exact absurd h (by decide)
   · exact ⟨Decidable.not_not.1 (fun e => q (.inl e)), List.eq_nil_of_length_eq_zero (by have : ¬ 0 < txt.length := fun e => q (.inr e); omega)⟩
 · rintro rfl
   constructor
   · intro h6
     have h6' := of_decide_eq_true h6
     rw [chk_num h6'] at h
     by_cases q : 0 < txt.length
     · rw [if_pos q] at h; exact absurd h (by decide)
     · exact List.eq_nil_of_length_eq_zero (by omega)
   · intro h6
     have h6' := of_decide_eq_false h6
     rw [chk_txt (by omega)] at h
     by_cases q : num ≠ 0
     · rw [if_pos q] at h; exact absurd h (by decide)
     · exact Decidable.not_not.1 q
theorem canon_of {k : Int} {xs : List Ci} (hk : 1 ≤ k ∧ k ≤ 8) (h : chkB k xs = 0) (h64 : R64s (xs.map Ci.num)) : Canon k (nn xs) ∧ ∀ x ∈ xs, x.nul = true → x.num = 0 ∧ x.txt = [] := by
 obtain ⟨_, g2, g3⟩ := chkB_good h
 refine ⟨fun y hy => ?_, fun x hx hn => (chk_canon hk (g2 x hx)).1 hn⟩
 have hyx := nn_mem hy
 have hn : y.nul = false := by
   have := (List.mem_filter.1 hy).2
   simpa using this
 obtain ⟨c1, c2⟩ := (chk_canon hk (g2 y hyx)).2 hn
 exact ⟨hn, c1, c2, h64 _ (List.mem_map_of_mem hyx), g3 y hyx⟩
theorem getB_fwd (k cd : Int) (hm : cd ∈ codecs k) (hk : 1 ≤ k ∧ k ≤ 8) {xs : List Ci} (h : chkB k xs = 0) (h64 : R64s (xs.map Ci.num)) : getB k (outW k cd xs) = (xs.map Ci.val, 0) := by
 obtain ⟨hc, hnul⟩ := canon_of hk h h64
 obtain ⟨g1, _, _⟩ := chkB_good h
 have hcd := codecs_mem hm
 obtain ⟨d, rfl⟩ : ∃ d : Nat, cd = d := ⟨cd.toNat, by omega⟩
 have hv := valuesR_fwd k d hm hc (by have := nn_le xs; omega)
 have hbs : outW k d xs = ([d] ++ vput xs.length) ++ (nullsL xs ++ (valR k d (nn xs)).1) := by unfold outW; rw [Int.toNat_natCast, List.append_assoc]
 obtain ⟨V, hV⟩ : ∃ V, V = (valR k d (nn xs)).1 := ⟨_, rfl⟩
 rw [← hV] at hv hbs
 have hN := nullR_fwd ([d] ++ vput xs.length) V g1
 rw [← hbs] at hN
 obtain ⟨bs, hb⟩ : ∃ bs, bs = outW k d xs := ⟨_, rfl⟩
 rw [← hb] at hN hbs ⊢
 have hlen : bs.length ≠ 0 := by rw [hbs]; simp
 have hd0 : bs.getD 0 0 = d := by rw [hbs]; rfl
 obtain ⟨q, _, _⟩ := vget_put (bs := bs) (rest := nullsL xs ++ V) (a := 1) (u := xs.length) (by omega) (by omega) (by rw [hbs]; rfl)
 have q' : vget bs 1 = (xs.length, ((([d] ++ vput xs.length).length : Nat) : Int), 0) := by
   have q1 : vget bs 1 = (xs.length, 1 + ((vput xs.length).length : Int), 0) := q
   rw [q1, List.length_append, List.length_singleton]
   congr 2
 have hdrop : bs.drop (([d] ++ vput xs.length).length + (nullsL xs).length) = V := by
   rw [hbs, ← List.drop_drop, List.drop_left, List.drop_left]
 unfold getB
 rw [if_neg hlen, hd0, if_neg (fun e => e hm), q']
 simp only [Int.toNat_natCast]
 rw [hN]
 simp only [Int.toNat_natCast]
 rw [hdrop, nb_count, hv]
 simp only [ne_eq, not_true_eq_false, if_false]
 rw [if_neg (by omega), wN_fwd xs hnul]
theorem bencR_ok {k cd : Int} {xs : List Ci} (h : (bencR k cd xs).2 = 0) : (1 ≤ k ∧ k ≤ 8) ∧ cd ∈ codecs k ∧ chkB k xs = 0 ∧ (outW k cd xs).length + 4 ≤ 65000 ∧ bencR k cd xs = (sl (outW k cd xs), 0) := by
 unfold bencR at h ⊢
 by_cases h1 : kindK k = false
 · rw [if_pos h1] at h; exact absurd h (by decide)
 rw [if_neg h1] at h ⊢
 by_cases h2 : cd ∈ codecs k
 · rw [if_neg (fun q => q h2)] at h ⊢
   by_cases h3 : chkB k xs = 0
   · rw [if_neg (fun q => q h3), putR_outW k cd h3, if_neg (fun q => q rfl)] at h ⊢
     have h4 : sealE (outW k cd xs) = 0 := h
     have h5 : (outW k cd xs).length + 4 ≤ 65000 := by
       unfold sealE at h4
       by_cases q : 65000 < (outW k cd xs).length + 4
       · rw [if_pos q] at h4; exact absurd h4 (by decide)
       · omega
     refine ⟨?_, h2, h3, h5, ?_⟩
     · exact Decidable.byContradiction fun q => h1 (decide_eq_false q)
     · simp only
       rw [h4]
       unfold sealL
       rw [if_neg (by omega)]
   · rw [if_pos h3] at h; exact absurd h h3
 · rw [if_pos h2] at h; exact absurd h (by decide)
theorem bdec_fwd {k cd : Int} {xs : List Ci} (h64 : R64s (xs.map Ci.num)) (hu : ∀ x ∈ xs, U8 x.txt) (h : (bencR k cd xs).2 = 0) : bdecR k (bencR k cd xs).1 = (xs.map Ci.val, 0) := by
 obtain ⟨hk, hm, hc, hl, he⟩ := bencR_ok h
 rw [he]
 have hU := outW_u8 k cd (codecs_mem hm) h64 hu
 have hG := getB_fwd k cd hm hk hc h64
 obtain ⟨O, hO⟩ : ∃ O, O = outW k cd xs := ⟨_, rfl⟩
 rw [← hO] at hU hG hl ⊢
 show bdecR k (sl O) = _
 have ht : (sl O).take ((sl O).length - 4) = O := by
   rw [sl_len, Nat.add_sub_cancel]
   unfold sl
   rw [List.take_left]
 unfold bdecR
 rw [if_neg (by unfold kindK; rw [decide_eq_true hk]; decide), if_neg (by rw [sl_len]; omega), if_neg (fun q => q (sld_seal hU)), ht, hG, if_neg (fun q => q rfl)]
 simp only
 rw [← chkB_val, hc, if_neg (fun q => q rfl)]
theorem bestF_spec {k : Int} {xs : List Ci} (hc : chkB k xs = 0) : ∀ (L : List Int) (s : Int × List Nat), (∀ cd ∈ L, cd ∈ codecs k) → (s.1 ≠ 0 → s.2 = outW k s.1 xs ∧ s.1 ∈ codecs k) →
   ∃ r, bestF k xs L s = (r, 0) ∧ (r.1 ≠ 0 → r.2 = outW k r.1 xs ∧ r.1 ∈ codecs k) ∧ (∀ cd ∈ L, r.1 ≠ 0 ∧ r.2.length ≤ (outW k cd xs).length) ∧ (s.1 ≠ 0 → r.1 ≠ 0 ∧ r.2.length ≤ s.2.length)
 | [], s, _, hs => ⟨s, rfl, hs, fun cd h => (by cases h), fun h => ⟨h, Nat.le_refl _⟩⟩
 | cd :: cs, s, hL, hs => by
   have hcd := hL cd (List.mem_cons_self ..)
   have hne : cd ≠ 0 := by have := codecs_mem hcd; omega
   unfold bestF
   rw [putR_outW k cd hc, if_neg (fun q => q rfl)]
   simp only
   by_cases q : s.1 = 0 ∨ (outW k cd xs).length < s.2.length
   · rw [if_pos q]
     obtain ⟨r, r1, r2, r3, r4⟩ := bestF_spec hc cs (cd, outW k cd xs) (fun c h => hL c (List.mem_cons_of_mem _ h)) (fun _ => ⟨rfl, hcd⟩)
     obtain ⟨r5, r6⟩ := r4 hne
     refine ⟨r, r1, r2, fun c h => ?_, fun h => ⟨r5, ?_⟩⟩
     · rcases List.mem_cons.1 h with rfl | h
       · exact ⟨r5, r6⟩
       · exact r3 c h
     · have r6' : r.2.length ≤ (outW k cd xs).length := r6
       rcases q with q | q
       · exact absurd q h
       · omega
   · rw [if_neg q]
     have hs1 : s.1 ≠ 0 := fun e => q (.inl e)
     have hs2 : ¬ (outW k cd xs).length < s.2.length := fun e => q (.inr e)
     obtain ⟨r, r1, r2, r3, r4⟩ := bestF_spec hc cs s (fun c h => hL c (List.mem_cons_of_mem _ h)) hs
     obtain ⟨r5, r6⟩ := r4 hs1
     refine ⟨r, r1, r2, fun c h => ?_, r4⟩
     rcases List.mem_cons.1 h with rfl | h
     · exact ⟨r5, by omega⟩
     · exact r3 c h
end Go.Proofs.YthibbgmicmfkfaaGreat
