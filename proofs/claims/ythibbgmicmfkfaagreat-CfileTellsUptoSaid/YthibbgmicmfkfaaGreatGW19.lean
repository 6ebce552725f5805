import Derived.Test.YthibbgmicmfkfaaGreatGW18
namespace Go.Proofs.YthibbgmicmfkfaaGreat
open Go.RowKit
set_option maxRecDepth 100000
set_option maxHeartbeats 6400000 in
theorem putFooterT (g : Nat) (f : FlM) (w : World) (h : FilR w g f) (ok : FlB f) (hkk : f.ks = true) :
   Calls Tryz.prog 134 #[.pointer (some ⟨g, 0, none⟩)] w fun e w' => ∃ A' c', e = .returned (.slice A' (ftB f).length c') ∧ Own .u8 5 w' w.heap.size A' c' (ftB f) ∧ Ext w w' := by
 obtain ⟨Ab, cb, Af, cf, bs, fs, hF, hB, hFs, hmb, hmf, hsb, hsf⟩ := h.ex
 obtain ⟨r, hr⟩ : ∃ r, r = f.rows := ⟨_, rfl⟩
 obtain ⟨p, hp⟩ : ∃ r, r = f.per := ⟨_, rfl⟩
 obtain ⟨nb, hnb⟩ : ∃ r, r = f.bs.length := ⟨_, rfl⟩
 obtain ⟨nf, hnf⟩ : ∃ r, r = f.fs.length := ⟨_, rfl⟩
 obtain ⟨k, hk⟩ : ∃ r, r = f.k := ⟨_, rfl⟩
 obtain ⟨ks, hks⟩ : ∃ r, r = f.ks := ⟨_, rfl⟩
 obtain ⟨mk, hmk⟩ : ∃ m : Nat, m = if ks then 1 else 0 := ⟨_, rfl⟩
 have hBl := ftB_len ok
 have hH : ftH f = [k, mk] ++ (vput r ++ (vput p ++ vput nb)) := by rw [hmk, hk, hr, hp, hnb, hks]; rfl
 have hHl := ftH_len ok
 have hk8 := ok.k
 have hr4 := ok.rows
 have hp4 := ok.per
 have hn4 := ok.nb
 rw [← hk] at hk8
 rw [← hr] at hr4
 rw [← hp] at hp4
 rw [← hnb] at hn4
 have K := Lib.hid (fun W (hW : Ext w W) => (show W.cell? ⟨g, 0, none⟩ = some (.int .i64 (k : Int)) ∧ W.cell? ⟨g, 1, none⟩ = some (.bool ks) ∧ W.cell? ⟨g, 2, none⟩ = some (.int .i64 (r : Int)) ∧ W.cell? ⟨g, 3, none⟩ = some (.int .i64 (p : Int)) ∧ W.cell? ⟨g, 4, none⟩ = some (.slice Ab nb cb) ∧ W.cell? ⟨g, 5, none⟩ = some (.slice Af nf cf) from by
   rw [hk, hks, hr, hp, hnb, hnf]
   exact ⟨(hW.cells _ _ hF.lt).trans hF.c0, (hW.cells _ _ hF.lt).trans hF.c1, (hW.cells _ _ hF.lt).trans hF.c2, (hW.cells _ _ hF.lt).trans hF.c3, (hW.cells _ _ hF.lt).trans hF.c4, (hW.cells _ _ hF.lt).trans hF.c5⟩))
 have KB := Lib.hid (fun W (hW : Ext w W) => (show RdL W Ab nb bs ∧ RdL W Af nf fs from by rw [hnb, hnf]; exact ⟨hB.ext hW, hFs.ext hW⟩))
 have HN1 := Lib.hid (fun W => putNumC_any r W (by omega))
 have HN2 := Lib.hid (fun W => putNumC_any p W (by omega))
 have HN3 := Lib.hid (fun W => putNumC_any nb W (by omega))
 obtain ⟨V1, hV1⟩ : ∃ V, V = vput r := ⟨_, rfl⟩
 obtain ⟨V2, hV2⟩ : ∃ V, V = vput p := ⟨_, rfl⟩
 obtain ⟨V3, hV3⟩ : ∃ V, V = vput nb := ⟨_, rfl⟩
 rw [← hV1] at HN1 hH
 rw [← hV2] at HN2 hH
 rw [← hV3] at HN3 hH
 have hfl : ([[k, mk], V1, V2, V3] : List (List Nat)).flatten = ftH f := by rw [hH]; simp
 have HC := Lib.hid (fun W A (hW : RdSS W A 4 [[k, mk], V1, V2, V3]) => concat_any A 4 4 [[k, mk], V1, V2, V3] W hW (by rw [hfl]; omega) (by decide))
 rw [hfl] at HC
 have HT0 := Lib.hid (show ftH f ++ ftT f 0 = ftH f from List.append_nil _)
 obtain ⟨H, hHd⟩ : ∃ V, V = ftH f := ⟨_, rfl⟩
 rw [← hHd] at HC HT0 hHl
 have Hbl := Lib.hid hBl
 have HHd := Lib.hid hHd
 have Hks := Lib.hid hks
 have Hok := Lib.hid ok
 have Hnb := Lib.hid hnb
 have Hnf := Lib.hid hnf
 have Hmb := Lib.hid hmb
 have Hmf := Lib.hid hmf
 have hkw : IntKind.u8.wrap (k : Int) = (k : Int) := IntWalk.u8_in _ (by omega)
 clear h ok hF hB hFs hmb hmf hr hp hnb hnf hk hks hBl hH hHd hV1 hV2 hV3 hfl
 obtain ⟨k0, k1, k2, k3, k4, k5⟩ := K.out _ (Ext.refl w)
 have hkz : ks = true := Hks.out.trans hkk
 subst hkz
 clear hkk
 obtain rfl : mk = 1 := hmk
 go_enter Tryz.func134, Tryz.ntmps134
 go_wp2_with fail
 go_region_held3 (fun W => W.cell? ⟨g, 0, none⟩ = some (.int .i64 (k : Int)) ∧ W.cell? ⟨g, 2, none⟩ = some (.int .i64 (r : Int)) ∧ W.cell? ⟨g, 3, none⟩ = some (.int .i64 (p : Int)) ∧ W.cell? ⟨g, 4, none⟩ = some (.slice Ab nb cb))
   (first | (refine ⟨(K.out _ ?_).1, (K.out _ ?_).2.2.1, (K.out _ ?_).2.2.2.1, (K.out _ ?_).2.2.2.2.1⟩ <;> (repeat (first | exact Ext.refl _ | (with_reducible refine Ext.trans ?_ he4) | (with_reducible refine Ext.trans ?_ he3) | (with_reducible refine Ext.trans ?_ he2) | (with_reducible refine Ext.trans ?_ he1) | apply Ext.drew | apply Ext.alloc | fail))) | fail)
   (first
     | (go_at_call 163; (with_reducible refine (HN1.out _).mono ?_); rintro e w1 ⟨A1, c1, rfl, ho1, he1⟩)
     | (go_at_call 163; (with_reducible refine (HN2.out _).mono ?_); rintro e w2 ⟨A2, c2, rfl, ho2, he2⟩)
     | (go_at_call 163; (with_reducible refine (HN3.out _).mono ?_); rintro e w3 ⟨A3, c3, rfl, ho3, he3⟩)
     | (go_at_call 109; (with_reducible refine (HC.out _ _ ?_).mono ?_); (focus (refine RdSS.four 22 _ (by first | rfl | exact World.size_alloc _ _) ?_ ?_ ?_ ?_; (focus (first | (focus (refine Rd.ext (Rd.lit_at .u8 5 w [k, 1] rfl rfl) ?_; (repeat (first | exact Ext.refl _ | (with_reducible refine Ext.trans ?_ he3) | (with_reducible refine Ext.trans ?_ he2) | (with_reducible refine Ext.trans ?_ he1) | apply Ext.drew | apply Ext.alloc | fail)); done)) | (focus (refine Rd.ext (Rd.lit_at .u8 5 w1 [k, 1] rfl rfl) ?_; (repeat (first | exact Ext.refl _ | (with_reducible refine Ext.trans ?_ he3) | (with_reducible refine Ext.trans ?_ he2) | (with_reducible refine Ext.trans ?_ he1) | apply Ext.drew | apply Ext.alloc | fail)); done)) | (focus (refine Rd.ext (Rd.lit_at .u8 5 w2 [k, 1] rfl rfl) ?_; (repeat (first | exact Ext.refl _ | (with_reducible refine Ext.trans ?_ he3) | (with_reducible refine Ext.trans ?_ he2) | (with_reducible refine Ext.trans ?_ he1) | apply Ext.drew | apply Ext.alloc | fail)); done)) | (focus (refine Rd.ext (Rd.lit_at .u8 5 w3 [k, 1] rfl rfl) ?_; (repeat (first | exact Ext.refl _ | (with_reducible refine Ext.trans ?_ he3) | (with_reducible refine Ext.trans ?_ he2) | (with_reducible refine Ext.trans ?_ he1) | apply Ext.drew | apply Ext.alloc | fail)); done)))); (focus (refine Rd.ext ho1.rd ?_; (repeat (first | exact Ext.refl _ | (with_reducible refine Ext.trans ?_ he3) | (with_reducible refine Ext.trans ?_ he2) | (with_reducible refine Ext.trans ?_ he1) | apply Ext.drew | apply Ext.alloc | fail)); done)); (focus (refine Rd.ext ho2.rd ?_; (repeat (first | exact Ext.refl _ | (with_reducible refine Ext.trans ?_ he3) | (with_reducible refine Ext.trans ?_ he2) | (with_reducible refine Ext.trans ?_ he1) | apply Ext.drew | apply Ext.alloc | fail)); done)); (focus (refine Rd.ext ho3.rd ?_; (repeat (first | exact Ext.refl _ | (with_reducible refine Ext.trans ?_ he3) | (with_reducible refine Ext.trans ?_ he2) | (with_reducible refine Ext.trans ?_ he1) | apply Ext.drew | apply Ext.alloc | fail)); done)))); rintro e w4 ⟨A4, c4, rfl, ho4, he4⟩)
     | fail)
 all_goals
   have hE4 : Ext w w4 := by
     repeat (first | exact Ext.refl _ | (with_reducible refine Ext.trans ?_ he4) | (with_reducible refine Ext.trans ?_ he3) | (with_reducible refine Ext.trans ?_ he2) | (with_reducible refine Ext.trans ?_ he1) | apply Ext.drew | apply Ext.alloc | fail)
   have hB4 : w.heap.size ≤ w3.heap.size + 1 := by have := he1.size; have := he2.size; have := he3.size; simp at *; omega
   have ho5 := ho4.mono (base' := w.heap.size) (by first | exact hB4 | (simp; omega))
   have HE4 := Lib.hid hE4
   have HO5 := Lib.hid ho5
   clear ho1 ho2 ho3 ho4 he1 he2 he3 he4 hE4 ho5 hB4
   obtain ⟨k0, k1, k2, k3, k4, k5⟩ := K.out _ HE4.out
   go_wp2_with fail
   go_loopw [4, 5, 40] (fun v _ i wr => ∃ (j : Nat) (P : List Nat) (A' : Option Addr) (c' : Nat), j ≤ nb ∧ i = .int .i64 (j : Int) ∧ v = .slice A' P.length c' ∧ Hid (P = H ++ ftT f j) ∧ Hid (Own .u8 5 wr w.heap.size A' c' P) ∧ Hid (Ext w wr)) (fun _ _ i _ => nb - (intOf i).toNat)
   case atStart => exact ⟨0, H, A4, c4, Nat.zero_le _, rfl, rfl, Lib.hid HT0.out.symm, HO5.out, HE4.out⟩
   case round =>
     clear HE4 HO5 k0 k1 k2 k3 k4 k5
     obtain ⟨j, P, A', c', hj, rfl, rfl, HP, HO, HE⟩ := hrel
     obtain ⟨k0, k1, k2, k3, k4, k5⟩ := K.out _ HE.out
     by_cases hlt : j < nb
     · obtain ⟨b, o, hA, hbl, hcell⟩ := (KB.out _ HE.out).1.2 (by omega)
       have hjb : j < bs.length := by rw [(KB.out _ HE.out).1.1]; exact hlt
       obtain ⟨s, hse⟩ : ∃ s, s = bs[j] := ⟨_, rfl⟩
       have hsi : bs[j]? = some s := by rw [hse]; exact List.getElem?_eq_getElem hjb
       have hcs := hcell j s hsi
       have hbody : s.body = f.bs.getD j [] := by
         rw [← Hmb.out, List.getD_eq_getElem?_getD, List.getElem?_map, hsi]
         rfl
       have hzl : s.body.length ≤ 65000 := by rw [hbody]; exact getD_le Hok.out.zb j
       have hPl : P.length ≤ 2000000 := by
         have h1 := ftT_len Hok.out j
         rw [HP.out, List.length_append]
         omega
       have HST := Lib.hid (show H ++ ftT f (j + 1) = (H ++ ftT f j) ++ ftE f.ks (f.bs.getD j []) (f.fs.getD j []) from (List.append_assoc ..).symm)
       rw [← HP.out, ← hbody] at HST
       have HSE := Lib.hid (show ftE true s.body (f.fs.getD j []) = vput s.body.length ++ (if true then vput (f.fs.getD j []).length ++ f.fs.getD j [] else []) from rfl)
       rw [← Hks.out] at HST
       obtain ⟨y, hy⟩ : ∃ y, y = s.body.length := ⟨_, rfl⟩
       have hsv : s.v = .slice s.A y s.c := by rw [hy]; rfl
       rw [hsv] at hcs
       rw [← hy] at hzl HSE
       have HNy := Lib.hid (fun W => putNumC_any y W (by omega))
       have hvy := vput_le (u := y) (by omega)
       obtain ⟨V4, hV4⟩ : ∃ V, V = vput y := ⟨_, rfl⟩
       rw [← hV4] at HNy hvy HSE
       have HX := Lib.hid (HST.out.trans (by rw [HSE.out]))
       subst hA
       clear HST HSE hV4 hy hsv hbody hsi hse hjb hcell
       go_wp2_with fail
       refine (HNy.out _).mono ?_
       rintro e w5 ⟨A5, c5, rfl, ho5, he5⟩
       have hE5 := HE.out.trans he5
       obtain ⟨k0, k1, k2, k3, k4, k5⟩ := K.out _ hE5
       have hjf : j < fs.length := by
         have h1 := (KB.out _ HE.out).2.1
         have h2 := Hok.out.nf Hks.out.symm
         rw [h1, Hnf.out, h2, ← Hnb.out]
         exact hlt
       obtain ⟨s2, hse2⟩ : ∃ s, s = fs[j] := ⟨_, rfl⟩
       have hsi2 : fs[j]? = some s2 := by rw [hse2]; exact List.getElem?_eq_getElem hjf
       have hfj : j < nf := by rw [← (KB.out _ HE.out).2.1]; exact hjf
       have hbody2 : s2.body = f.fs.getD j [] := by
         rw [← Hmf.out, List.getD_eq_getElem?_getD, List.getElem?_map, hsi2]
         rfl
       have hzl2 : s2.body.length ≤ 200 := by rw [hbody2]; exact getD_le Hok.out.zf j
       rw [← hbody2] at HX
       have hsr2 := (hsf s2 (List.mem_of_getElem? hsi2)).1
       obtain ⟨y2, hy2⟩ : ∃ y, y = s2.body.length := ⟨_, rfl⟩
       have hsv2 : s2.v = .slice s2.A y2 s2.c := by rw [hy2]; rfl
       rw [← hy2] at hzl2 HX hsr2
       have HNz := Lib.hid (fun W => putNumC_any y2 W (by omega))
       have hvz := vput_le (u := y2) (by omega)
       obtain ⟨V5, hV5⟩ : ∃ V, V = vput y2 := ⟨_, rfl⟩
       rw [← hV5] at HNz hvz HX
       have hcell2 : ∀ W, Ext w W → ∃ bf of, Af = some ⟨bf, of, none⟩ ∧ W.cell? ⟨bf, of + j, none⟩ = some (.slice s2.A y2 s2.c) := fun W hW => by
         obtain ⟨bf, of, hAf, hblf, hcellf⟩ := (KB.out _ hW).2.2 (by omega)
         have := hcellf j s2 hsi2
         rw [hsv2] at this
         exact ⟨bf, of, hAf, this⟩
       obtain ⟨bf, of, rfl, hcs2⟩ := hcell2 w (Ext.refl w)
       have KF := Lib.hid (fun W (hW : Ext w W) => (show W.cell? ⟨bf, of + j, none⟩ = some (.slice s2.A y2 s2.c) from by
         obtain ⟨bf', of', e1, e2⟩ := hcell2 W hW
         injection e1 with e1
         injection e1 with e1 e3
         subst e1 e3
         exact e2))
       have Hsr2 := Lib.hid hsr2
       have Hbd2 := Lib.hid (show s2.body.length = y2 from hy2.symm)
       have hL6 : (P ++ V4).length = P.length + V4.length := List.length_append
       have hL8 : (P ++ V4 ++ V5).length = P.length + V4.length + V5.length := by rw [List.length_append, List.length_append]
       have hjI : (j : Int) < (nf : Int) := by omega
       have hj0 : (0 : Int) ≤ (j : Int) := by omega
       have hcs3 := KF.out _ hE5
       clear hcell2 hsr2 hy2 hV5 hbody2 hsi2 hse2 hjf hcs2
       go_wp2_with (first
         | (at_builtin; refine wpList_pushes .u8 5 rfl _ _ 22 rfl _ 1 Tryz.underlying22 Tryz.infoU8 rfl (HO.out.ext he5) P.length rfl rfl rfl ho5.rd (by omega) (by omega) hE5 hE5.size ?_; intro A6 c6 w6 ho6 hb6 hz6; obtain ⟨k0, k1, k2, k3, k4, k5⟩ := K.out _ hb6; have hcs4 := KF.out _ hb6; have HO6 := Lib.hid ho6; have HB6 := Lib.hid hb6; clear ho6 hb6)
         | fail)
       refine (HNz.out _).mono ?_
       rintro e w7 ⟨A7, c7, rfl, ho7, he7⟩
       have hE7 : Ext w w7 := Ext.trans HB6.out he7
       obtain ⟨k0, k1, k2, k3, k4, k5⟩ := K.out _ hE7
       have hcs5 := KF.out _ hE7
       go_wp2_with (first
         | (at_builtin; refine wpList_pushes .u8 5 rfl _ _ 22 rfl _ 1 Tryz.underlying22 Tryz.infoU8 rfl (HO6.out.ext he7) _ hL6 rfl rfl ho7.rd (by omega) (by omega) hE7 hE7.size ?_; intro A8 c8 w8 ho8 hb8 hz8; obtain ⟨k0, k1, k2, k3, k4, k5⟩ := K.out _ hb8; have hcs6 := KF.out _ hb8; have HO8 := Lib.hid ho8; have HB8 := Lib.hid hb8; clear ho8 hb8)
         | (at_builtin; refine wpList_pushes .u8 5 rfl _ _ 22 rfl _ 1 Tryz.underlying22 Tryz.infoU8 rfl HO8.out _ hL8 rfl rfl (Hsr2.out.ext HB8.out) (by omega) (by omega) HB8.out HB8.out.size ?_; intro A9 c9 w9 ho9 hb9 hz9)
         | fail)
       go_roundw
       case rel => exact ⟨j + 1, _, A9, c9, by omega, by go_num, by rw [List.length_append, List.length_append, List.length_append, Hbd2.out], Lib.hid (by rw [HX.out]; simp), Lib.hid ho9, Lib.hid hb9⟩
       case measure => simp [intOf]; omega
     · obtain rfl : j = nb := by omega
       have HF := Lib.hid (show P = ftB f from HP.out.trans (by unfold ftB; rw [← HHd.out, ← Hnb.out]))
       go_wp2_with fail
       go_ret
       exact ⟨A', c', by rw [← HF.out]; rfl, by rw [← HF.out]; exact HO.out, HE.out⟩
theorem putFooterC_any (g : Nat) (f : FlM) (w : World) (h : FilR w g f) (ok : FlB f) :
   Calls Tryz.prog 134 #[.pointer (some ⟨g, 0, none⟩)] w fun e w' => ∃ A' c', e = .returned (.slice A' (ftB f).length c') ∧ Own .u8 5 w' w.heap.size A' c' (ftB f) ∧ Ext w w' := by
 cases hk : f.ks with
 | false => exact putFooterF g f w h ok hk
 | true => exact putFooterT g f w h ok hk
def fileB (f : FlM) : List Nat := f.bs.flatten ++ (fr 1 (ftB f) ++ place f.bs.flatten.length)
def writeR (f : FlM) : List Nat × Int := if 65536 < (ftB f).length then ([], 4) else if 1048576 < (fileB f).length then ([], 4) else (fileB f, 0)
theorem rdL_ss {w : World} {A : Option Addr} {n : Nat} {ss : List Sl} (h : RdL w A n ss) (hs : ∀ x ∈ ss, Rd .u8 w x.A x.body.length x.body) : RdSS w A n (ss.map Sl.body) :=
 ⟨by rw [List.length_map]; exact h.1, fun h0 => by
   obtain ⟨b, o, e, hb, hc⟩ := h.2 h0
   refine ⟨b, o, e, hb, fun j hj => ?_⟩
   have hjl : j < ss.length := by rw [h.1]; exact hj
   have hsi : ss[j]? = some ss[j] := List.getElem?_eq_getElem hjl
   refine ⟨ss[j].A, ss[j].body.length, ss[j].c, hc j _ hsi, ?_⟩
   have hg : (ss.map Sl.body).getD j [] = ss[j].body := by
     rw [List.getD_eq_getElem?_getD, List.getElem?_map, hsi]
     rfl
   rw [hg]
   exact hs _ (List.mem_of_getElem? hsi)⟩
theorem flat_le {m : Nat} : ∀ {L : List (List Nat)}, (∀ t ∈ L, t.length ≤ m) → L.flatten.length ≤ L.length * m
 | [], _ => Nat.zero_le _
 | t :: L, h => by
   have h1 := h t (List.mem_cons_self ..)
   have h2 := flat_le (fun t ht => h t (List.mem_cons_of_mem _ ht) : ∀ t ∈ L, t.length ≤ m)
   rw [List.flatten_cons, List.length_append, List.length_cons, Nat.add_mul, Nat.one_mul]
   omega
theorem u8_flat : ∀ {L : List (List Nat)}, (∀ t ∈ L, U8 t) → U8 L.flatten := by
 intro L h v hv
 obtain ⟨t, ht, hvt⟩ := List.mem_flatten.1 hv
 exact h t ht v hvt
theorem ftE_u8 {ks : Bool} {b s : List Nat} (hs : U8 s) : U8 (ftE ks b s) := by
 unfold ftE
 refine u8_append (vput_u8 _) ?_
 split
 · exact u8_append (vput_u8 _) hs
 · intro v hv; cases hv
theorem ftT_u8 {f : FlM} (h : FlB f) : ∀ m, U8 (ftT f m)
 | 0 => fun v hv => by cases hv
 | m + 1 => u8_append (ftT_u8 h m) (ftE_u8 (getD_u8 h.uf m))
theorem ftB_u8 {f : FlM} (h : FlB f) : U8 (ftB f) := by
 refine u8_append (u8_append ?_ (u8_append (vput_u8 _) (u8_append (vput_u8 _) (vput_u8 _)))) (ftT_u8 h _)
 intro v hv
 rcases List.mem_cons.1 hv with rfl | hv
 · exact h.k
 · rw [List.mem_singleton.1 hv]
   split <;> decide
set_option maxHeartbeats 3200000 in
theorem writeC_any (g : Nat) (f : FlM) (w : World) (h : FilR w g f) (ok : FlB f) :
   Calls Tryz.prog 92 #[.pointer (some ⟨g, 0, none⟩)] w (PEncPost (writeR f) w) := by
 have HP := Lib.hid (putFooterC_any g f w h ok)
 obtain ⟨Ab, cb, Af, cf, bs, fs, hF, hB, _, hmb, _, hsb, _⟩ := h.ex
 have hbl := ftB_len ok
 have hbu := ftB_u8 ok
 have hfl := flat_le ok.zb
 have hnb4 := ok.nb
 have hzz : f.bs.flatten.length ≤ 4096 * 65000 := Nat.le_trans hfl (Nat.mul_le_mul_right _ hnb4)
 have hfll := fr_len 1 (ftB f)
 have hpl : (place f.bs.flatten.length).length = 8 := by unfold place; rw [sl_len, upk_len]
 obtain ⟨R, hR⟩ : ∃ R, R = writeR f := ⟨_, rfl⟩
 rw [← hR]
 unfold writeR fileB at hR
 obtain ⟨F, hFd⟩ : ∃ F, F = ftB f := ⟨_, rfl⟩
 rw [← hFd] at HP hbl hbu hR hfll
 have HS := Lib.hid (fun W A c (hW : Rd .u8 W A F.length F) => fput_any 1 A F.length c F W hW hbu)
 have Kb := Lib.hid (fun W (hW : Ext w W) => (show RdSS W Ab f.bs.length f.bs from by
   have := rdL_ss (hB.ext hW) (fun s hs => (hsb s hs).1.ext hW)
   rwa [hmb] at this))
 obtain ⟨nb, hnb⟩ : ∃ n, n = f.bs.length := ⟨_, rfl⟩
 obtain ⟨Z, hZ⟩ : ∃ Z, Z = f.bs.flatten := ⟨_, rfl⟩
 rw [← hnb] at Kb hF hnb4
 have HC1 := Lib.hid (fun W (hW : Ext w W) => concat_any Ab nb cb f.bs W (Kb.out W hW) (by omega) (by omega))
 rw [← hZ] at HC1 hzz hR hpl
 have K := Lib.hid (fun W (hW : Ext w W) => (hW.cells _ _ hF.lt).trans hF.c4)
 have HPl := Lib.hid (fun W => putPlaceC_any Z.length W (by omega))
 obtain ⟨E, hE⟩ : ∃ E, E = place Z.length := ⟨_, rfl⟩
 rw [← hE] at HPl hR hpl
 have HR := Lib.hid hR
 clear h ok hF hB hmb hsb hfl hR hFd hZ hnb hE
 by_cases hlong : 65536 < F.length
 · have hfe : fputE 1 F = 4 := fputE_long (by decide) hlong
   have hfL : fputL 1 F = [] := by unfold fputL; rw [hfe, if_neg (by decide)]
   unfold FPutPost at HS
   rw [hfe, hfL] at HS
   have HRn := Lib.hid (HR.out.trans (if_pos hlong))
   clear HR hlong hfe hfL
   go_enter Tryz.func92, Tryz.ntmps92
   go_wp2_with fail
   refine HP.out.mono ?_
   rintro e w1 ⟨A1, c1, rfl, ho1, he1⟩
   go_wp2_with fail
   refine (HS.out _ _ _ ho1.rd).mono ?_
   rintro e w2 ⟨A2, c2, rfl, ho2, he2⟩
   go_wp2_with fail
   go_ret2
   exact PEncPost.bad _ HRn.out (he1.trans he2)
 have hfe : fputE 1 F = 0 := fputE_ok (by decide) hlong
 have hfL : fputL 1 F = fr 1 F := by unfold fputL; rw [hfe, if_pos rfl]; rfl
 unfold FPutPost at HS
 rw [hfe, hfL] at HS
 have HR2 := Lib.hid (HR.out.trans (if_neg hlong))
 have hfl2 : ([Z, fr 1 F, E] : List (List Nat)).flatten = Z ++ (fr 1 F ++ E) := by simp
 have hll : (Z ++ (fr 1 F ++ E)).length = Z.length + F.length + 21 := by rw [List.length_append, List.length_append, hfll, hpl]; omega
 have HC2 := Lib.hid (fun W A (hW : RdSS W A 3 [Z, fr 1 F, E]) => concat_any A 3 3 [Z, fr 1 F, E] W hW (by rw [hfl2, hll]; omega) (by decide))
 rw [hfl2] at HC2
 have Hfl := Lib.hid hfll
 have Hpl := Lib.hid hpl
 clear HR hlong hfe hfL hfl2 hfll hpl
 obtain ⟨G, hG⟩ : ∃ G, G = fr 1 F := ⟨_, rfl⟩
 rw [← hG] at HS HC2 HR2 hll
 obtain ⟨X, hX⟩ : ∃ X, X = Z ++ (G ++ E) := ⟨_, rfl⟩
 rw [← hX] at HC2 HR2 hll
 obtain ⟨xl, hxl⟩ : ∃ x, x = X.length := ⟨_, rfl⟩
 obtain ⟨zl, hzl⟩ : ∃ x, x = Z.length := ⟨_, rfl⟩
 rw [← hxl] at HC2 HR2 hll
 rw [← hzl] at HC1 HPl hzz hll
 have Hxl := Lib.hid hxl
 have Hzl := Lib.hid hzl
 have hxb : xl ≤ 1000000000 := by omega
 clear hG hX hxl hzl hll
 have main : ∀ B : Bool, B = decide (1048576 < (xl : Int)) → Calls Tryz.prog 92 #[.pointer (some ⟨g, 0, none⟩)] w (PEncPost R w) := by
   intro B hB
   have hBd : decide (1048576 < (xl : Int)) = B := hB.symm
   have HRb := Lib.hid (show R = if B = true then ([], 4) else (X, 0) from HR2.out.trans (by
     subst hB
     by_cases q : 1048576 < xl
     · rw [if_pos q, if_pos (decide_eq_true (by omega))]
     · rw [if_neg q, if_neg (by simp; omega)]))
   clear hB HR2
   cases B with
   | true =>
     have HRn := Lib.hid (HRb.out.trans (if_pos rfl))
     have hq : (1048576 : Int) < (xl : Int) := of_decide_eq_true hBd
     clear HRb hBd
     go_enter Tryz.func92, Tryz.ntmps92
     go_wp2_with fail
     refine HP.out.mono ?_
     rintro e w1 ⟨A1, c1, rfl, ho1, he1⟩
     go_wp2_with fail
     refine (HS.out _ _ _ ho1.rd).mono ?_
     rintro e w2 ⟨A2, c2, rfl, ho2, he2⟩
     have hE2 := he1.trans he2
     have k2 := K.out _ hE2
     go_wp2_with fail
     refine (HC1.out _ hE2).mono ?_
     rintro e w3 ⟨A3, c3, rfl, ho3, he3⟩
     have hE3 := hE2.trans he3
     go_wp2_with fail
     refine (HPl.out _).mono ?_
     rintro e w4 ⟨A4, c4, rfl, ho4, he4⟩
     have hE4 := hE3.trans he4
     go_wp2_with fail
     refine (HC2.out _ _ ?_).mono ?_
     · exact RdSS.three 22 w4 rfl ((ho3.rd' Hzl.out.symm).ext he4) ((ho2.rd.ext he3).ext he4) (ho4.rd' Hpl.out)
     rintro e w5 ⟨A5, c5, rfl, ho5, he5⟩
     have hE5 : Ext w w5 := (hE4.alloc _).trans he5
     go_wp2_with fail
     go_ret2
     exact PEncPost.bad _ HRn.out hE5
   | false =>
     have HRn := Lib.hid (HRb.out.trans (if_neg (by decide)))
     have hq : ¬ (1048576 : Int) < (xl : Int) := of_decide_eq_false hBd
     clear HRb hBd
     go_enter Tryz.func92, Tryz.ntmps92
     go_wp2_with fail
     refine HP.out.mono ?_
     rintro e w1 ⟨A1, c1, rfl, ho1, he1⟩
     go_wp2_with fail
     refine (HS.out _ _ _ ho1.rd).mono ?_
     rintro e w2 ⟨A2, c2, rfl, ho2, he2⟩
     have hE2 := he1.trans he2
     have k2 := K.out _ hE2
     go_wp2_with fail
     refine (HC1.out _ hE2).mono ?_
     rintro e w3 ⟨A3, c3, rfl, ho3, he3⟩
     have hE3 := hE2.trans he3
     go_wp2_with fail
     refine (HPl.out _).mono ?_
     rintro e w4 ⟨A4, c4, rfl, ho4, he4⟩
     have hE4 := hE3.trans he4
     go_wp2_with fail
     refine (HC2.out _ _ ?_).mono ?_
     · exact RdSS.three 22 w4 rfl ((ho3.rd' Hzl.out.symm).ext he4) ((ho2.rd.ext he3).ext he4) (ho4.rd' Hpl.out)
     rintro e w5 ⟨A5, c5, rfl, ho5, he5⟩
     have hE5 : Ext w w5 := (hE4.alloc _).trans he5
     have hown := ho5.mono (base' := w.heap.size) (by have := hE4.size; simp; omega)
     go_wp2_with fail
     go_ret2
     exact PEncPost.good _ HRn.out Hxl.out.symm hown hE5
 exact main _ rfl
theorem GcPost.of {w w' : World} {R : List Cv × Int} {V : List Cv} {E : Int} {n : Nat} {A : Option Addr} {c : Nat} {fs : List Ci} (h : R = (V, E)) (hn : n = V.length) (hv : fs.map Ci.val = V) (ho : OwnX w' w.heap.size A c fs) (ht : TxtX w' w.heap.size fs) (he : Ext w w') : GcPost R w (.returned (.tuple #[.slice A n c, .int .i64 E])) w' := by
 subst h hn
 exact ⟨fs, A, c, rfl, hv, ho, ht, he⟩
set_option maxHeartbeats 3200000 in
theorem decodeC_any (g : Nat) (f : FlM) (i : Nat) (w : World) (h : FilR w g f) (ok : FlOk f) (hi : i < f.bs.length) :
   Calls Tryz.prog 61 #[.pointer (some ⟨g, 0, none⟩), .int .i64 (i : Int)] w (GcPost (decF f i) w) := by
 obtain ⟨Ab, cb, Af, cf, bs, fs, hF, hB, _, hmb, _, hsb, _⟩ := h.ex
 obtain ⟨b, o, hA, hbl, hcell⟩ := hB.2 (by omega)
 have hib : i < bs.length := by rw [hB.1]; exact hi
 obtain ⟨s, hse⟩ : ∃ s, s = bs[i] := ⟨_, rfl⟩
 have hsi : bs[i]? = some s := by rw [hse]; exact List.getElem?_eq_getElem hib
 have hcs := hcell i s hsi
 clear hse hcell hib
 obtain ⟨hs1, hs2, hs3⟩ := hsb s (List.mem_of_getElem? hsi)
 have hbody : s.body = f.bs.getD i [] := by
   rw [← hmb, List.getD_eq_getElem?_getD, List.getElem?_map, hsi]
   rfl
 have hub : U8 s.body := by
   rw [hbody, List.getD_eq_getElem?_getD, List.getElem?_eq_getElem hi]
   exact ok.ub _ (List.getElem_mem hi)
 have hzl : s.body.length ≤ 65000 := by
   rw [hbody, List.getD_eq_getElem?_getD, List.getElem?_eq_getElem hi]
   exact ok.zb _ (List.getElem_mem hi)
 obtain ⟨p1, p2⟩ := ok.per
 have hip : i * f.per < f.rows := by
   have h1 := hi
   rw [ok.nb] at h1
   have h2 := (Nat.le_div_iff_mul_le (show 0 < f.per by omega)).1 (show i + 1 ≤ (f.rows + f.per - 1) / f.per by omega)
   rw [Nat.add_mul, Nat.one_mul] at h2
   omega
 have hrw := ok.rows
 have hR : decF f i = if (bdecR (f.k : Int) s.body).2 ≠ 0 ∨ (bdecR (f.k : Int) s.body).1.length ≠ min f.per (f.rows - i * f.per) then ([], 6) else ((bdecR (f.k : Int) s.body).1, 0) := by
   rw [hbody]
   rfl
 have HD := Lib.hid (fun W (hW : Ext w W) => bdecode_any (f.k : Int) s.A s.body.length s.c s.body W (hs1.ext hW) hub (Nat.le_trans hzl (by decide)) hs2 hs3)
 unfold GcPost at HD
 obtain ⟨⟨V, E⟩, hV⟩ : ∃ V, V = bdecR (f.k : Int) s.body := ⟨_, rfl⟩
 rw [← hV] at HD hR
 simp only at HD hR
 obtain ⟨R, hRR⟩ : ∃ R, R = decF f i := ⟨_, rfl⟩
 rw [← hRR] at hR ⊢
 obtain ⟨nb, hnb⟩ : ∃ n, n = f.bs.length := ⟨_, rfl⟩
 obtain ⟨r, hr⟩ : ∃ n, n = f.rows := ⟨_, rfl⟩
 obtain ⟨p, hp⟩ : ∃ n, n = f.per := ⟨_, rfl⟩
 obtain ⟨k, hk⟩ : ∃ n, n = f.k := ⟨_, rfl⟩
 obtain ⟨v, hv⟩ : ∃ n, n = V.length := ⟨_, rfl⟩
 obtain ⟨y, hy⟩ : ∃ n, n = s.body.length := ⟨_, rfl⟩
 have hsv : s.v = .slice s.A y s.c := by rw [hy]; rfl
 rw [hsv] at hcs
 rw [← hnb] at hF hi
 rw [← hr] at hF hip hR hrw
 rw [← hp] at hF hip hR p1 p2
 rw [← hk] at hF HD
 rw [← hv] at HD hR
 rw [← hy] at HD
 obtain ⟨t, ht⟩ : ∃ t, t = i * p := ⟨_, rfl⟩
 rw [← ht] at hip hR
 have htI : (i : Int) * (p : Int) = (t : Int) := by rw [ht]; exact (Int.natCast_mul i p).symm
 have hw1 : IntKind.i64.wrap ((i : Int) * (p : Int)) = (t : Int) := by rw [htI]; exact IntWalk.i64_in _ (by omega)
 have hw1' : IntKind.i64.wrap (t : Int) = (t : Int) := IntWalk.i64_in _ (by omega)
 have hw2 : IntKind.i64.wrap ((r : Int) - (t : Int)) = (r : Int) - (t : Int) := IntWalk.i64_in _ (by omega)
 have hiI : (i : Int) < (nb : Int) := by omega
 have hi0 : (0 : Int) ≤ (i : Int) := by omega
 have c0 := hF.c0
 have c4 := hF.c4
 have K := Lib.hid (fun W (hW : Ext w W) => (show W.cell? ⟨g, 0, none⟩ = some (.int .i64 (k : Int)) ∧ W.cell? ⟨g, 4, none⟩ = some (.slice Ab nb cb) ∧ W.cell? ⟨b, o + i, none⟩ = some (.slice s.A y s.c) from ⟨(hW.cells _ _ hF.lt).trans hF.c0, (hW.cells _ _ hF.lt).trans hF.c4, (hW.cells _ _ hbl).trans hcs⟩))
 have K2 := Lib.hid (fun W (hW : Ext w W) => (show W.cell? ⟨g, 2, none⟩ = some (.int .i64 (r : Int)) ∧ W.cell? ⟨g, 3, none⟩ = some (.int .i64 (p : Int)) from ⟨(hW.cells _ _ hF.lt).trans hF.c2, (hW.cells _ _ hF.lt).trans hF.c3⟩))
 have HR := Lib.hid hR
 have Hv := Lib.hid hv
 subst hA
 clear h ok hF hB hmb hsb hsi hs1 hs2 hs3 hzl hbody hub hR hV hRR hnb hr hp hk hv hy hsv ht hcs c0 c4 hbl
 go_enter Tryz.func61, Tryz.ntmps61
 go_wp2_with fail
 go_region_held3 (fun W => W.cell? ⟨g, 0, none⟩ = some (.int .i64 (k : Int)) ∧ W.cell? ⟨g, 4, none⟩ = some (.slice (some ⟨b, o, none⟩) nb cb) ∧ W.cell? ⟨b, o + i, none⟩ = some (.slice s.A y s.c))
   (first | (refine K.out _ ?_; (repeat (first | exact Ext.refl _ | (with_reducible refine Ext.trans ?_ he2) | apply Ext.drew | apply Ext.alloc | fail))) | fail)
   (first
     | (go_at_call 10; (with_reducible refine (HD.out _ ?_).mono ?_); (focus ((repeat (first | exact Ext.refl _ | apply Ext.drew | apply Ext.alloc | fail)); done)); rintro e w2 ⟨gs, A2, c2, rfl, hv2, ho2, ht2, he2⟩)
     | fail)
 have hE2 : Ext w w2 := by repeat (first | exact Ext.refl _ | (with_reducible refine Ext.trans ?_ he2) | apply Ext.drew | apply Ext.alloc)
 have ho3 : OwnX w2 w.heap.size A2 c2 gs := ho2
 have ht3 : TxtX w2 w.heap.size gs := ht2
 have K3 := Lib.hid (fun W (hW : Ext w2 W) => K2.out W (hE2.trans hW))
 obtain ⟨d2, d3⟩ := K2.out _ hE2
 by_cases hE : E = 0
 rotate_left
 · have HRn := Lib.hid (HR.out.trans (if_pos (.inl hE)))
   have hb : (E != 0) = true := by simp [hE]
   clear hE
   go_wp2_with fail
   refine wp_region_held_drew (S := fun _ => True) (by kernel_rfl) ?_ (fun hHeld => ?_)
   · exact trivial
   refine wpAnyH_take (i := 0) (v := ?_) rfl (by kernel_rfl) (by kernel_rfl) (by kernel_rfl) (fun _ _ _ h => h) (Or.inl ⟨by rfl, ?_⟩) hHeld ?_
   rotate_left
   · (intro w hSw; (try dsimp only at hSw); go_simp; (try with_reducible rfl))
   (simp only [Act.put, List.getElem_toArray, List.getElem_cons_zero, List.setIfInBounds_toArray, List.set_cons_zero, List.set_cons_succ])
   refine wpAnyH_take (i := 1) (v := ?_) rfl (by kernel_rfl) (by kernel_rfl) (by kernel_rfl) (fun _ _ _ h => h) (Or.inl ⟨by rfl, ?_⟩) hHeld ?_
   rotate_left
   · (intro w hSw; (try dsimp only at hSw); go_simp; (try with_reducible rfl))
   (simp only [Act.put, List.getElem_toArray, List.getElem_cons_zero, List.getElem_cons_succ, List.setIfInBounds_toArray, List.set_cons_zero, List.set_cons_succ])
   refine wpAnyH_take (i := 2) (v := ?_) rfl (by kernel_rfl) (by kernel_rfl) (by kernel_rfl) (fun _ _ _ h => h) (Or.inl ⟨by rfl, ?_⟩) hHeld ?_
   rotate_left
   · (intro w hSw; (try dsimp only at hSw); go_simp; (try with_reducible rfl))
   (simp only [Act.put, List.getElem_toArray, List.getElem_cons_zero, List.getElem_cons_succ, List.setIfInBounds_toArray, List.set_cons_zero, List.set_cons_succ])
   refine wpAnyH_take (i := 3) (v := undef) rfl (by kernel_rfl) (by kernel_rfl) (by kernel_rfl) (fun _ _ _ h => h) (Or.inr ⟨by rfl, rfl⟩) hHeld ?_
   (simp only [Act.put, List.getElem_toArray, List.getElem_cons_zero, List.getElem_cons_succ, List.setIfInBounds_toArray, List.set_cons_zero, List.set_cons_succ])
   refine wpAnyH_take (i := 4) (v := undef) rfl (by kernel_rfl) (by kernel_rfl) (by kernel_rfl) (fun _ _ _ h => h) (Or.inr ⟨by rfl, rfl⟩) hHeld ?_
   (simp only [Act.put, List.getElem_toArray, List.getElem_cons_zero, List.getElem_cons_succ, List.setIfInBounds_toArray, List.set_cons_zero, List.set_cons_succ])
   refine wpAnyH_take (i := 5) (v := undef) rfl (by kernel_rfl) (by kernel_rfl) (by kernel_rfl) (fun _ _ _ h => h) (Or.inr ⟨by rfl, rfl⟩) hHeld ?_
   (simp only [Act.put, List.getElem_toArray, List.getElem_cons_zero, List.getElem_cons_succ, List.setIfInBounds_toArray, List.set_cons_zero, List.set_cons_succ])
   refine wpAnyH_take (i := 6) (v := undef) rfl (by kernel_rfl) (by kernel_rfl) (by kernel_rfl) (fun _ _ _ h => h) (Or.inr ⟨by rfl, rfl⟩) hHeld ?_
   (simp only [Act.put, List.getElem_toArray, List.getElem_cons_zero, List.getElem_cons_succ, List.setIfInBounds_toArray, List.set_cons_zero, List.set_cons_succ])
   refine wpAnyH_take (i := 7) (v := undef) rfl (by kernel_rfl) (by kernel_rfl) (by kernel_rfl) (fun _ _ _ h => h) (Or.inr ⟨by rfl, rfl⟩) hHeld ?_
   (simp only [Act.put, List.getElem_toArray, List.getElem_cons_zero, List.getElem_cons_succ, List.setIfInBounds_toArray, List.set_cons_zero, List.set_cons_succ])
   refine wpAnyH_take (i := 8) (v := undef) rfl (by kernel_rfl) (by kernel_rfl) (by kernel_rfl) (fun _ _ _ h => h) (Or.inr ⟨by rfl, rfl⟩) hHeld ?_
   (simp only [Act.put, List.getElem_toArray, List.getElem_cons_zero, List.getElem_cons_succ, List.setIfInBounds_toArray, List.set_cons_zero, List.set_cons_succ])
   refine wpAnyH_take (i := 9) (v := undef) rfl (by kernel_rfl) (by kernel_rfl) (by kernel_rfl) (fun _ _ _ h => h) (Or.inr ⟨by rfl, rfl⟩) hHeld ?_
   (simp only [Act.put, List.getElem_toArray, List.getElem_cons_zero, List.getElem_cons_succ, List.setIfInBounds_toArray, List.set_cons_zero, List.set_cons_succ])
   refine wpAnyH_take (i := 10) (v := undef) rfl (by kernel_rfl) (by kernel_rfl) (by kernel_rfl) (fun _ _ _ h => h) (Or.inr ⟨by rfl, rfl⟩) hHeld ?_
   (simp only [Act.put, List.getElem_toArray, List.getElem_cons_zero, List.getElem_cons_succ, List.setIfInBounds_toArray, List.set_cons_zero, List.set_cons_succ])
   refine wpAnyH_take (i := 11) (v := undef) rfl (by kernel_rfl) (by kernel_rfl) (by kernel_rfl) (fun _ _ _ h => h) (Or.inr ⟨by rfl, rfl⟩) hHeld ?_
   (simp only [Act.put, List.getElem_toArray, List.getElem_cons_zero, List.getElem_cons_succ, List.setIfInBounds_toArray, List.set_cons_zero, List.set_cons_succ])
   refine wpAnyH_take (i := 12) (v := undef) rfl (by kernel_rfl) (by kernel_rfl) (by kernel_rfl) (fun _ _ _ h => h) (Or.inr ⟨by rfl, rfl⟩) hHeld ?_
   (simp only [Act.put, List.getElem_toArray, List.getElem_cons_zero, List.getElem_cons_succ, List.setIfInBounds_toArray, List.set_cons_zero, List.set_cons_succ])
   refine wpAnyH_take (i := 13) (v := undef) rfl (by kernel_rfl) (by kernel_rfl) (by kernel_rfl) (fun _ _ _ h => h) (Or.inr ⟨by rfl, rfl⟩) hHeld ?_
   (simp only [Act.put, List.getElem_toArray, List.getElem_cons_zero, List.getElem_cons_succ, List.setIfInBounds_toArray, List.set_cons_zero, List.set_cons_succ])
   refine wpAnyH_take (i := 14) (v := undef) rfl (by kernel_rfl) (by kernel_rfl) (by kernel_rfl) (fun _ _ _ h => h) (Or.inr ⟨by rfl, rfl⟩) hHeld ?_
   (simp only [Act.put, List.getElem_toArray, List.getElem_cons_zero, List.getElem_cons_succ, List.setIfInBounds_toArray, List.set_cons_zero, List.set_cons_succ])
   refine wpAnyH_take (i := 15) (v := undef) rfl (by kernel_rfl) (by kernel_rfl) (by kernel_rfl) (fun _ _ _ h => h) (Or.inr ⟨by rfl, rfl⟩) hHeld ?_
   (simp only [Act.put, List.getElem_toArray, List.getElem_cons_zero, List.getElem_cons_succ, List.setIfInBounds_toArray, List.set_cons_zero, List.set_cons_succ])
   refine wpAnyH_take (i := 16) (v := undef) rfl (by kernel_rfl) (by kernel_rfl) (by kernel_rfl) (fun _ _ _ h => h) (Or.inr ⟨by rfl, rfl⟩) hHeld ?_
   (simp only [Act.put, List.getElem_toArray, List.getElem_cons_zero, List.getElem_cons_succ, List.setIfInBounds_toArray, List.set_cons_zero, List.set_cons_succ])
   refine wpAnyH_take (i := 17) (v := undef) rfl (by kernel_rfl) (by kernel_rfl) (by kernel_rfl) (fun _ _ _ h => h) (Or.inr ⟨by rfl, rfl⟩) hHeld ?_
   (simp only [Act.put, List.getElem_toArray, List.getElem_cons_zero, List.getElem_cons_succ, List.setIfInBounds_toArray, List.set_cons_zero, List.set_cons_succ])
   refine wpAnyH_take (i := 18) (v := undef) rfl (by kernel_rfl) (by kernel_rfl) (by kernel_rfl) (fun _ _ _ h => h) (Or.inr ⟨by rfl, rfl⟩) hHeld ?_
   (simp only [Act.put, List.getElem_toArray, List.getElem_cons_zero, List.getElem_cons_succ, List.setIfInBounds_toArray, List.set_cons_zero, List.set_cons_succ])
   refine wpAnyH_take (i := 19) (v := undef) rfl (by kernel_rfl) (by kernel_rfl) (by kernel_rfl) (fun _ _ _ h => h) (Or.inr ⟨by rfl, rfl⟩) hHeld ?_
   (simp only [Act.put, List.getElem_toArray, List.getElem_cons_zero, List.getElem_cons_succ, List.setIfInBounds_toArray, List.set_cons_zero, List.set_cons_succ])
   refine wpAnyH_take (i := 20) (v := undef) rfl (by kernel_rfl) (by kernel_rfl) (by kernel_rfl) (fun _ _ _ h => h) (Or.inr ⟨by rfl, rfl⟩) hHeld ?_
   (simp only [Act.put, List.getElem_toArray, List.getElem_cons_zero, List.getElem_cons_succ, List.setIfInBounds_toArray, List.set_cons_zero, List.set_cons_succ])
   refine wpAnyH_take (i := 21) (v := undef) rfl (by kernel_rfl) (by kernel_rfl) (by kernel_rfl) (fun _ _ _ h => h) (Or.inr ⟨by rfl, rfl⟩) hHeld ?_
   (simp only [Act.put, List.getElem_toArray, List.getElem_cons_zero, List.getElem_cons_succ, List.setIfInBounds_toArray, List.set_cons_zero, List.set_cons_succ])
   refine wpAnyH_take (i := 22) (v := ?_) rfl (by kernel_rfl) (by kernel_rfl) (by kernel_rfl) (fun _ _ _ h => h) (Or.inl ⟨by rfl, ?_⟩) hHeld ?_
   rotate_left
   · (intro w hSw; (try dsimp only at hSw); go_simp; (try with_reducible rfl))
   (simp only [Act.put, List.getElem_toArray, List.getElem_cons_zero, List.getElem_cons_succ, List.setIfInBounds_toArray, List.set_cons_zero, List.set_cons_succ])
   refine wpAnyH_done (by kernel_rfl) ?_ _
   go_wp2_with fail
   go_ret2
   exact GcPost.bad _ HRn.out (by repeat (first | exact hE2 | apply Ext.drew | apply Ext.alloc))
 subst hE
 have hE0 : ((0 : Int) != 0) = false := by decide
 by_cases hm : p ≤ r - t
 · have hmI : (p : Int) ≤ (r : Int) - (t : Int) := by omega
   rw [Nat.min_eq_left hm] at HR
   by_cases hvp : v = p
   rotate_left
   · have HRn := Lib.hid (HR.out.trans (if_pos (.inr hvp)))
     have hb : ((v : Int) != (p : Int)) = true := by simp; omega
     clear hvp
     go_wp2_with fail
     go_quiet (fail)
     go_wp2_with fail
     go_ret2
     exact GcPost.bad _ HRn.out (hE2.drewN _)
   · have HRs := Lib.hid (HR.out.trans (if_neg (by simp [hvp])))
     have hb : ((v : Int) != (p : Int)) = false := by simp; omega
     clear hvp
     go_wp2_with fail
     go_quiet (fail)
     go_wp2_with fail
     go_ret2
     exact GcPost.of HRs.out Hv.out hv2 (ho3.ext ((Ext.refl _).drewN _)) (ht3.ext ((Ext.refl _).drewN _)) (hE2.drewN _)
 · have hmI : ¬ (p : Int) ≤ (r : Int) - (t : Int) := by omega
   have hmI2 : (r : Int) - (t : Int) < (p : Int) := by omega
   rw [Nat.min_eq_right (by omega)] at HR
   by_cases hvp : v = r - t
   rotate_left
   · have HRn := Lib.hid (HR.out.trans (if_pos (.inr hvp)))
     have hb : ((v : Int) != (r : Int) - (t : Int)) = true := by simp; omega
     clear hvp
     go_wp2_with fail
     go_quiet (fail)
     go_wp2_with fail
     go_ret2
     exact GcPost.bad _ HRn.out (hE2.drewN _)
   · have HRs := Lib.hid (HR.out.trans (if_neg (by simp [hvp])))
     have hb : ((v : Int) != (r : Int) - (t : Int)) = false := by simp; omega
     clear hvp
     go_wp2_with fail
     go_quiet (fail)
     go_wp2_with fail
     go_ret2
     exact GcPost.of HRs.out Hv.out hv2 (ho3.ext ((Ext.refl _).drewN _)) (ht3.ext ((Ext.refl _).drewN _)) (hE2.drewN _)
theorem run_uptoX (A : Option Addr) (n c k : Nat) (hk : k ≤ c) : ∀ W : World, (Instr.slice 25 (.slice A n c) none (some (.int .i64 (k : Int))) none).run Tryz.prog W = .ok (.slice A k c) W := by
 intro W
 rw [run_slice_h W _ A n c Tryz.underX .i64 k (by omega) (by omega), run_sizeX]
 simp only [Result.andThen, sliced, Int.toNat_natCast, Nat.zero_mul, Nat.sub_zero]
 congr 1
 split
 · rfl
 · cases A with
   | none => rfl
   | some a => simp [Addr.add]
theorem RdX.takeF {w : World} {A : Option Addr} {n : Nat} {xs : List Ci} (h : RdX w A n xs) {m : Nat} (hm : m ≤ n) : RdX w A m (xs.take m) :=
 ⟨by rw [List.length_take, h.1]; omega, fun h0 => by
   obtain ⟨b, o, e, hb, hc⟩ := h.2 (by omega)
   refine ⟨b, o, e, hb, fun j c hj => ?_⟩
   rw [List.getElem?_take] at hj
   split at hj
   · exact hc j c hj
   · cases hj⟩
theorem xcells_app (xs ys : List Ci) : xcells (xs ++ ys) = xcells xs ++ xcells ys := by simp [xcells]
theorem xcells_one (xs : List Ci) : ∀ u ∈ xcells xs, u.oneCell' = true := by
 intro u hu
 unfold xcells at hu
 obtain ⟨l, hl, hul⟩ := List.mem_flatten.1 hu
 obtain ⟨x, _, rfl⟩ := List.mem_map.1 hl
 simp [Ci.cells] at hul
 rcases hul with rfl | rfl | rfl <;> rfl
theorem RdX.cellsAt {w : World} {A : Option Addr} {n : Nat} {xs : List Ci} (h : RdX w A n xs) {b o : Nat} (hA : A = some ⟨b, o, none⟩) : ∀ t u, (xcells xs)[t]? = some u → w.cell? ((⟨b, o, none⟩ : Addr).add t) = some u := by
 intro t u ht
 have hlt : t < xs.length * 3 := by rw [← xcells_len]; exact (List.getElem?_eq_some_iff.1 ht).1
 have hj : t / 3 < n := by rw [← h.1]; omega
 obtain ⟨b', o', x, hA', _, hx, h0, h1, h2, _⟩ := h.at_ hj
 rw [hA] at hA'
 injection hA' with hA'
 injection hA' with e1 e2
 subst e1 e2
 have hadd : (⟨b, o, none⟩ : Addr).add t = ⟨b, o + t, none⟩ := by
   unfold Addr.add
   split
   · simp
   · rfl
 rw [hadd]
 have hx3 := xcells_at hx (t % 3) (by omega)
 rw [show t / 3 * 3 + t % 3 = t by omega, ht] at hx3
 have hm : t % 3 = 0 ∨ t % 3 = 1 ∨ t % 3 = 2 := by omega
 rcases hm with q | q | q
 · rw [q] at hx3
   rw [show o + t = o + t / 3 * 3 by omega, h0, hx3]
   rfl
 · rw [q] at hx3
   rw [show o + t = o + t / 3 * 3 + 1 by omega, h1, hx3]
   rfl
 · rw [q] at hx3
   rw [show o + t = o + t / 3 * 3 + 2 by omega, h2, hx3]
   rfl
theorem wpList_pushesX {w0 w : World} {ops : Array Oper} {rest : List Oper} {o : Oper} {a : Act} {Q : Exit → Act → World → Prop} (hgd : o.guard = none) (s y : Operand)
   (ho : o.op = .call { callee := .builtin .append, args := #[s, y], argTypes := #[25, 25] })
   {base : Nat} {A : Option Addr} {c : Nat} {fs : List Ci} (hown : OwnX w base A c fs) (n : Nat) (hn : fs.length = n) (hs : a.eval s = .slice A n c)
   {A2 : Option Addr} {m c2 : Nat} {ys : List Ci} (hy : a.eval y = .slice A2 m c2) (hrd : RdX w A2 m ys) (hm : 0 < m)
   (hlen : n + m ≤ 1000000000) (hb : Below base w0 w) (hbase : base ≤ w.heap.size)
   (h : ∀ A' c' w', OwnX w' base A' c' (fs ++ ys) → w.grownBy w' (Value.slice A fs.length c).ownBlock → Below base w0 w' → base ≤ w'.heap.size → wpList Tryz.prog ops Q rest (a.put o.dst (.slice A' (n + m : Nat) c')) w') :
   wpList Tryz.prog ops Q (o :: rest) a w := by
 subst hn
 obtain ⟨i, hi0, hz, hsz, hbs⟩ := info_parts Tryz.infoCell
 obtain ⟨b, o', hA2, _⟩ := hrd.2 hm
 subst hA2
 have hyl := hrd.1
 refine wpList_append_own_wide w hgd s y 25 ho base 61 i _ 3 40 Tryz.underlying25 hi0 hz hsz hbs rfl (by decide) _ fs.length (xcells fs) hs hown
   ⟨b, o', none⟩ m c2 (xcells ys) hy (by rw [xcells_len, hyl]) (hrd.cellsAt rfl) (xcells_one ys) (by unfold maxLen; omega) (by omega) hbase ?_
 intro v' w' hown' hgr _
 have hform : ∃ A' c', v' = .slice A' (fs.length + m) c' := by
   rcases hown'.2 with ⟨_, h0⟩ | ⟨g, cap, cur, hv, _⟩
   · omega
   · exact ⟨_, _, hv⟩
 obtain ⟨A', c', rfl⟩ := hform
 have hb' : Below base w0 w' := Below.grown hb hgr hbase (fun g hg' => (hown.lt g hg').1)
 refine h A' c' w' ?_ hgr hb' ?_
 · unfold OwnX
   rw [List.length_append, xcells_app, hyl]
   exact hown'
 · have := hgr.size
   omega
def aheadR (nul : Bool) (txt key : List Nat) : Bool := nul || decide (ordT txt key < 0)
set_option maxHeartbeats 800000 in
theorem isAheadC_any (nul : Bool) (num : Int) (A : Option Addr) (n c : Nat) (txt : List Nat) (A2 : Option Addr) (n2 c2 : Nat) (key : List Nat) (w : World) (hx : Rd .u8 w A n txt) (hy : Rd .u8 w A2 n2 key) (hu : U8 txt) (hv : U8 key) :
   Calls Tryz.prog 65 #[.agg #[.bool nul, .int .i64 num, .slice A n c], .slice A2 n2 c2] w fun e w' => e = .returned (.bool (aheadR nul txt key)) ∧ Ext w w' := by
 have HC := Lib.hid (fun W (hW : Ext w W) => compareT_any A A2 n c n2 c2 txt key W (hx.ext hW) (hy.ext hW) hu hv)
 have hE : Ext w (w.alloc (.cells #[.bool nul, .int .i64 num, .slice A n c] 61)) := (Ext.refl w).alloc _
 cases nul with
 | true =>
   go_enter Tryz.func65, Tryz.ntmps65
   go_wp2_with fail
   go_ret
   exact ⟨rfl, hE⟩
 | false =>
   have hR : aheadR false txt key = decide (ordT txt key < 0) := rfl
   obtain ⟨R, hRR⟩ : ∃ R, R = aheadR false txt key := ⟨_, rfl⟩
   obtain ⟨O, hO⟩ : ∃ O, O = ordT txt key := ⟨_, rfl⟩
   rw [← hO] at HC hR
   rw [← hRR] at hR ⊢
   have HR := Lib.hid hR
   clear hR hRR hO hx hy hu hv
   go_enter Tryz.func65, Tryz.ntmps65
   go_wp2_with fail
   refine (HC.out _ hE).mono ?_
   rintro e w1 ⟨rfl, rfl⟩
   go_wp2_with fail
   go_ret
   exact ⟨by rw [HR.out]; rfl, hE⟩
def rdA (f : FlM) (fr n : Nat) : Nat → List Cv → List Cv × Int
 | 0, acc => (acc, 0)
 | q + 1, acc => if n ≤ acc.length then (acc, 0)
   else if (decF f ((fr + acc.length) / f.per)).2 ≠ 0 then ([], (decF f ((fr + acc.length) / f.per)).2)
   else rdA f fr n q (acc ++ ((decF f ((fr + acc.length) / f.per)).1.drop ((fr + acc.length) % f.per)).take (n - acc.length))
def readF (f : FlM) (fr n : Int) : List Cv × Int := if fr < 0 ∨ n < 0 ∨ max ((f.rows : Int) - fr) 0 < n then ([], 1) else rdA f fr.toNat n.toNat n.toNat []
def slen : Value → Nat
 | .slice _ n _ => n
 | _ => 0
theorem TxtX.sub {w : World} {base : Nat} {xs ys : List Ci} (h : TxtX w base xs) (hs : List.Sublist ys xs) : TxtX w base ys := ⟨fun x hx => h.1 x (hs.subset hx), h.2.sublist hs⟩
theorem TxtX.app {w : World} {base base2 : Nat} {xs ys : List Ci} (h : TxtX w base xs) (hl : ∀ g ∈ xs, ∀ p, g.A = some p → p.block < base2) (k : TxtX w base2 ys) (hb : base ≤ base2) : TxtX w base (xs ++ ys) := by
 refine ⟨fun x hx => ?_, ?_⟩
 · rcases List.mem_append.1 hx with q | q
   · exact h.1 x q
   · exact (k.1 x q).mono hb
 · rw [List.pairwise_append]
   exact ⟨h.2, k.2, fun x hx y hy p q hp hq => Nat.lt_of_lt_of_le (hl x hx p hp) ((k.1 y hy).block q hq).1⟩
theorem bdecR_factsF {k : Int} {bs : List Nat} (hu : U8 bs) : ∀ v ∈ (bdecR k bs).1, VIn v := by
 have hu' : U8 (bs.take (bs.length - 4)) := fun v hv => hu v (List.mem_of_mem_take hv)
 have h2 := getB_in (k := k) hu'
 have h0 : ∀ v ∈ ([] : List Cv), VIn v := fun v hv => (by cases hv)
 unfold bdecR
 split
 · exact h0
 · split
   · exact h0
   · split
     · exact h0
     · split
       · exact h0
       · split
         · exact h0
         · exact h2
theorem decF_facts {f : FlM} (ok : FlOk f) {i : Nat} (hi : i < f.bs.length) : (∀ v ∈ (decF f i).1, VIn v) ∧ ((decF f i).2 = 0 → (decF f i).1.length = min f.per (f.rows - i * f.per)) := by
 have hu : U8 (f.bs.getD i []) := by
   rw [List.getD_eq_getElem?_getD, List.getElem?_eq_getElem hi]
   exact ok.ub _ (List.getElem_mem hi)
 have hb := (bdecR_factsF (k := (f.k : Int)) hu)
 unfold decF
 split
 · exact ⟨fun v hv => (by cases hv), fun q => absurd q (by decide)⟩
 · rename_i q
   exact ⟨hb, fun _ => Decidable.not_not.1 (fun q2 => q (.inr q2))⟩
theorem read_bad (g : Nat) (f : FlM) (fr n : Int) (w : World) (h : FilR w g f) (ok : FlOk f) (hr0 : -9223372036854775808 ≤ fr) (hr1 : fr ≤ 9223372036854775807) (hb : fr < 0 ∨ n < 0 ∨ max ((f.rows : Int) - fr) 0 < n) :
   Calls Tryz.prog 30 #[.pointer (some ⟨g, 0, none⟩), .int .i64 fr, .int .i64 n] w fun e w' => e = .returned (.tuple #[.slice none 0 0, .int .i64 1]) ∧ w = w' := by
 obtain ⟨Ab, cb, Af, cf, bs, fs, hF, _⟩ := h.ex
 have hrw := ok.rows
 obtain ⟨r, hr⟩ : ∃ r, r = f.rows := ⟨_, rfl⟩
 have c2 := hF.c2
 rw [← hr] at c2 hb hrw
 clear h ok hF hr
 by_cases h1 : fr < 0
 · clear hb
   go_enter Tryz.func30, Tryz.ntmps30
   go_wp2_with fail
   go_ret2
   exact ⟨rfl, rfl⟩
 by_cases h2 : n < 0
 · clear hb
   go_enter Tryz.func30, Tryz.ntmps30
   go_wp2_with fail
   go_ret2
   exact ⟨rfl, rfl⟩
 have h3 : max ((r : Int) - fr) 0 < n := by
   rcases hb with q | q | q
   · exact absurd q h1
   · exact absurd q h2
   · exact q
 have hw : IntKind.i64.wrap ((r : Int) - fr) = (r : Int) - fr := IntWalk.i64_in _ (by omega)
 clear hb
 by_cases h4 : (r : Int) - fr ≤ 0
 · have h5 : (0 : Int) < n := by omega
   clear h3
   go_enter Tryz.func30, Tryz.ntmps30
   go_wp2_with fail
   go_ret2
   exact ⟨rfl, rfl⟩
 · have h5 : (r : Int) - fr < n := by omega
   have h6 : (0 : Int) < (r : Int) - fr := by omega
   clear h3
   go_enter Tryz.func30, Tryz.ntmps30
   go_wp2_with fail
   go_ret2
   exact ⟨rfl, rfl⟩
theorem rdA_full {f : FlM} {a m : Nat} : ∀ (q : Nat) (acc : List Cv), acc.length = m → rdA f a m q acc = (acc, 0)
 | 0, _, _ => rfl
 | q + 1, acc, h => by
   unfold rdA
   rw [if_pos (by omega)]
set_option maxHeartbeats 6400000 in
theorem readC_any (g : Nat) (f : FlM) (fr n : Int) (w : World) (h : FilR w g f) (ok : FlOk f) (hr0 : -9223372036854775808 ≤ fr) (hr1 : fr ≤ 9223372036854775807) (hn1 : n ≤ 9223372036854775807) :
   Calls Tryz.prog 30 #[.pointer (some ⟨g, 0, none⟩), .int .i64 fr, .int .i64 n] w (GcPost (readF f fr n) w) := by
 by_cases hbad : fr < 0 ∨ n < 0 ∨ max ((f.rows : Int) - fr) 0 < n
 · have hR : readF f fr n = ([], 1) := if_pos hbad
   refine (read_bad g f fr n w h ok hr0 hr1 hbad).mono ?_
   rintro e w' ⟨rfl, rfl⟩
   exact GcPost.bad _ hR (Ext.refl _)
 have hR : readF f fr n = rdA f fr.toNat n.toNat n.toNat [] := if_neg hbad
 have hf0 : 0 ≤ fr := by omega
 have hn0 : 0 ≤ n := by omega
 obtain ⟨a, rfl⟩ := Int.eq_ofNat_of_zero_le hf0
 obtain ⟨m, rfl⟩ := Int.eq_ofNat_of_zero_le hn0
 rw [Int.toNat_natCast, Int.toNat_natCast] at hR
 have hmax : ¬ max ((f.rows : Int) - (a : Int)) 0 < (m : Int) := fun q => hbad (.inr (.inr q))
 clear hbad
 obtain ⟨R, hRR⟩ : ∃ R, R = readF f (a : Int) (m : Int) := ⟨_, rfl⟩
 rw [← hRR] at hR ⊢
 clear hRR
 have hrw := ok.rows
 obtain ⟨p1, p2⟩ := ok.per
 have hnb := ok.nb
 obtain ⟨Ab, cb, Af, cf, bs, fs, hF, _⟩ := h.ex
 have HFl := Lib.hid h
 have HOk := Lib.hid ok
 obtain ⟨r, hr⟩ : ∃ r, r = f.rows := ⟨_, rfl⟩
 obtain ⟨p, hp⟩ : ∃ r, r = f.per := ⟨_, rfl⟩
 have c2 := hF.c2
 have K := Lib.hid (fun W (hW : Ext w W) => (show W.cell? ⟨g, 3, none⟩ = some (.int .i64 (p : Int)) from by rw [hp]; exact (hW.cells _ _ hF.lt).trans hF.c3))
 rw [← hr] at c2 hmax hrw
 rw [← hp] at p1 p2
 have HRp := Lib.hid (show f.rows = r ∧ f.per = p from ⟨hr.symm, hp.symm⟩)
 have Hnb := Lib.hid hnb
 have HR := Lib.hid hR
 have hw : IntKind.i64.wrap ((r : Int) - (a : Int)) = (r : Int) - (a : Int) := IntWalk.i64_in _ (by omega)
 clear h ok hF hR hnb hr hp hf0 hn0
 by_cases hle : (r : Int) - (a : Int) ≤ 0
 · have hm0 : m = 0 := by omega
   subst hm0
   have HR0 : Hid (R = ([], 0)) := Lib.hid (by rw [HR.out]; rfl)
   have h5 : ¬ (0 : Int) < 0 := by decide
   clear hmax HR
   go_enter Tryz.func30, Tryz.ntmps30
   go_wp2_with fail
   go_loopw [8, 9, 10, 11] (fun v _ _ _ wr => v = .slice none 0 0 ∧ w = wr) (fun _ _ _ _ _ => 0)
   case atStart => exact ⟨rfl, rfl⟩
   case round =>
     obtain ⟨rfl, rfl⟩ := hrel
     go_wp2_with fail
     go_ret2
     exact GcPost.of (V := []) HR0.out rfl rfl (OwnX.nil ..) (TxtX.nil ..) (Ext.refl _)
 have hgt : (0 : Int) < (r : Int) - (a : Int) := by omega
 have ham : a + m ≤ r := by omega
 have hmI : ¬ (r : Int) - (a : Int) < (m : Int) := by omega
 have HI0 : Hid (rdA f a m m (([] : List Ci).map Ci.val) = R) := Lib.hid HR.out.symm
 clear hmax HR
 go_enter Tryz.func30, Tryz.ntmps30
 go_wp2_with fail
 go_loopw [8, 9, 10, 11] (fun v _ _ _ wr => ∃ (k q : Nat) (A' : Option Addr) (c' : Nat) (don : List Ci), k ≤ m ∧ m - k ≤ q ∧ v = .slice A' k c' ∧ Hid (don.length = k) ∧ Hid (OwnX wr w.heap.size A' c' don) ∧ Hid (TxtX wr w.heap.size don) ∧ Hid (Ext w wr) ∧ Hid (rdA f a m q (don.map Ci.val) = R)) (fun v _ _ _ _ => m - slen v)
 case atStart => exact ⟨0, m, none, 0, [], Nat.zero_le _, Nat.le_refl _, rfl, rfl, OwnX.nil .., TxtX.nil .., Ext.refl _, HI0.out⟩
 case round =>
   clear HI0
   obtain ⟨k, q, A', c', don, hk, hq, rfl, HD, HO, HT, HE, HI⟩ := hrel
   by_cases hlt : k < m
   · obtain ⟨q, rfl⟩ : ∃ q', q = q' + 1 := ⟨q - 1, by omega⟩
     obtain ⟨x, hx⟩ : ∃ x, x = a + k := ⟨_, rfl⟩
     obtain ⟨i, hi⟩ : ∃ i, i = x / p := ⟨_, rfl⟩
     obtain ⟨rm, hrm⟩ : ∃ i, i = x % p := ⟨_, rfl⟩
     have hxr : x < r := by omega
     have hdm : i * p + rm = x := by rw [hi, hrm, Nat.mul_comm]; exact Nat.div_add_mod x p
     have hrmp : rm < p := by rw [hrm]; exact Nat.mod_lt _ (by omega)
     have hix : i ≤ x := by rw [hi]; exact Nat.div_le_self _ _
     have hib : i < f.bs.length := by
       rw [Hnb.out, HRp.out.1, HRp.out.2, hi]
       have h1 : (r + p - 1) / p = (r - 1) / p + 1 := by
         rw [show r + p - 1 = r - 1 + p by omega, Nat.add_div_right _ (by omega)]
       rw [h1]
       exact Nat.lt_succ_of_le (Nat.div_le_div_right (by omega))
     have hI := HI.out
     unfold rdA at hI
     rw [List.length_map, HD.out, if_neg (by omega), HRp.out.2, ← hx, ← hi, ← hrm] at hI
     have hfa := decF_facts HOk.out hib
     rw [HRp.out.1, HRp.out.2] at hfa
     have HDe := Lib.hid (fun W (hW : Ext w W) => decodeC_any g f i W (HFl.out.ext hW) HOk.out hib)
     unfold GcPost at HDe
     obtain ⟨⟨V, E⟩, hV⟩ : ∃ V, V = decF f i := ⟨_, rfl⟩
     rw [← hV] at HDe hI hfa
     simp only at HDe hI hfa
     obtain ⟨ln, hln⟩ : ∃ l, l = V.length := ⟨_, rfl⟩
     rw [← hln] at HDe hfa
     have hxI : (a : Int) + (k : Int) = (x : Int) := by omega
     have hwx : IntKind.i64.wrap ((a : Int) + (k : Int)) = (x : Int) := by rw [hxI]; exact IntWalk.i64_in _ (by omega)
     have hq1 : (x : Int).tdiv (p : Int) = (i : Int) := by rw [hi]; rfl
     have hq2 : (x : Int) / (p : Int) = (i : Int) := by rw [← hq1, Int.tdiv_eq_ediv_of_nonneg (by omega)]
     have hq3 : IntKind.i64.wrap ((x : Int).tdiv (p : Int)) = (i : Int) := by rw [hq1]; exact IntWalk.i64_in _ (by omega)
     have hm1 : (x : Int).tmod (p : Int) = (rm : Int) := by rw [hrm]; rfl
     have hm2 : (x : Int) % (p : Int) = (rm : Int) := by rw [← hm1, Int.tmod_eq_emod_of_nonneg (by omega)]
     have hm3 : IntKind.i64.wrap ((x : Int).tmod (p : Int)) = (rm : Int) := by rw [hm1]; exact IntWalk.i64_in _ (by omega)
     have hnz : ((p : Int) == 0) = false := by simp; omega
     have hnz2 : ¬ (p : Int) = 0 := by omega
     have hnz3 : ¬ p = 0 := by omega
     have hpp : (1 : Int) ≤ (p : Int) := by omega
     have hx0 : (0 : Int) ≤ (x : Int) := by omega
     have Hfa := Lib.hid hfa
     have HI2 := Lib.hid hI
     have Hln := Lib.hid hln
     have Hdm := Lib.hid hdm
     have c3 := K.out _ HE.out
     have hltI : (k : Int) < (m : Int) := by omega
     clear hI hV hln hfa hx hi hrm hdm HI hxI
     go_wp2_with fail
     refine (HDe.out _ HE.out).mono ?_
     rintro e w2 ⟨gs, A2, c2', rfl, hv2, ho2, ht2, he2⟩
     have hE2 := HE.out.trans he2
     have c32 := K.out _ hE2
     by_cases hE : E = 0
     rotate_left
     · have HRn := Lib.hid (HI2.out.symm.trans (if_pos hE))
       have hb : (E != 0) = true := by simp [hE]
       clear hE
       go_wp2_with fail
       go_ret2
       exact GcPost.bad _ HRn.out hE2
     subst hE
     have hlnv := Hfa.out.2 rfl
     have hrl : rm < ln := by
       have := Hdm.out
       rw [hlnv]
       omega
     have hgl : gs.length = ln := by rw [Hln.out, ← hv2, List.length_map]
     have hcap := ho2.cap
     rw [hgl] at hcap
     have Hrx := Lib.hid (ans_rdX hv2 hgl Hfa.out.1 ho2 (fun q hq => (ht2.1 q hq).rd))
     have HSf := run_fromX A2 ln c2' rm (by omega)
     obtain ⟨z, hz⟩ : ∃ z, z = ln - rm := ⟨_, rfl⟩
     obtain ⟨y, hy⟩ : ∃ y, y = m - k := ⟨_, rfl⟩
     rw [← hz] at HSf
     have hyI : (m : Int) - (k : Int) = (y : Int) := by omega
     have hwy : IntKind.i64.wrap ((m : Int) - (k : Int)) = (y : Int) := by rw [hyI]; exact IntWalk.i64_in _ (by omega)
     have hwy2 : IntKind.i64.wrap (y : Int) = (y : Int) := IntWalk.i64_in _ (by omega)
     have Hrd := Lib.hid ((Hrx.out.offX (k := rm) (m := c2') (by omega) hcap.1))
     obtain ⟨A3, hA3⟩ : ∃ A3, A3 = offX A2 rm c2' := ⟨_, rfl⟩
     rw [← hA3] at HSf Hrd
     rw [← hz] at Hrd
     have hI := HI2.out
     rw [if_neg (fun q => q rfl), ← hy, ← hv2] at hI
     have hz0 : 0 < z := by omega
     have hy0 : 0 < y := by omega
     have hlowD : ∀ q ∈ don, ∀ s, q.A = some s → s.block < wr.heap.size := fun q hq s hs => ((HT.out.1 q hq).block s hs).2
     have hcz : z ≤ c2' - rm := by omega
     have hsz := HE.out.size
     have hkz : k + z ≤ 1000000000 := by omega
     have hky : k + y ≤ 1000000000 := by omega
     have htw : TxtX w2 wr.heap.size gs := ht2
     have hdw : TxtX w2 w.heap.size don := HT.out.ext he2
     have hE0 : ((0 : Int) != 0) = false := by decide
     have hsz' : w.heap.size ≤ w2.heap.size := hE2.size
     by_cases hmin : z ≤ y
     · have hys : ((gs.map Ci.val).drop rm).take y = (gs.drop rm).map Ci.val := by
         rw [List.map_drop, List.take_of_length_le (by rw [List.length_drop, List.length_map, hgl]; omega)]
       rw [hys, ← List.map_append] at hI
       have HI3 : Hid (rdA f a m q ((don ++ gs.drop rm).map Ci.val) = R) := Lib.hid hI
       have HSu := run_uptoX A3 z (c2' - rm) z hcz
       have HTx := Lib.hid (hdw.app hlowD (htw.sub (List.drop_sublist rm gs)) hsz)
       have hdl : (gs.drop rm).length = z := by rw [List.length_drop, hgl, hz]
       have hkzm : k + z ≤ m := by omega
       have hmI2 : (z : Int) ≤ (y : Int) := by omega
       have hmn : min (z : Int) (y : Int) = (z : Int) := by omega
       have HD3 : Hid ((don ++ gs.drop rm).length = k + z) := Lib.hid (by rw [List.length_append, HD.out, hdl])
       clear hI hys hz hy hA3 hdl hlnv hgl Hrx hdw htw hlowD ho2 ht2 hv2 hwx hq1 hq2 hq3 HDe HI2 hyI hmI hmin
       go_wp2_with (at_builtin; refine wpList_pushesX (w0 := w) rfl _ _ rfl (HO.out.ext he2) k HD.out rfl rfl Hrd.out hz0 hkz hE2 hsz' ?_; intro A4 c4 w4 hown4 hgr4 hb4 hz4)
       have HX4 := Lib.hid (TxtX.grown (base' := w.heap.size) HTx.out (HO.out.ext he2) hgr4)
       have HO4 := Lib.hid hown4
       have HE4 := Lib.hid hb4
       clear hown4 hgr4 hb4 hz4
       go_roundw
       case rel => exact ⟨k + z, q, A4, c4, don ++ gs.drop rm, by omega, by omega, by first | rfl | go_num, HD3.out, HO4.out, HX4.out, HE4.out, HI3.out⟩
       case measure => simp [slen]; omega
     · have hys : ((gs.map Ci.val).drop rm).take y = ((gs.drop rm).take y).map Ci.val := by
         rw [List.map_take, List.map_drop]
       rw [hys, ← List.map_append] at hI
       have HI3 : Hid (rdA f a m q ((don ++ (gs.drop rm).take y).map Ci.val) = R) := Lib.hid hI
       have HSu := run_uptoX A3 z (c2' - rm) y (by omega)
       have Hrd2 := Lib.hid (Hrd.out.takeF (m := y) (by omega))
       have HTx := Lib.hid (hdw.app hlowD (htw.sub ((List.take_sublist y _).trans (List.drop_sublist rm gs))) hsz)
       have hdl : ((gs.drop rm).take y).length = y := by rw [List.length_take, List.length_drop, hgl]; omega
       have hmI2 : ¬ (z : Int) ≤ (y : Int) := by omega
       have hmI3 : (y : Int) < (z : Int) := by omega
       have hmn : min (z : Int) (y : Int) = (y : Int) := by omega
       have HD3 : Hid ((don ++ (gs.drop rm).take y).length = k + y) := Lib.hid (by rw [List.length_append, HD.out, hdl])
       have hkm : k + y = m := by omega
       clear hI hys hz hy hA3 hdl hlnv hgl Hrx hdw htw hlowD ho2 ht2 hv2 hwx hq1 hq2 hq3 HDe HI2 hyI hmI hmin
       go_wp2_with (at_builtin; refine wpList_pushesX (w0 := w) rfl _ _ rfl (HO.out.ext he2) k HD.out rfl rfl Hrd2.out hy0 hky hE2 hsz' ?_; intro A4 c4 w4 hown4 hgr4 hb4 hz4)
       have HX4 := Lib.hid (TxtX.grown (base' := w.heap.size) HTx.out (HO.out.ext he2) hgr4)
       have HO4 := Lib.hid hown4
       have HE4 := Lib.hid hb4
       clear hown4 hgr4 hb4 hz4
       go_roundw
       case rel => exact ⟨k + y, q, A4, c4, don ++ (gs.drop rm).take y, by omega, by omega, by first | rfl | go_num, HD3.out, HO4.out, HX4.out, HE4.out, HI3.out⟩
       case measure => simp [slen]; omega
   · obtain rfl : m = k := by omega
     have hI := HI.out
     rw [rdA_full q _ (by rw [List.length_map]; exact HD.out)] at hI
     have HRe := Lib.hid hI.symm
     have hltI : ¬ (m : Int) < (m : Int) := by omega
     clear hI
     go_wp2_with fail
     go_ret2
     exact GcPost.of HRe.out (by rw [List.length_map]; exact HD.out.symm) rfl HO.out HT.out HE.out
set_option maxHeartbeats 1600000 in
theorem searchC_any (n : Nat) (v1 v2 : Value) (p : Nat → Bool) (w : World) (hn : n ≤ 4096)
   (hf : ∀ W (i : Nat), Ext w W → i < n → Calls Tryz.prog 63 #[.int .i64 (i : Int), v1, v2] W fun e W' => e = .returned (.bool (p i)) ∧ Ext W W')
   (hmono : ∀ a b, a ≤ b → b < n → p a = true → p b = true) :
   Calls Tryz.prog 62 #[.int .i64 (n : Int), .func (.func 63) #[] #[v1, v2]] w fun e w' => ∃ k : Nat, e = .returned (.int .i64 (k : Int)) ∧ k ≤ n ∧ (∀ i, i < k → p i = false) ∧ (∀ i, k ≤ i → i < n → p i = true) ∧ Ext w w' := by
 have Hf := Lib.hid hf
 have Hm := Lib.hid hmono
 have H0 : Hid ((∀ i, i < 0 → p i = false) ∧ (∀ i, n ≤ i → i < n → p i = true)) := Lib.hid ⟨fun i h => absurd h (Nat.not_lt_zero _), fun i h1 h2 => absurd h2 (by omega)⟩
 clear hf hmono
 go_enter Tryz.func62, Tryz.ntmps62
 go_wp2_with fail
 go_loopw [5, 6, 7] (fun i j _ wr => ∃ (a b : Nat), a ≤ b ∧ b ≤ n ∧ i = .int .i64 (a : Int) ∧ j = .int .i64 (b : Int) ∧ Hid ((∀ i, i < a → p i = false) ∧ (∀ i, b ≤ i → i < n → p i = true)) ∧ Hid (Ext w wr)) (fun i j _ _ => (intOf j).toNat - (intOf i).toNat)
 case atStart => exact ⟨0, n, Nat.zero_le _, Nat.le_refl _, rfl, rfl, H0.out, Lib.hid (Ext.refl _)⟩
 case round =>
   clear H0
   obtain ⟨a, b, hab, hbn, rfl, rfl, HP, HE⟩ := hrel
   by_cases hlt : a < b
   · obtain ⟨h, hh⟩ : ∃ h, h = (a + b) / 2 := ⟨_, rfl⟩
     have hah : a ≤ h := by omega
     have hhb : h < b := by omega
     have hI : (a : Int) < (b : Int) := by omega
     have hs1 : ((a : Int) + (b : Int)) / 2 = (h : Int) := by omega
     have hs2 : IntKind.i64.wrap ((a : Int) + (b : Int)) = (a : Int) + (b : Int) := IntWalk.i64_in _ (by omega)
     have hs3 : IntKind.u64.wrap ((a : Int) + (b : Int)) = (a : Int) + (b : Int) := IntWalk.u64_in _ (by omega)
     have hs4 : IntKind.i64.wrap (h : Int) = (h : Int) := IntWalk.i64_in _ (by omega)
     have hs5 : IntKind.u64.wrap (h : Int) = (h : Int) := IntWalk.u64_in _ (by omega)
     have hs6 : IntKind.i64.wrap ((h : Int) + 1) = (h : Int) + 1 := IntWalk.i64_in _ (by omega)
     have HC := Lib.hid (Hf.out wr h HE.out (by omega))
     obtain ⟨q, hq⟩ : ∃ q, q = p h := ⟨_, rfl⟩
     rw [← hq] at HC
     have HQ := Lib.hid hq
     clear hq hh
     go_wp2_with fail
     refine HC.out.mono ?_
     rintro e W1 ⟨rfl, he1⟩
     have hE1 : Ext w W1 := HE.out.trans he1
     have HE1 := Lib.hid hE1
     cases q with
     | true =>
       have HP2 : Hid ((∀ i, i < a → p i = false) ∧ (∀ i, h ≤ i → i < n → p i = true)) := Lib.hid ⟨HP.out.1, fun i h1 h2 => Hm.out h i h1 h2 HQ.out.symm⟩
       clear hE1 he1
       go_wp2_with fail
       go_roundw
       case rel => exact ⟨a, h, hah, by omega, rfl, rfl, HP2.out, HE1.out⟩
       case measure => simp [intOf]; omega
     | false =>
       have HP2 : Hid ((∀ i, i < h + 1 → p i = false) ∧ (∀ i, b ≤ i → i < n → p i = true)) := Lib.hid ⟨fun i h1 => (by
         cases hpi : p i with
         | false => rfl
         | true =>
           have h2 := Hm.out i h (by omega) (by omega) hpi
           rw [← HQ.out] at h2
           exact h2.symm), HP.out.2⟩
       clear hE1 he1
       go_wp2_with fail
       go_roundw
       case rel => exact ⟨h + 1, b, by omega, hbn, by go_num, rfl, HP2.out, HE1.out⟩
       case measure => simp [intOf]; omega
   · obtain rfl : a = b := by omega
     have hI : ¬ (a : Int) < (a : Int) := by omega
     go_wp2_with fail
     go_ret
     exact ⟨a, rfl, hbn, HP.out.1, HP.out.2, HE.out⟩
theorem seek1_any (pf pk : Nat) (g : Nat) (f : FlM) (A : Option Addr) (n c : Nat) (key : List Nat) (i : Nat) (w : World) (h : FilR w g f) (ok : FlOk f) (hpf : w.cell? ⟨pf, 0, none⟩ = some (.pointer (some ⟨g, 0, none⟩))) (hpk : w.cell? ⟨pk, 0, none⟩ = some (.slice A n c)) (hbf : pf < w.heap.size) (hbk : pk < w.heap.size)
   (hx : Rd .u8 w A n key) (hu : U8 key) (hi : i < f.fs.length) :
   Calls Tryz.prog 63 #[.int .i64 (i : Int), .pointer (some ⟨pf, 0, none⟩), .pointer (some ⟨pk, 0, none⟩)] w fun e w' => e = .returned (.bool (decide (0 < ordT (f.fs.getD i []) key))) ∧ Ext w w' := by
 obtain ⟨Ab, cb, Af, cf, bs, fs, hF, _, hB, _, hmf, _, hsf⟩ := h.ex
 obtain ⟨b, o, hA, hbl, hcell⟩ := hB.2 (by omega)
 have hib : i < fs.length := by rw [hB.1]; exact hi
 obtain ⟨s, hse⟩ : ∃ s, s = fs[i] := ⟨_, rfl⟩
 have hsi : fs[i]? = some s := by rw [hse]; exact List.getElem?_eq_getElem hib
 have hcs := hcell i s hsi
 obtain ⟨hs1, _, _⟩ := hsf s (List.mem_of_getElem? hsi)
 have hbody : s.body = f.fs.getD i [] := by
   rw [← hmf, List.getD_eq_getElem?_getD, List.getElem?_map, hsi]
   rfl
 have hub : U8 s.body := by
   rw [hbody, List.getD_eq_getElem?_getD, List.getElem?_eq_getElem hi]
   exact ok.uf _ (List.getElem_mem hi)
 rw [← hbody]
 have HC := Lib.hid (fun W (hW : Ext w W) => compareT_any s.A A s.body.length s.c n c s.body key W (hs1.ext hW) (hx.ext hW) hub hu)
 obtain ⟨O, hO⟩ : ∃ O, O = ordT s.body key := ⟨_, rfl⟩
 rw [← hO] at HC ⊢
 obtain ⟨nf, hnf⟩ : ∃ n, n = f.fs.length := ⟨_, rfl⟩
 obtain ⟨y, hy⟩ : ∃ n, n = s.body.length := ⟨_, rfl⟩
 have hsv : s.v = .slice s.A y s.c := by rw [hy]; rfl
 rw [hsv] at hcs
 rw [← hnf] at hF hi
 rw [← hy] at HC
 have hiI : (i : Int) < (nf : Int) := by omega
 have hi0 : (0 : Int) ≤ (i : Int) := by omega
 have K := Lib.hid (fun W (hW : Ext w W) => (show W.cell? ⟨pf, 0, none⟩ = some (.pointer (some ⟨g, 0, none⟩)) ∧ W.cell? ⟨pk, 0, none⟩ = some (.slice A n c) ∧ W.cell? ⟨g, 5, none⟩ = some (.slice Af nf cf) ∧ W.cell? ⟨b, o + i, none⟩ = some (.slice s.A y s.c) from ⟨(hW.cells _ _ hbf).trans hpf, (hW.cells _ _ hbk).trans hpk, (hW.cells _ _ hF.lt).trans hF.c5, (hW.cells _ _ hbl).trans hcs⟩))
 subst hA
 clear h ok hF hB hmf hsf hsi hs1 hbody hub hO hnf hy hsv hcs hcell hib hse hpf hpk hx hu
 go_enter Tryz.func63, Tryz.ntmps63
 go_wp2_with fail
 go_region_held3 (fun W => W.cell? ⟨pf, 0, none⟩ = some (.pointer (some ⟨g, 0, none⟩)) ∧ W.cell? ⟨pk, 0, none⟩ = some (.slice A n c) ∧ W.cell? ⟨g, 5, none⟩ = some (.slice (some ⟨b, o, none⟩) nf cf) ∧ W.cell? ⟨b, o + i, none⟩ = some (.slice s.A y s.c))
   (first | (refine K.out _ ?_; (repeat (first | exact Ext.refl _ | apply Ext.drew | apply Ext.alloc | fail))) | fail)
   (first
     | (go_at_call 64; (with_reducible refine (HC.out _ ?_).mono ?_); (focus ((repeat (first | exact Ext.refl _ | apply Ext.drew | apply Ext.alloc | fail)); done)); rintro e w2 ⟨rfl, rfl⟩)
     | fail)
 go_wp2_with fail
 go_ret
 exact ⟨by simp, by repeat (first | exact Ext.refl _ | apply Ext.drew | apply Ext.alloc)⟩
theorem rise_lt {ss : List (List Nat)} {n : Nat} (h : riseP ss n) : ∀ (d a : Nat), a + (d + 1) < n → ordT (ss.getD a []) (ss.getD (a + (d + 1)) []) < 0
 | 0, a, hn => by
   rcases h (a + 1) (by omega) with q | q
   · omega
   · exact q
 | d + 1, a, hn => by
   have h1 := rise_lt h d a (by omega)
   have h2 : ordT (ss.getD (a + (d + 1)) []) (ss.getD (a + (d + 1 + 1)) []) < 0 := by
     rcases h (a + (d + 1 + 1)) (by omega) with q | q
     · omega
     · exact q
   exact ordT_trans h1 h2
theorem rise_mono {ss : List (List Nat)} {n : Nat} (h : riseP ss n) (key : List Nat) {a b : Nat} (hab : a ≤ b) (hb : b < n) (hp : decide (0 < ordT (ss.getD a []) key) = true) : decide (0 < ordT (ss.getD b []) key) = true := by
 rcases Nat.lt_or_eq_of_le hab with q | q
 · have h1 := rise_lt h (b - a - 1) a (by omega)
   rw [show a + (b - a - 1 + 1) = b by omega] at h1
   have h2 := of_decide_eq_true hp
   have h3 : ordT key (ss.getD a []) < 0 := by rw [ordT_swap]; omega
   have h4 := ordT_trans h3 h1
   have h5 : 0 < ordT (ss.getD b []) key := by rw [ordT_swap]; omega
   exact decide_eq_true h5
 · exact q ▸ hp
def frstN (ss : List (List Nat)) (key : List Nat) : Nat := (ss.takeWhile fun s => !decide (0 < ordT s key)).length
theorem frstN_of {key : List Nat} : ∀ {ss : List (List Nat)} {k : Nat}, k ≤ ss.length → (∀ i, i < k → decide (0 < ordT (ss.getD i []) key) = false) → (∀ i, k ≤ i → i < ss.length → decide (0 < ordT (ss.getD i []) key) = true) → frstN ss key = k
 | [], k, hk, _, _ => by simp at hk; subst hk; rfl
 | s :: r, 0, _, _, h2 => by
   have h := h2 0 (Nat.le_refl _) (by simp)
   have h' : decide (0 < ordT s key) = true := h
   unfold frstN
   rw [List.takeWhile_cons, h']
   rfl
 | s :: r, k + 1, hk, h1, h2 => by
   have h := h1 0 (by omega)
   have h' : decide (0 < ordT s key) = false := h
   have ih := frstN_of (ss := r) (k := k) (key := key) (by simp at hk; omega) (fun i hi => h1 (i + 1) (by omega)) (fun i hi hl => h2 (i + 1) (by omega) (by simp; omega))
   unfold frstN at ih ⊢
   rw [List.takeWhile_cons, h']
   simp [ih]
end Go.Proofs.YthibbgmicmfkfaaGreat
