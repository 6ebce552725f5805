/-
  Layer 10: the document's Index.
-/
import Derived.Test.YtkmnhapeohlooaaD10a
namespace Go.Proofs.Ytkmnhapeohlooaa
open Go.RowKit

theorem Try.infoInt : (Try.prog.info? 3).map (fun i => (i.zero, i.size, i.bytes)) = some (some (.int .i64 0), 1, 8) := by kernel_rfl

/-- Numbers as they stand in memory. -/
def zs (ns : List Nat) : List Int := ns.map fun x : Nat => (x : Int)
theorem zs_len (ns : List Nat) : (zs ns).length = ns.length := List.length_map ..
theorem zs_snoc (ns : List Nat) (x : Nat) : zs (ns ++ [x]) = zs ns ++ [(x : Int)] := by simp [zs]

/-- What the document's Index leaves. -/
def RIdxPost (R : List (List Nat) × List Nat × Int) (w : World) (e : Ending) (w' : World) : Prop :=
  ∃ A' c' us B cB, e = .returned (.tuple #[.slice A' us.length c', .slice B R.2.1.length cB, .int .i64 R.2.2]) ∧ bodies us = R.1 ∧ Ents w' w.heap.size A' us.length us ∧ OwnG shZ 3 w' w.heap.size B cB (zs R.2.1) ∧ Ext w w'
theorem RIdxPost.bad {w w' : World} (R : List (List Nat) × List Nat × Int) {E : Int} (h : R = ([], [], E)) (he : Ext w w') : RIdxPost R w (.returned (.tuple #[.slice none 0 0, .slice none 0 0, .int .i64 E])) w' := by
  subst h
  exact ⟨none, 0, [], none, 0, rfl, rfl, ⟨⟨rfl, fun q => absurd q (by simp)⟩, (by intro s hs; cases hs), (by intro q hq; cases hq)⟩, OwnG.nil .., he⟩
theorem RIdxPost.good {w w' : World} (R : List (List Nat) × List Nat × Int) {us : List Sl} {ns : List Nat} {A B : Option Addr} {m c n cB : Nat} (h : R = (bodies us, ns, 0)) (hm : us.length = m) (hn : ns.length = n) (ho : Ents w' w.heap.size A m us) (hB : OwnG shZ 3 w' w.heap.size B cB (zs ns)) (he : Ext w w') :
    RIdxPost R w (.returned (.tuple #[.slice A m c, .slice B n cB, .int .i64 0])) w' := by
  subst h hm hn
  exact ⟨A, c, us, B, cB, rfl, rfl, ho, hB, he⟩

set_option maxHeartbeats 1600000 in
theorem refIndex_any (A : Option Addr) (n c : Nat) (ss : List Sl) (w : World) (hx : TxL w A n ss) (hn : n ≤ 140737488355328) :
    Calls Try.prog 40 #[.slice A n c] w (RIdxPost (idxR (bodies ss)) w) := by
  have Hl := Lib.hid hx.len
  have hbl : (bodies ss).length = n := by rw [bodies_len, Hl.out]
  by_cases hbig : 4096 < n
  · have HR := Lib.hid (idxR_bad (ss := bodies ss) (.inl (by rw [hbl]; exact hbig)))
    clear hbl
    go_enter Try.func40, Try.ntmps40
    go_wp2_with fail
    go_ret3
    exact RIdxPost.bad _ HR.out (Ext.refl w)
  · have hb4 : n ≤ 4096 := by omega
    have Hbl := Lib.hid hbl
    have Hx := Lib.hid hx
    clear hbl hx
    go_enter Try.func40, Try.ntmps40
    go_wp2_with fail
    go_loopw [5, 6] (fun v i wr => ∃ (j m : Nat) (A' : Option Addr) (c' : Nat) (us : List Sl), j ≤ n ∧ m ≤ j ∧ i = .int .i64 j ∧ v = .slice A' m c' ∧ Hid (us.length = m) ∧ Hid (bodies us = dents ((bodies ss).take j)) ∧ Hid (Ents wr w.heap.size A' m us) ∧ Hid (Ext w wr) ∧ Hid (anyLong ((bodies ss).take j) = false)) (fun _ i _ => n - (intOf i).toNat)
    case atStart => exact ⟨0, 0, _, _, [], Nat.zero_le _, Nat.le_refl _, rfl, rfl, rfl, rfl, ⟨⟨rfl, fun q => absurd q (by omega)⟩, (by intro s hs; cases hs), (by intro q hq; injection hq with hq; subst hq; exact Nat.le_refl _)⟩, (Ext.refl w).alloc _, rfl⟩
    case round =>
      obtain ⟨j, m, A', c', us, hj, hmj, rfl, rfl, Hul, Hub, HEn, HE, HA⟩ := hrel
      by_cases hlt : j < n
      · obtain ⟨b, o, s, rfl, hf, hc, hs⟩ := (Hx.out.ext HE.out).at_ hlt
        have hbj := bodies_at hf
        have hdst := dents_step hbj
        have htk : (bodies ss).take (j + 1) = (bodies ss).take j ++ [s.body] := by
          obtain ⟨h1, h2⟩ := List.getElem?_eq_some_iff.1 hbj
          rw [List.take_succ_eq_append_getElem h1, h2]
        have hrd := hs.rd
        obtain ⟨sA, sc, body⟩ := s
        simp only at hc hrd hbj hdst htk
        obtain ⟨bl, hbl⟩ : ∃ bl, bl = body.length := ⟨_, rfl⟩
        rw [← hbl] at hc hrd
        by_cases hlong : 200 < bl
        · have HR := Lib.hid (idxR_bad (.inr (anyLong_iff.2 ⟨body, List.mem_of_getElem? hbj, by rw [← hbl]; exact hlong⟩)))
          clear hf hbj hdst htk hrd hs hbl
          go_wp2_with fail
          go_ret3
          exact RIdxPost.bad _ HR.out HE.out
        · have hN := anyLong_snoc HA.out (t := body) (by rw [← hbl]; omega)
          rw [← htk] at hN
          have HN := Lib.hid hN
          have Hd := Lib.hid hdst
          have Hrd := Lib.hid hrd
          have HW := Lib.hid (with_any A' m c' w.heap.size us sA bl sc body wr HEn.out HE.out.size (by omega) (by rw [Hub.out]; exact dents_short HA.out) (by rw [Hub.out]; exact dents_asc _) hrd (by omega))
          clear hf hbj hdst htk hrd hs hbl hN
          go_wp2_with fail
          refine HW.out.mono ?_
          rintro e w1 ⟨A1, c1, vs, rfl, hvb, hve, he1⟩
          have hvl : vs.length ≤ j + 1 := by
            rw [← bodies_len, hvb, Hub.out, ← Hd.out]
            exact dents_len (j + 1) _ (by rw [List.length_take, Hbl.out]; omega)
          have Hvb := Lib.hid (show bodies vs = dents ((bodies ss).take (j + 1)) by rw [hvb, Hub.out, Hd.out])
          obtain ⟨m1, hm1⟩ : ∃ m1, vs.length = m1 := ⟨_, rfl⟩
          rw [hm1] at hve hvl ⊢
          have Hm1 := Lib.hid hm1
          have Hve := Lib.hid hve
          have He1 := Lib.hid (HE.out.trans he1)
          clear hvb hve he1 hm1
          go_wp2_with fail
          go_roundw
          case rel => exact ⟨j + 1, m1, A1, c1, vs, by omega, hvl, by go_num, rfl, Hm1.out, Hvb.out, Hve.out, He1.out, HN.out⟩
          case measure => simp [intOf]; omega
      · obtain rfl : n = j := by omega
        have htk : (bodies ss).take n = bodies ss := List.take_of_length_le (by rw [Hbl.out]; exact Nat.le_refl _)
        have hA := HA.out
        have hub := Hub.out
        rw [htk] at hA hub
        have HR := Lib.hid (idxR_good (by rw [Hbl.out]; exact hb4) hA)
        rw [← hub] at HR
        have hasc : Asc (bodies us) := by rw [hub]; exact dents_asc _
        have hshort : ∀ s ∈ us, s.body.length ≤ 140737488355328 := fun s hs => by
          have := dents_short hA s.body (by rw [← hub]; exact List.mem_map.2 ⟨s, hs, rfl⟩)
          omega
        obtain ⟨F, hF⟩ : ∃ F : List Nat → Nat, F = fun s => skN s (bodies us) := ⟨_, rfl⟩
        have HP := Lib.hid (fun (W : World) (hW : Ext wr W) (A2 : Option Addr) (n2 c2 : Nat) (t : List Nat) (h1 : Rd .u8 W A2 n2 t) (h2 : n2 ≤ 140737488355328) => place10_any A' m c' us A2 n2 c2 t W (HEn.out.ext hW).rd (by omega) (fun s hs => ⟨((HEn.out.ext hW).own s hs).rd, hshort s hs⟩) hasc h1 h2)
        have HR2 := Lib.hid (show idxR (bodies ss) = (bodies us, (bodies ss).map F, 0) by rw [HR.out, hF])
        have HF := Lib.hid hF
        have h0 : OwnG shZ 3 (wr.alloc (.cells #[] 3)) wr.heap.size (some ⟨wr.heap.size, 0, none⟩) 0 (zs (((bodies ss).take 0).map F)) := (OwnG.made _ _ _ (Nat.le_refl _))
        have H0 := Lib.hid h0
        clear hA hub HA HR hasc hshort htk hF h0
        obtain ⟨W1, hW1⟩ : ∃ W1, W1 = wr := ⟨_, rfl⟩
        rw [← hW1] at HEn HE HP H0 ⊢
        clear hW1
        go_wp2_with fail
        go_loopw [7, 8] (fun v i wx => ∃ (q : Nat) (B : Option Addr) (cB : Nat), q ≤ n ∧ i = .int .i64 q ∧ v = .slice B q cB ∧ Hid (OwnG shZ 3 wx W1.heap.size B cB (zs (((bodies ss).take q).map F))) ∧ Hid (Ext W1 wx)) (fun _ i _ => n - (intOf i).toNat)
        case atStart => exact ⟨0, _, _, Nat.zero_le _, rfl, rfl, H0.out, (Ext.refl _).alloc _⟩
        case round =>
          clear H0
          obtain ⟨q, B, cB, hq, rfl, rfl, HO, HB⟩ := hrel
          by_cases hlt2 : q < n
          · obtain ⟨b, o, s, rfl, hf, hc, hs⟩ := (Hx.out.ext (HE.out.trans HB.out)).at_ hlt2
            have hbj := bodies_at hf
            have hrd := hs.rd
            have hln := hs.len
            have htk : ((bodies ss).take (q + 1)).map F = ((bodies ss).take q).map F ++ [F s.body] := by
              obtain ⟨h1, h2⟩ := List.getElem?_eq_some_iff.1 hbj
              rw [List.take_succ_eq_append_getElem h1, h2, List.map_append]
              rfl
            obtain ⟨sA, sc, body⟩ := s
            simp only at hc hrd hln hbj htk
            obtain ⟨bl, hbl⟩ : ∃ bl, bl = body.length := ⟨_, rfl⟩
            rw [← hbl] at hc hrd hln
            obtain ⟨f, hfv⟩ : ∃ f, f = F body := ⟨_, rfl⟩
            rw [← hfv] at htk
            have hP := HP.out wr HB.out sA bl sc body hrd hln
            have hfv2 : skN body (bodies us) = f := by rw [hfv, HF.out]
            rw [hfv2] at hP
            have HPl := Lib.hid hP
            have hlq : (zs (((bodies ss).take q).map F)).length = q := by rw [zs_len, List.length_map, List.length_take, Hbl.out]; omega
            have Hlq := Lib.hid hlq
            have Htk := Lib.hid (show zs (((bodies ss).take (q + 1)).map F) = zs (((bodies ss).take q).map F) ++ [(f : Int)] by rw [htk, zs_snoc])
            clear hf hbj htk hrd hln hs hbl hfv hfv2 hP hlq
            go_wp2_with fail
            refine HPl.out.mono ?_
            rintro e w5 ⟨rfl, q5, rfl⟩
            have hE5 : Ext wr (wr.drewN q5) := Ext.of_drewN _ _
            obtain ⟨w5, hw5⟩ : ∃ w5, w5 = wr.drewN q5 := ⟨_, rfl⟩
            rw [← hw5] at hE5 ⊢
            clear hw5
            have HB5 := Lib.hid (show Ext W1 w5 from HB.out.trans hE5)
            go_wp2_with (at_builtin; refine wpList_pushG (w0 := W1) (base := W1.heap.size) shZ (f : Int) 3 rfl _ _ 45 rfl _ 8 Try.underlying45 Try.infoInt rfl (by decide) ((HO.out.ext hE5).ext ((Ext.refl _).alloc _)) q Hlq.out rfl rfl (heap_alloc_new _ _) (by omega) (by omega) (Ext.trans HB5.out ((Ext.refl _).alloc _)) (by have := HB5.out.size; simp; omega) ?_; intro A4 c4 w4 hown4 hg4 hb4 hz4)
            rw [← Htk.out] at hown4
            have HN := Lib.hid (show Ext W1 w4 from hb4)
            have Hown4 := Lib.hid hown4
            clear hown4 hg4 hb4 hz4
            go_wp2_with fail
            go_roundw
            case rel => exact ⟨q + 1, A4, c4, by omega, by go_num, rfl, Hown4.out, HN.out⟩
            case measure => simp [intOf]; omega
          · obtain rfl : n = q := by omega
            have hO := HO.out
            rw [List.take_of_length_le (by rw [Hbl.out]; exact Nat.le_refl _)] at hO
            have HOf := Lib.hid hO
            clear hO
            go_wp2_with fail
            go_ret3
            exact RIdxPost.good _ HR2.out Hul.out (by rw [List.length_map, Hbl.out]) (HEn.out.ext HB.out) (HOf.out.mono HE.out.size) (HE.out.trans HB.out)

end Go.Proofs.Ytkmnhapeohlooaa
