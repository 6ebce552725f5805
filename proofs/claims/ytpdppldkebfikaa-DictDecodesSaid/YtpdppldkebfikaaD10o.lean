/-
  Layer 10: the document's texts.
-/
import Derived.Test.YtpdppldkebfikaaD10n
namespace Go.Proofs.Ytpdppldkebfikaa
open Go.RowKit

/-- What texts answers. -/
def textsR (L : List (List Nat)) (us : List Nat) : List (List Nat) × Int := if meant us L.length = true then (txtsOf L us, 0) else ([], 5)

theorem marks_grown {w6 w7 : World} {base base' c6 c7 : Nat} {A6 A7 : Option Addr} {ts : List Sl} {us : List Bool} {o : Obj} (ho : OwnT w6 base A6 c6 ts) (hu : OwnG shB 4 w6 base' A7 c7 us) (hg : (w6.alloc o).grownBy w7 (Value.slice A6 ts.length c6).ownBlock) : OwnG shB 4 w7 base' A7 c7 us :=
  (OwnG.ext hu ((Ext.refl w6).alloc o)).grown hg (own_neG (by decide) (OwnG.ext ho ((Ext.refl w6).alloc o)) (OwnG.ext hu ((Ext.refl w6).alloc o)))

set_option maxHeartbeats 1600000 in
set_option maxRecDepth 100000 in
theorem refTexts_any (A : Option Addr) (n c : Nat) (ss : List Sl) (B : Option Addr) (k cB : Nat) (us : List Nat) (w : World) (hx : RdL w A n ss) (hr : ∀ s ∈ ss, Rd .u8 w s.A s.body.length s.body) (hs : ∀ s ∈ ss, s.body.length ≤ 200) (hn : n ≤ 4096) (hy : Rd .u64 w B k us) (hk : k ≤ 4096) (hu : U64 us) :
    Calls Try.prog 62 #[.slice A n c, .slice B k cB] w (TxtsPost (textsR (bodies ss) us) w) := by
  have Hl := Lib.hid hx.1
  have Hul := Lib.hid hy.len
  have Hx := Lib.hid hx
  have Hr := Lib.hid hr
  have Hs := Lib.hid hs
  have Hy := Lib.hid hy
  have Huu := Lib.hid hu
  obtain ⟨R, hR⟩ : ∃ R, R = textsR (bodies ss) us := ⟨_, rfl⟩
  rw [← hR]
  have hbl : (bodies ss).length = n := by rw [bodies_len, Hl.out]
  have HRy := Lib.hid (show meant us n = true → R = (txtsOf (bodies ss) us, 0) from fun h => by rw [hR]; unfold textsR; rw [hbl, if_pos h])
  have HRn := Lib.hid (show ¬ meant us n = true → R = ([], 5) from fun h => by rw [hR]; unfold textsR; rw [hbl, if_neg h])
  clear hx hr hs hy hu hR hbl
  have hm1 : OwnG shB 4 ((w.alloc (.cells #[] 34)).alloc (.cells #[] 4)) (w.heap.size + 1) (some ⟨w.heap.size + 1, 0, none⟩) 0 [] := by
    have := OwnG.made shB 4 (base := w.heap.size + 1) (w.alloc (.cells #[] 34)) (by simp)
    simpa using this
  have hm0 : OwnT (w.alloc (.cells #[] 34)) w.heap.size (some ⟨w.heap.size, 0, none⟩) 0 [] := OwnG.made _ _ _ (Nat.le_refl _)
  have HE00 := Lib.hid (show Ext w (w.alloc (.cells #[] 34)) from (Ext.refl w).alloc _)
  obtain ⟨W0, hW0⟩ : ∃ W0, W0 = w.alloc (.cells #[] 34) := ⟨_, rfl⟩
  have hW0s : W0.heap.size = w.heap.size + 1 := by rw [hW0]; simp
  have hE01 : Ext W0 ((w.alloc (.cells #[] 34)).alloc (.cells #[] 4)) := by rw [hW0]; exact (Ext.refl _).alloc _
  rw [← hW0] at hm0 HE00
  have HM1 := Lib.hid hm1
  have HM0 := Lib.hid hm0
  have HE01 := Lib.hid hE01
  clear hm1 hm0 hE01 hW0
  go_enter Try.func62, Try.ntmps62
  go_wp2_with fail
  go_loopw [7, 8] (fun v i wr => ∃ (j : Nat) (A' : Option Addr) (c' : Nat), j ≤ n ∧ i = .int .i64 j ∧ v = .slice A' j c' ∧ Hid (OwnG shB 4 wr (w.heap.size + 1) A' c' (List.replicate j false)) ∧ Hid (Ext W0 wr)) (fun _ i _ => n - (intOf i).toNat)
  case atStart => exact ⟨0, _, _, Nat.zero_le _, rfl, rfl, HM1.out, HE01.out⟩
  case round =>
    clear HM1 HE01
    obtain ⟨j, A', c', hj, rfl, rfl, HU, HE⟩ := hrel
    by_cases hlt : j < n
    · have hrl : (List.replicate j false).length = j := List.length_replicate
      have hsz := HE.out.size
      go_wp2_with (at_builtin; refine wpList_pushG (w0 := W0) shB false 4 rfl _ _ 110 rfl (.bool false) 1 Try.underlying110 Try.infoBool rfl (by decide) (HU.out.ext ((Ext.refl _).alloc _)) j hrl rfl rfl (heap_alloc_new _ _) (by omega) (by omega) (by rw [← hW0s]; exact Ext.trans HE.out ((Ext.refl _).alloc _)) (by simp; omega) ?_; intro A4 c4 w4 hown4 hg4 hb4 hz4)
      have HU4 := Lib.hid (show OwnG shB 4 w4 (w.heap.size + 1) A4 c4 (List.replicate (j + 1) false) by rw [List.replicate_succ']; exact hown4)
      have HE4 := Lib.hid (show Ext W0 w4 by unfold Ext; rw [hW0s]; exact hb4)
      clear hown4 hg4 hb4 hrl hsz
      go_wp2_with fail
      go_roundw
      case rel => exact ⟨j + 1, A4, c4, by omega, by go_num, by go_num, HU4.out, HE4.out⟩
      case measure => simp [intOf]; omega
    · obtain rfl : j = n := by omega
      obtain ⟨W1, hW1⟩ : ∃ W1, W1 = wr := ⟨_, rfl⟩
      subst hW1
      have HU0 := Lib.hid (show OwnG shB 4 W1 w.heap.size A' c' (usedB j (us.take 0)) by rw [List.take_zero, ← usedB_nil]; exact HU.out.mono (by omega))
      have HT0 := Lib.hid (HM0.out.ext HE.out)
      have HE1 := Lib.hid (HE00.out.trans HE.out)
      clear HU HM0 HE HE00 hW0s
      go_wp2_with fail
      go_loopw [6, 9] (fun v i wr => ∃ (q : Nat) (ts : List Sl) (A6 : Option Addr) (c6 : Nat), q ≤ k ∧ i = .int .i64 q ∧ v = .slice A6 q c6 ∧ Hid (ts.length = q) ∧ Hid (bodies ts = txtsOf (bodies ss) (us.take q)) ∧ Hid (DTd w wr A6 c6 ts) ∧ Hid (OwnG shB 4 wr w.heap.size A' c' (usedB j (us.take q))) ∧ Hid (∀ u ∈ us.take q, u < j)) (fun _ i _ => k - (intOf i).toNat)
      case atStart => exact ⟨0, [], _, _, Nat.zero_le _, rfl, rfl, rfl, rfl, ⟨HT0.out, Txts.nil .., HE1.out⟩, HU0.out, fun u hu => by rw [List.take_zero] at hu; cases hu⟩
      case round =>
        clear HU0 HT0 HE1
        obtain ⟨q, ts, A6, c6, hq, rfl, rfl, Htl, Hbs, HD, HU, HA⟩ := hrel
        by_cases hlt2 : q < k
        · obtain ⟨b, o, rfl, hbb, hc0⟩ := Hy.out.at_ hlt2
          have hc := (HD.out.ext.cells b (o + q) hbb).trans hc0
          have hvs : us[q]? = some (us.getD q 0) := by simp [List.getD, show q < us.length by rw [Hul.out]; exact hlt2]
          have hv := Huu.out _ (List.mem_of_getElem? hvs)
          have htk : us.take (q + 1) = us.take q ++ [us.getD q 0] := take_nextG us q hvs
          have hmem := List.mem_of_getElem? hvs
          obtain ⟨u, hue⟩ : ∃ u, u = us.getD q 0 := ⟨_, rfl⟩
          rw [← hue] at hc hc0 hv htk hmem
          have Htk := Lib.hid htk
          have Hmem := Lib.hid hmem
          clear hvs hue htk hmem
          have hjw : IntKind.u64.wrap ((j : Nat) : Int) = ((j : Nat) : Int) := IntWalk.u64_in _ (by omega)
          by_cases hge : j ≤ u
          · have HRb := Lib.hid (HRn.out (fun h => by have := (meant_iff.1 h).1 u Hmem.out; omega))
            go_wp2_with fail
            go_ret2
            exact TxtsPost.bad _ HRb.out HD.out.ext
          · have hltu : u < j := by omega
            obtain ⟨b2, x2, hA2, hbase2, hblt2, hx2, hcell2, hfro2, hset2⟩ := HU.out.atB (j := u) (by rw [usedB_len]; exact hltu)
            subst hA2
            obtain ⟨hs1, hs2⟩ := hset2 true
            have HD6 := HD.out.store HU.out rfl (by rw [usedB_len]; omega) hbase2 hs2
            rw [usedB_set, ← Htk.out] at hs1
            obtain ⟨b', o', t, hA1, hf, hc'0⟩ := Hx.out.at_ (j := u) hltu
            have hmt := List.mem_of_getElem? hf
            have hrt := Hr.out t hmt
            have hlt3 := Hs.out t hmt
            have htb : (bodies ss).getD u [] = t.body := by rw [bodies_get hf]
            obtain ⟨tA, tc, tb⟩ := t
            simp only at hc'0 hrt htb hlt3
            subst hA1
            have hb'lt := World.block_lt_of_cell? _ _ hc'0
            have hc6 := (HD6.ext.cells b (o + q) hbb).trans hc0
            have hc'6 := (HD6.ext.cells b' (o' + u) hb'lt).trans hc'0
            have HN := Lib.hid (show ∀ (A6 : Option Addr) (c6 : Nat), bodies (ts ++ [⟨A6, c6, tb⟩]) = txtsOf (bodies ss) (us.take (q + 1)) by
              intro A6 c6
              rw [Htk.out, txtsOf_snoc, htb, ← Hbs.out]; unfold bodies; rw [List.map_append]; rfl)
            obtain ⟨tl, htl⟩ : ∃ tl, tl = tb.length := ⟨_, rfl⟩
            rw [← htl] at hc'0 hc'6 hrt hlt3
            have Htl2 := Lib.hid htl
            have HC5 := Lib.hid (copy_any tA tl tc tb _ (hrt.ext HD6.ext) (by omega))
            have HD6 := Lib.hid HD6
            have HU6 := Lib.hid hs1
            have HA6 := Lib.hid (show ∀ v ∈ us.take (q + 1), v < j by
              intro v hv
              rw [Htk.out] at hv
              rcases List.mem_append.1 hv with h | h
              · exact HA.out v h
              · simp at h; omega)
            clear htl hmt hf htb hrt hs1 hs2 hset2 hx2 hc0 hc'0 hbb hb'lt
            go_wp2_with fail
            refine HC5.out.mono ?_
            rintro e w6 ⟨A9, c9, rfl, hown9, he9⟩
            rw [Htl2.out]
            go_wp2_with (at_builtin; refine wpList_pushT (w0 := w) ⟨A9, c9, tb⟩ rfl _ _ rfl ((HD6.out.row.ext he9).ext ((Ext.refl _).alloc _)) q Htl.out rfl rfl (heap_alloc_new _ _) (by omega) (Ext.trans (HD6.out.ext.trans he9) ((Ext.refl _).alloc _)) (by have := (HD6.out.ext.trans he9).size; simp; omega) ?_; intro A7 c7 w7 hown7 hg7 hb7 hz7)
            have hg8 := hg7
            rw [← Htl.out] at hg8
            have HD7 := Lib.hid (HD6.out.snoc (s := ⟨A9, c9, tb⟩) hown9 he9 hown7 hg8 hb7)
            have HU7 := Lib.hid (marks_grown (HD6.out.row.ext he9) (HU6.out.ext he9) hg8)
            clear hown9 hown7 hg7 hg8 hb7
            go_wp2_with fail
            go_roundw
            case rel => exact ⟨q + 1, _, A7, c7, by omega, by go_num, by go_num, by rw [List.length_append, Htl.out]; rfl, HN.out _ _, HD7.out, HU7.out, HA6.out⟩
            case measure => simp [intOf]; omega
        · obtain rfl : q = k := by omega
          have htk : us.take q = us := List.take_of_length_le (by rw [Hul.out]; exact Nat.le_refl _)
          rw [htk] at Hbs HU HA
          obtain ⟨W2, hW2⟩ : ∃ W2, W2 = wr := ⟨_, rfl⟩
          subst hW2
          clear htk
          go_wp2_with fail
          go_loopw [10] (fun i wr => ∃ (x : Nat), x ≤ j ∧ i = .int .i64 x ∧ wr = W2 ∧ Hid (∀ y, y < x → y ∈ us)) (fun i _ => j - (intOf i).toNat)
          case atStart => exact ⟨0, Nat.zero_le _, rfl, rfl, fun y hy => absurd hy (by omega)⟩
          case round =>
            obtain ⟨x, hxj, rfl, rfl, HS⟩ := hrel
            by_cases hlt4 : x < j
            · obtain ⟨b2, x2, hA2, _, _, hx2, hcell2, _, _⟩ := HU.out.atB (j := x) (by rw [usedB_len]; exact hlt4)
              subst hA2
              rw [usedB_at hx2] at hcell2
              by_cases hin : x ∈ us
              · rw [decide_eq_true hin] at hcell2
                have HS2 := Lib.hid (show ∀ y, y < x + 1 → y ∈ us by
                  intro y hy
                  by_cases e : y = x
                  · subst e; exact hin
                  · exact HS.out y (by omega))
                clear hx2 hin
                go_wp2_with fail
                go_roundw
                case rel => exact ⟨x + 1, by omega, by go_num, by first | rfl | trivial, HS2.out⟩
                case measure => simp [intOf]; omega
              · rw [decide_eq_false hin] at hcell2
                have HRb := Lib.hid (HRn.out (fun h => hin ((meant_iff.1 h).2 x hlt4)))
                clear hx2 hin
                go_wp2_with fail
                go_ret2
                exact TxtsPost.bad _ HRb.out HD.out.ext
            · obtain rfl : x = j := by omega
              have HRg := Lib.hid (show R = (bodies ts, 0) by rw [HRy.out (meant_iff.2 ⟨HA.out, HS.out⟩), Hbs.out])
              go_wp2_with fail
              go_ret2
              exact TxtsPost.good _ HRg.out Htl.out HD.out.row HD.out.txt HD.out.ext

end Go.Proofs.Ytpdppldkebfikaa
