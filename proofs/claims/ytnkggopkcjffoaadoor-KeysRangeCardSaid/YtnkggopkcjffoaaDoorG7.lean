import Derived.Test.YtnkggopkcjffoaaDoorG6
import Derived.Test.YtnkggopkcjffoaaDoorG3
import Derived.Test.YtnkggopkcjffoaaDoorG4
import Derived.Deep.MidRow

/-
  Layer 7: the program's Encode.
-/
namespace Go.Proofs.YtnkggopkcjffoaaDoor
open Go.RowKit

/-- What Encode answers. -/
def kencE (keys : Int) (cs : List Col) (xs : List Ci) : List Nat × Int :=
  if schE keys cs ≠ 0 then ([], schE keys cs) else if xs.length < 1 ∨ keys < xs.length then ([], 61) else if rowF cs xs ≠ 0 then ([], rowF cs xs) else (keyB cs (xs.map Ci.val), 0)
def KEncPost (R : List Nat × Int) (w : World) (e : Ending) (w' : World) : Prop :=
  ∃ A' c', e = .returned (.tuple #[.slice A' R.1.length c', .int .i64 R.2]) ∧ Own .u8 5 w' w.heap.size A' c' R.1 ∧ Ext w w'
theorem KEncPost.bad {w w' : World} (R : List Nat × Int) {E : Int} (h : R = ([], E)) (he : Ext w w') : KEncPost R w (.returned (.tuple #[.slice none 0 0, .int .i64 E])) w' := by
  subst h
  exact ⟨none, 0, rfl, Own.nil .., he⟩
theorem KEncPost.good {w w' : World} (R : List Nat × Int) {xs : List Nat} {A : Option Addr} {m c : Nat} (h : R = (xs, 0)) (hm : xs.length = m) (ho : Own .u8 5 w' w.heap.size A c xs) (he : Ext w w') : KEncPost R w (.returned (.tuple #[.slice A m c, .int .i64 0])) w' := by
  subst h
  subst hm
  exact ⟨A, c, rfl, ho, he⟩

set_option maxHeartbeats 1600000 in
set_option maxRecDepth 100000 in
theorem kencode_any (A : Option Addr) (n c : Nat) (keys : Int) (cs : List Col) (A2 : Option Addr) (n2 c2 : Nat) (xs : List Ci) (w : World) (hs : SchIn w A n c cs) (hx : RdX w A2 n2 xs) (hn2 : n2 ≤ 140737488351232) (hcap : ∀ x ∈ xs, x.txt.length ≤ x.c ∧ x.c ≤ 9223372036854775807) :
    Calls Tryd.prog 13 #[.agg #[.slice A n c, .int .i64 keys], .slice A2 n2 c2] w (KEncPost (kencE keys cs xs) w) := by
  have hl2 := hx.1
  have HS := Lib.hid (fun (W : World) (hW : Ext w W) => scheck_any A n c keys cs W (hs.rd.ext hW) hs.nm hs.le)
  by_cases z1 : schE keys cs = 0
  · obtain ⟨i1, i2, i3, i4, i5⟩ := schE_inv z1
    rw [z1] at HS
    by_cases hb : n2 < 1 ∨ keys < n2
    · have HR := Lib.hid (show kencE keys cs xs = ([], 61) by unfold kencE; rw [if_neg (by simp [z1]), if_pos (by rw [hl2]; exact hb)])
      have d1 : decide ((n2 : Int) < 1) = decide (n2 < 1) := by rw [decide_eq_decide]; omega
      clear hs hx hcap z1 hl2 i1 i2
      by_cases h1 : n2 < 1
      · obtain rfl : n2 = 0 := by omega
        clear hb
        go_enter Tryd.func13, Tryd.ntmps13
        go_wp2_with fail
        refine (HS.out _ ((Ext.refl w).alloc _)).mono ?_
        rintro e w1 ⟨rfl, he1⟩
        go_wp2_with fail
        go_ret2
        exact KEncPost.bad _ HR.out (((Ext.refl w).alloc _).trans he1)
      · have h2 : keys < n2 := by omega
        have d2 : decide ((n2 : Int) < 1) = false := decide_eq_false (by omega)
        have h3 : ¬ (n2 : Int) < 1 := by omega
        clear hb d1
        go_enter Tryd.func13, Tryd.ntmps13
        go_wp2_with fail
        refine (HS.out _ ((Ext.refl w).alloc _)).mono ?_
        rintro e w1 ⟨rfl, he1⟩
        have ha := (AtS.box w A n c keys).ext he1
        have hc1 := ha.c1
        go_wp2_with fail
        go_ret2
        exact KEncPost.bad _ HR.out (((Ext.refl w).alloc _).trans he1)
    · have hm1 : 1 ≤ n2 := by omega
      have hmk : (n2 : Int) ≤ keys := by omega
      have hcn := hs.rd.1
      obtain ⟨R, hR⟩ : ∃ R, R = kencE keys cs xs := ⟨_, rfl⟩
      have hR2 : R = if rowF cs xs ≠ 0 then ([], rowF cs xs) else (keyB cs (xs.map Ci.val), 0) := by rw [hR]; unfold kencE; rw [if_neg (by simp [z1]), if_neg (by rw [hl2]; exact hb)]
      rw [← hR]
      have HRe := Lib.hid (fun (h : rowF cs xs ≠ 0) => hR2.trans (if_pos h))
      have HRo := Lib.hid (fun (h : rowF cs xs = 0) => hR2.trans (if_neg (fun q => q h)))
      have d2 : decide ((n2 : Int) < 1) = false := decide_eq_false (by omega)
      have h3 : ¬ (n2 : Int) < 1 := by omega
      have h4 : ¬ keys < (n2 : Int) := by omega
      have Hl2 := Lib.hid hl2
      have Hs := Lib.hid hs
      have Hx := Lib.hid hx
      have Hcap := Lib.hid hcap
      have hnn : n2 ≤ n := by omega
      have hn12 : n ≤ 12 := by omega
      have Hcols : Hid (∀ (j : Nat) (d : Col), cs[j]? = some d → (j : Int) < keys → d.null = false) := Lib.hid (by
        intro j d hj hk
        have hB : schB keys cs = true := by
          unfold schE at z1
          by_cases q : schB keys cs = true
          · exact q
          · rw [if_neg q] at z1; omega
        unfold schB at hB
        simp only [Bool.and_eq_true] at hB
        have := colsB_iff.1 hB.1.2 j d hj
        rw [Nat.zero_add] at this
        unfold colB at this
        simp only [Bool.and_eq_true, Bool.not_eq_true', Bool.and_eq_false_iff, decide_eq_false_iff_not] at this
        rcases this.2 with h | h
        · exact h
        · exact absurd hk h)
      clear hR hR2 hl2 hs hx hcap z1 hb hcn i1 i2
      go_enter Tryd.func13, Tryd.ntmps13
      go_wp2_with fail
      refine (HS.out _ ((Ext.refl w).alloc _)).mono ?_
      rintro e w1 ⟨rfl, he1⟩
      have ha := (AtS.box w A n c keys).ext he1
      have hc1 := ha.c1
      have hE1 : Ext w w1 := ((Ext.refl w).alloc _).trans he1
      have Ha := Lib.hid ha
      have HE1 := Lib.hid hE1
      clear ha hE1 he1
      go_wp2_with fail
      obtain ⟨g, hg⟩ : ∃ g, g = w.heap.size := ⟨_, rfl⟩
      rw [← hg] at Ha hc1 ⊢
      have Hg := Lib.hid hg
      clear hg hc1
      go_loopw [7, 8, 9, 10, 11, 29] (fun kv _ _ _ _ i wr => ∃ (j L : Nat) (A' : Option Addr) (c' : Nat), j ≤ n2 ∧ i = .int .i64 j ∧ kv = .slice A' L c' ∧ Hid ((keyB cs ((xs.take j).map Ci.val)).length = L) ∧ Hid (Own .u8 5 wr w1.heap.size A' c' (keyB cs ((xs.take j).map Ci.val))) ∧ Hid (rowF (cs.drop j) (xs.drop j) = rowF cs xs) ∧ Hid (Ext w1 wr) ∧ Hid (L ≤ 402 * j)) (fun _ _ _ _ _ i _ => n2 - (intOf i).toNat)
      case atStart => exact ⟨0, 0, none, 0, Nat.zero_le _, rfl, rfl, by cases cs <;> rfl, by first | exact (by cases cs <;> exact Own.nil ..), rfl, Ext.refl _, Nat.zero_le _⟩
      case round =>
        obtain ⟨j, L, A', c', hj, rfl, rfl, HL, HO, HF, HE, HB⟩ := hrel
        by_cases hlt : j < n2
        · obtain ⟨b, o, x, hA2, hbl, hxj, x0, x1, x2, xin⟩ := (Hx.out.ext (HE1.out.trans HE.out)).at_ hlt
          subst hA2
          obtain ⟨bc, oc, d, hA, hbl2, hdj, y0, y1, y2⟩ := (Hs.out.rd.ext (HE1.out.trans HE.out)).at_ (show j < n by omega)
          subst hA
          have hst := rowF_at hdj hxj
          rw [HF.out] at hst
          have ha2 := Ha.out.ext HE.out
          have a0 := ha2.c0
          have hglt := ha2.lt
          obtain ⟨xn, xi, xA, xc, xt⟩ := x
          obtain ⟨dn, dk, du⟩ := d
          simp only at x0 x1 x2 y0 y1 y2
          have hce : chkC ⟨dn, dk, du⟩ ⟨xn, xi, xA, xc, xt⟩ = chk dk du xn xi xt := rfl
          rw [hce] at hst
          have hxl := xin.len
          simp only at hxl
          have HC := Lib.hid (fun (W : World) (hW : Ext wr W) => check_any dk du xn xi xA xt.length xc xt W (xin.rd.ext hW) xin.u8 xin.lo xin.hi (by omega))
          obtain ⟨xl, hxl2⟩ : ∃ xl, xl = xt.length := ⟨_, rfl⟩
          rw [← hxl2] at x2 HC hxl
          have Hst := Lib.hid hst
          have Hxj := Lib.hid hxj
          have Hdj := Lib.hid hdj
          have Hxin := Lib.hid xin
          have Hxl := Lib.hid hxl2
          have i6 : (j : Int) < (n : Int) := by omega
          clear hst hce xin hxj hdj hxl2 ha2
          go_wp2_with fail
          refine (HC.out _ (((Ext.refl wr).alloc _).alloc _)).mono ?_
          rintro e w5 ⟨rfl, he5⟩
          have r1 : w5.heap[wr.heap.size]? = some (.cells #[.bool xn, .int .i64 xi, .slice xA xl xc] 63) := (he5.block wr.heap.size (by simp; omega)).trans ((((Ext.refl (wr.alloc (.cells #[.bool xn, .int .i64 xi, .slice xA xl xc] 63))).alloc (.cells #[.string dn, .int .i64 dk, .bool du] 68)).block wr.heap.size (by simp)).trans (heap_alloc_new wr _))
          have r2 : w5.heap[wr.heap.size + 1]? = some (.cells #[.string dn, .int .i64 dk, .bool du] 68) := (he5.block (wr.heap.size + 1) (by simp)).trans (by
            have := heap_alloc_new (wr.alloc (.cells #[.bool xn, .int .i64 xi, .slice xA xl xc] 63)) (.cells #[.string dn, .int .i64 dk, .bool du] 68)
            simpa using this)
          have f0 := cell_of_row w5 wr.heap.size 0 _ _ (0, 0) r1
          have f1 := cell_of_row w5 wr.heap.size 1 _ _ (0, 0) r1
          have f2 := cell_of_row w5 wr.heap.size 2 _ _ (0, 0) r1
          have f3 := cell_of_row w5 (wr.heap.size + 1) 1 _ _ (0, 0) r2
          have HE5 : Hid (Ext wr w5) := Lib.hid ((((Ext.refl wr).alloc _).alloc _).trans he5)
          clear r1 r2 he5
          obtain ⟨N, hN⟩ : ∃ N, N = wr.heap.size := ⟨_, rfl⟩
          rw [← hN] at f0 f1 f2 f3 ⊢
          clear hN
          by_cases hz : chk dk du xn xi xt = 0
          · have hst := Hst.out
            rw [hz, if_neg (fun q => q rfl)] at hst
            have hdu : du = false := Hcols.out j _ Hdj.out (by omega)
            subst hdu
            have hz2 := hz
            have hxn : xn = false := by
              cases xn with
              | false => rfl
              | true => exact absurd (chk_nul0 hz).1 (by decide)
            subst hxn
            have hk := chk_kind hz2
            have hcp := Hcap.out _ (List.mem_of_getElem? Hxj.out)
            simp only [← Hxl.out] at hcp
            have h200 : xl ≤ 200 := by
              rw [Hxl.out]
              by_cases h6 : dk ≤ 6
              · rw [(chk_num0 ⟨hk.1, h6⟩ hz2).1]; simp
              · exact (chk_txt0 (by omega) hz2).2.1
            have HP := Lib.hid (kputP_any dk xi false xA xl xc xt w5 (by rw [Hxl.out]; exact Hxin.out.rd.ext HE5.out) Hxin.out.u8 h200 hcp.1 hcp.2 hk (fun h6 => (chk_num0 ⟨hk.1, h6⟩ hz2).2))
            have hkl := kput_len (k := dk) (num := xi) (txt := xt) (by rw [← Hxl.out]; exact h200)
            have HK := Lib.hid (show keyB cs ((xs.take (j + 1)).map Ci.val) = keyB cs ((xs.take j).map Ci.val) ++ kput dk xi xt by
              have := keyB_step (cs := cs) (vs := xs.map Ci.val) Hdj.out (by rw [List.getElem?_map, Hxj.out]; rfl)
              simp only [List.map_take]
              exact this)
            obtain ⟨X, hX⟩ : ∃ X, X = kput dk xi xt := ⟨_, rfl⟩
            rw [← hX] at HP hkl HK
            obtain ⟨xk, hxk⟩ : ∃ xk, X.length = xk := ⟨_, rfl⟩
            rw [hxk] at HP hkl
            have Hxk := Lib.hid hxk
            have HF2 := Lib.hid (hst.symm)
            rw [hz2]
            have hLb := HB.out
            clear hst hz hz2 hcp hX hxk x0 x1 x2 y0 y1 y2
            go_wp2_with fail
            refine HP.out.mono ?_
            rintro e w6 ⟨A6, c6, rfl, hown6, he6⟩
            have hE6 : Ext w1 w6 := (HE.out.trans HE5.out).trans he6
            go_wp2_with (at_builtin; refine wpList_pushes (w0 := w1) .u8 5 rfl _ _ 28 rfl _ 1 Tryd.underlying28 Tryd.infoU8 rfl ((HO.out.ext HE5.out).ext he6) L HL.out rfl rfl (hown6.rd' Hxk.out) (by omega) (by omega) hE6 hE6.size ?_; intro A7 c7 w7 hown7 hb7 hz7)
            have HL7 := Lib.hid (show (keyB cs ((xs.take (j + 1)).map Ci.val)).length = L + xk by rw [HK.out, List.length_append, HL.out, Hxk.out])
            have HO7 := Lib.hid (show Own .u8 5 w7 w1.heap.size A7 c7 (keyB cs ((xs.take (j + 1)).map Ci.val)) by rw [HK.out]; exact hown7)
            have HE7 : Hid (Ext w1 w7) := Lib.hid hb7
            have HB7 := Lib.hid (show L + xk ≤ 402 * (j + 1) by omega)
            clear hown7 hb7 hown6 he6 hE6
            go_roundw
            case rel => exact ⟨j + 1, L + xk, A7, c7, by omega, by go_num, by go_num, HL7.out, HO7.out, HF2.out, HE7.out, HB7.out⟩
            case measure => simp [intOf]; omega
          · have hst := Hst.out
            rw [if_pos hz] at hst
            have HRb := Lib.hid (show R = ([], chk dk du xn xi xt) by rw [HRe.out (by rw [hst]; exact hz), hst])
            obtain ⟨E, hEe⟩ : ∃ E, E = chk dk du xn xi xt := ⟨_, rfl⟩
            rw [← hEe] at HRb hz ⊢
            have hb1 : (E != 0) = true := by rw [bne_iff_ne]; exact hz
            clear hst hEe x0 x1 x2 y0 y1 y2
            go_wp2_with fail
            go_ret2
            exact KEncPost.bad _ HRb.out ((HE1.out.trans HE.out).trans HE5.out)
        · obtain rfl : j = n2 := by omega
          have hz := HF.out
          rw [rowF_end (by rw [Hl2.out]; exact Nat.le_refl _)] at hz
          have htk : xs.take j = xs := List.take_of_length_le (by rw [Hl2.out]; exact Nat.le_refl _)
          rw [htk] at HL HO
          have HRg := Lib.hid (HRo.out hz.symm)
          clear hz htk
          go_wp2_with fail
          go_ret2
          exact KEncPost.good _ HRg.out HL.out (HO.out.mono HE1.out.size) (HE1.out.trans HE.out)
  · have HR := Lib.hid (show kencE keys cs xs = ([], schE keys cs) from if_pos z1)
    obtain ⟨E, hE⟩ : ∃ E, E = schE keys cs := ⟨_, rfl⟩
    rw [← hE] at HS HR z1
    have hb1 : (E != 0) = true := by rw [bne_iff_ne]; exact z1
    clear hs hx hcap hl2 hE
    go_enter Tryd.func13, Tryd.ntmps13
    go_wp2_with fail
    refine (HS.out _ ((Ext.refl w).alloc _)).mono ?_
    rintro e w1 ⟨rfl, he1⟩
    go_wp2_with fail
    go_ret2
    exact KEncPost.bad _ HR.out (((Ext.refl w).alloc _).trans he1)

end Go.Proofs.YtnkggopkcjffoaaDoor

/-
  Layer 7: the program's bound and Bounds.
-/
namespace Go.Proofs.YtnkggopkcjffoaaDoor
open Go.RowKit

/-- What bound answers. -/
def kbndE (keys : Int) (cs : List Col) (xs : List Ci) : List Nat × Int := if xs.length = 0 then ([], 0) else kencE keys cs xs
theorem kencE_bad {keys : Int} {cs : List Col} {xs : List Ci} (h : (kencE keys cs xs).2 ≠ 0) : kencE keys cs xs = ([], (kencE keys cs xs).2) := by
  unfold kencE at h ⊢
  split
  · rfl
  · split
    · rfl
    · split
      · rfl
      · rename_i h1 h2 h3
        rw [if_neg h1, if_neg h2, if_neg h3] at h
        exact absurd rfl h
theorem kbndE_bad {keys : Int} {cs : List Col} {xs : List Ci} (h : (kbndE keys cs xs).2 ≠ 0) : kbndE keys cs xs = ([], (kbndE keys cs xs).2) := by
  unfold kbndE at h ⊢
  by_cases h0 : xs.length = 0
  · rw [if_pos h0] at h; exact absurd rfl h
  · rw [if_neg h0] at h ⊢; exact kencE_bad h

theorem kbound_any (A : Option Addr) (n c : Nat) (keys : Int) (cs : List Col) (A2 : Option Addr) (n2 c2 : Nat) (xs : List Ci) (w : World) (hs : SchIn w A n c cs) (hx : RdX w A2 n2 xs) (hn2 : n2 ≤ 140737488351232) (hcap : ∀ x ∈ xs, x.txt.length ≤ x.c ∧ x.c ≤ 9223372036854775807) :
    Calls Tryd.prog 48 #[.agg #[.slice A n c, .int .i64 keys], .slice A2 n2 c2] w (KEncPost (kbndE keys cs xs) w) := by
  have hl2 := hx.1
  have HE := Lib.hid (fun (W : World) (hW : Ext w W) => kencode_any A n c keys cs A2 n2 c2 xs W (hs.ext hW) (hx.ext hW) hn2 hcap)
  by_cases h0 : n2 = 0
  · subst h0
    have HR := Lib.hid (show kbndE keys cs xs = ([], 0) from if_pos hl2)
    clear hs hx hcap hl2
    go_enter Tryd.func48, Tryd.ntmps48
    go_wp2_with fail
    go_ret2
    exact KEncPost.bad _ HR.out (by first | exact Ext.refl w | exact (Ext.refl w).alloc _)
  · have hR : kbndE keys cs xs = kencE keys cs xs := if_neg (by rw [hl2]; exact h0)
    rw [hR]
    have hb1 : ((n2 : Int) == 0) = false := by rw [beq_eq_false_iff_ne]; omega
    have hpos : 0 < n2 := by omega
    unfold KEncPost at HE ⊢
    obtain ⟨⟨P, E⟩, hP⟩ : ∃ R, R = kencE keys cs xs := ⟨_, rfl⟩
    rw [← hP] at HE ⊢
    simp only at HE ⊢
    obtain ⟨p, hp⟩ : ∃ p, p = P.length := ⟨_, rfl⟩
    rw [← hp] at HE ⊢
    clear hs hx hcap hl2 hR hP hp
    go_enter Tryd.func48, Tryd.ntmps48
    go_wp2_with fail
    refine (HE.out _ ((Ext.refl w).alloc _)).mono ?_
    rintro e w1 ⟨A1, c1, rfl, hown1, he1⟩
    go_wp2_with fail
    go_ret2
    exact ⟨A1, c1, rfl, hown1.mono (by simp), ((Ext.refl w).alloc _).trans he1⟩

/-- What Bounds answers. -/
def kbdsE (keys : Int) (cs : List Col) (xs ys : List Ci) : List Nat × List Nat × Int :=
  if schE keys cs ≠ 0 then ([], [], schE keys cs) else if (kbndE keys cs xs).2 ≠ 0 then ([], [], (kbndE keys cs xs).2) else if (kbndE keys cs ys).2 ≠ 0 then ([], [], (kbndE keys cs ys).2) else ((kbndE keys cs xs).1, (kbndE keys cs ys).1, 0)
def KBdsPost (R : List Nat × List Nat × Int) (w : World) (e : Ending) (w' : World) : Prop :=
  ∃ A1 c1 A2 c2, e = .returned (.tuple #[.slice A1 R.1.length c1, .slice A2 R.2.1.length c2, .int .i64 R.2.2]) ∧ Own .u8 5 w' w.heap.size A1 c1 R.1 ∧ Own .u8 5 w' w.heap.size A2 c2 R.2.1 ∧ (∀ p q, A1 = some p → A2 = some q → p.block < q.block) ∧ Ext w w'
theorem KBdsPost.bad {w w' : World} (R : List Nat × List Nat × Int) {E : Int} (h : R = ([], [], E)) (he : Ext w w') : KBdsPost R w (.returned (.tuple #[.slice none 0 0, .slice none 0 0, .int .i64 E])) w' := by
  subst h
  exact ⟨none, 0, none, 0, rfl, Own.nil .., Own.nil .., fun p q h => (by cases h), he⟩

theorem KBdsPost.good {w w' : World} (R : List Nat × List Nat × Int) {P Q : List Nat} {p q c1 c2 : Nat} {A1 A2 : Option Addr} (h : R = (P, Q, 0)) (hp : p = P.length) (hq : q = Q.length) (o1 : Own .u8 5 w' w.heap.size A1 c1 P) (o2 : Own .u8 5 w' w.heap.size A2 c2 Q) (ha : ∀ p q, A1 = some p → A2 = some q → p.block < q.block) (he : Ext w w') :
    KBdsPost R w (.returned (.tuple #[.slice A1 p c1, .slice A2 q c2, .int .i64 0])) w' := by
  subst h hp hq
  exact ⟨A1, c1, A2, c2, rfl, o1, o2, ha, he⟩

set_option maxHeartbeats 1600000 in
theorem kbounds_any (A : Option Addr) (n c : Nat) (keys : Int) (cs : List Col) (A2 : Option Addr) (n2 c2 : Nat) (xs : List Ci) (A3 : Option Addr) (n3 c3 : Nat) (ys : List Ci) (w : World) (hs : SchIn w A n c cs) (hx : RdX w A2 n2 xs) (hn2 : n2 ≤ 140737488351232) (hcap : ∀ x ∈ xs, x.txt.length ≤ x.c ∧ x.c ≤ 9223372036854775807)
    (hy : RdX w A3 n3 ys) (hn3 : n3 ≤ 140737488351232) (hcap3 : ∀ x ∈ ys, x.txt.length ≤ x.c ∧ x.c ≤ 9223372036854775807) :
    Calls Tryd.prog 24 #[.agg #[.slice A n c, .int .i64 keys], .slice A2 n2 c2, .slice A3 n3 c3] w (KBdsPost (kbdsE keys cs xs ys) w) := by
  have HS := Lib.hid (fun (W : World) (hW : Ext w W) => scheck_any A n c keys cs W (hs.rd.ext hW) hs.nm hs.le)
  have HX := Lib.hid (fun (W : World) (hW : Ext w W) => kbound_any A n c keys cs A2 n2 c2 xs W (hs.ext hW) (hx.ext hW) hn2 hcap)
  have HY := Lib.hid (fun (W : World) (hW : Ext w W) => kbound_any A n c keys cs A3 n3 c3 ys W (hs.ext hW) (hy.ext hW) hn3 hcap3)
  obtain ⟨R, hR⟩ : ∃ R, R = kbdsE keys cs xs ys := ⟨_, rfl⟩
  have hR2 := hR
  unfold kbdsE at hR2
  rw [← hR]
  have bx := kbndE_bad (keys := keys) (cs := cs) (xs := xs)
  have by_ := kbndE_bad (keys := keys) (cs := cs) (xs := ys)
  unfold KEncPost at HX HY
  obtain ⟨⟨P, E⟩, hP⟩ : ∃ R, R = kbndE keys cs xs := ⟨_, rfl⟩
  obtain ⟨⟨Q, F⟩, hQ⟩ : ∃ R, R = kbndE keys cs ys := ⟨_, rfl⟩
  rw [← hP] at HX hR2 bx
  rw [← hQ] at HY hR2 by_
  obtain ⟨S, hS⟩ : ∃ S, S = schE keys cs := ⟨_, rfl⟩
  rw [← hS] at HS hR2
  simp only at HX HY hR2 bx by_
  obtain ⟨p, hp⟩ : ∃ p, p = P.length := ⟨_, rfl⟩
  obtain ⟨q, hq⟩ : ∃ q, q = Q.length := ⟨_, rfl⟩
  rw [← hp] at HX
  rw [← hq] at HY
  have Hp := Lib.hid hp
  have Hq := Lib.hid hq
  clear hs hx hcap hy hcap3 hR hP hQ hS hp hq
  by_cases z1 : S = 0
  · subst z1
    rw [if_neg (fun q => q rfl)] at hR2
    by_cases z2 : E = 0
    · subst z2
      rw [if_neg (fun q => q rfl)] at hR2
      by_cases z3 : F = 0
      · subst z3
        rw [if_neg (fun q => q rfl)] at hR2
        have HR := Lib.hid hR2
        clear hR2 bx by_
        go_enter Tryd.func24, Tryd.ntmps24
        go_wp2_with fail
        refine (HS.out _ ((Ext.refl w).alloc _)).mono ?_
        rintro e w1 ⟨rfl, he1⟩
        have ha := (AtS.box w A n c keys).ext he1
        have hc0 := ha.c0
        have hc1 := ha.c1
        have hE1 := ((Ext.refl w).alloc (.cells #[.slice A n c, .int .i64 keys] 24)).trans he1
        go_wp2_with fail
        refine (HX.out _ hE1).mono ?_
        rintro e w2 ⟨A4, c4, rfl, hown4, he2⟩
        have ha2 := ha.ext he2
        have hc02 := ha2.c0
        have hc12 := ha2.c1
        go_wp2_with fail
        refine (HY.out _ (hE1.trans he2)).mono ?_
        rintro e w3 ⟨A5, c5, rfl, hown5, he3⟩
        go_wp2_with fail
        go_ret3
        refine KBdsPost.good _ HR.out Hp.out Hq.out ((hown4.ext he3).mono hE1.size) (hown5.mono (hE1.trans he2).size) (fun p q hp hq => ?_) ((hE1.trans he2).trans he3)
        have := (hown4.block p hp).2
        have := (hown5.block q hq).1
        omega
      · rw [if_pos z3] at hR2
        have HR := Lib.hid hR2
        have hb1 : (F != 0) = true := by rw [bne_iff_ne]; exact z3
        clear hR2 bx by_
        go_enter Tryd.func24, Tryd.ntmps24
        go_wp2_with fail
        refine (HS.out _ ((Ext.refl w).alloc _)).mono ?_
        rintro e w1 ⟨rfl, he1⟩
        have ha := (AtS.box w A n c keys).ext he1
        have hc0 := ha.c0
        have hc1 := ha.c1
        have hE1 := ((Ext.refl w).alloc (.cells #[.slice A n c, .int .i64 keys] 24)).trans he1
        go_wp2_with fail
        refine (HX.out _ hE1).mono ?_
        rintro e w2 ⟨A4, c4, rfl, hown4, he2⟩
        have ha2 := ha.ext he2
        have hc02 := ha2.c0
        have hc12 := ha2.c1
        go_wp2_with fail
        refine (HY.out _ (hE1.trans he2)).mono ?_
        rintro e w3 ⟨A5, c5, rfl, hown5, he3⟩
        go_wp2_with fail
        go_ret3
        exact KBdsPost.bad _ HR.out ((hE1.trans he2).trans he3)
    · rw [if_pos z2] at hR2
      have HR := Lib.hid hR2
      have hb1 : (E != 0) = true := by rw [bne_iff_ne]; exact z2
      clear hR2 bx by_
      go_enter Tryd.func24, Tryd.ntmps24
      go_wp2_with fail
      refine (HS.out _ ((Ext.refl w).alloc _)).mono ?_
      rintro e w1 ⟨rfl, he1⟩
      have ha := (AtS.box w A n c keys).ext he1
      have hc0 := ha.c0
      have hc1 := ha.c1
      have hE1 := ((Ext.refl w).alloc (.cells #[.slice A n c, .int .i64 keys] 24)).trans he1
      go_wp2_with fail
      refine (HX.out _ hE1).mono ?_
      rintro e w2 ⟨A4, c4, rfl, hown4, he2⟩
      go_wp2_with fail
      go_ret3
      exact KBdsPost.bad _ HR.out (hE1.trans he2)
  · rw [if_pos z1] at hR2
    have HR := Lib.hid hR2
    have hb1 : (S != 0) = true := by rw [bne_iff_ne]; exact z1
    clear hR2 bx by_
    go_enter Tryd.func24, Tryd.ntmps24
    go_wp2_with fail
    refine (HS.out _ ((Ext.refl w).alloc _)).mono ?_
    rintro e w1 ⟨rfl, he1⟩
    go_wp2_with fail
    go_ret3
    exact KBdsPost.bad _ HR.out (((Ext.refl w).alloc _).trans he1)

end Go.Proofs.YtnkggopkcjffoaaDoor

/-
  Layer 7: the program's get.
-/
namespace Go.Proofs.YtnkggopkcjffoaaDoor
open Go.RowKit

/-- What get answers: the value, and what stands behind it. -/
def kgetF (k : Int) (bs : List Nat) : Option (Int × List Nat × List Nat) := match kread k bs with
  | none => none
  | some p => if chk k false false p.1 p.2.1 ≠ 0 then none else some p
def KGetPost (r : Option (Int × List Nat × List Nat)) (w : World) (e : Ending) (w' : World) : Prop :=
  Ext w w' ∧ match r with
  | none => e = .returned (.tuple #[.agg #[.bool false, .int .i64 0, .slice none 0 0], .slice none 0 0, .bool false])
  | some p => ∃ A1 c1 A2 c2, e = .returned (.tuple #[.agg #[.bool false, .int .i64 p.1, .slice A1 (p.2.1.length : Nat) c1], .slice A2 (p.2.2.length : Nat) c2, .bool true]) ∧ Own .u8 5 w' w.heap.size A1 c1 p.2.1 ∧ Rd .u8 w' A2 p.2.2.length p.2.2 ∧ p.2.2.length ≤ c2

/-- What reads as bytes lies apart from a cell. -/
theorem rd_off_cell {w : World} {A : Option Addr} {n g : Nat} {xs : List Nat} {a : Bool} {b : Int} {s : Option Addr} {l c : Nat} {T : TypeId} {fr : Nat × Nat} (h : Rd .u8 w A n xs) (hg : w.heap[g]? = some (.cells #[.bool a, .int .i64 b, .slice s l c] T fr)) (hn : 0 < n) : ∀ p, A = some p → some p.block ≠ some g := by
  intro p hp e
  injection e with e
  obtain ⟨b', o', rfl, _, hc⟩ := h.2 hn
  injection hp with hp
  subst hp
  simp only at e
  subst e
  have h0 := hc 0 hn
  rw [Nat.add_zero, cell_of_row w b' o' _ _ _ hg] at h0
  match o', h0 with
  | 0, h0 => simp at h0
  | 1, h0 => simp at h0
  | 2, h0 => simp at h0
  | o + 3, h0 => simp at h0
theorem Rd.grownZ {w w' : World} {A : Option Addr} {n g : Nat} {xs : List Nat} (h : Rd .u8 w A n xs) (hg : w.grownBy w' (some g)) (hne : 0 < n → ∀ p, A = some p → some p.block ≠ some g) : Rd .u8 w' A n xs := by
  rcases Nat.eq_zero_or_pos n with h0 | h0
  · subst h0
    exact ⟨h.1, fun q => absurd q (by omega)⟩
  · exact h.grown hg (hne h0)

set_option maxHeartbeats 1600000 in
theorem kget_num (k : Int) (A : Option Addr) (n c : Nat) (bs : List Nat) (w : World) (hx : Rd .u8 w A n bs) (hu : U8 bs) (hn : n ≤ 140737488355328) (hcn : n ≤ c) (hk : 1 ≤ k ∧ k ≤ 6) :
    Calls Tryd.prog 45 #[.int .i64 k, .slice A n c] w (KGetPost (kgetF k bs) w) := by
  have hbl := hx.len
  have HK := Lib.hid (fun W => number_any k W)
  rw [numK_yes hk] at HK
  have HG := Lib.hid (fun (W : World) (hW : Ext w W) => getNumber_any k A n c bs W (hx.ext hW) hu hn hcn hk)
  unfold GetNPost at HG
  by_cases hs : bs.length < ksize k
  · have HR := Lib.hid (show kgetF k bs = none by unfold kgetF kread; rw [if_pos hk.2, if_pos hs])
    simp only [if_pos hs] at HG
    clear hx hu hbl hs
    go_enter Tryd.func45, Tryd.ntmps45
    go_wp2_with fail
    refine (HK.out _).mono ?_
    rintro e w1 ⟨rfl, rfl⟩
    go_wp2_with fail
    refine (HG.out _ ((Ext.refl w).alloc _)).mono ?_
    rintro e w2 ⟨he2, rfl⟩
    have hK := Lib.hid (Ext.kept he2)
    have k0 := cell_of_row w2 w.heap.size 0 _ _ (0, 0) hK.out
    have k1 := cell_of_row w2 w.heap.size 1 _ _ (0, 0) hK.out
    have k2 := cell_of_row w2 w.heap.size 2 _ _ (0, 0) hK.out
    have kf1 := frozen_of_row w2 w.heap.size 1 _ _ hK.out
    simp only [List.getElem?_toArray, List.getElem?_cons_zero, List.getElem?_cons_succ] at k0 k1 k2
    have e2 := heap_setCell_same w2 w.heap.size 1 _ _ (.int .i64 0) hK.out
    have HE2 := Lib.hid e2
    have hE2 : Ext w w2 := ((Ext.refl w).alloc _).trans he2
    clear e2
    have HS2 := Lib.hid (hE2.setCell (p := ⟨w.heap.size, 1, none⟩) (Nat.le_refl _) (.int .i64 0))
    clear hE2 he2
    go_wp2_with (refine wpList_store_cell rfl (.tmp 4) (.tmp 43) rfl w.heap.size (.bool false) (.int .i64 0) (.slice none 0 0) rfl rfl HE2.out rfl rfl rfl ?_)
    apply bodyPost_ret
    · exact results_cell3 rfl _ _ w.heap.size 63 #[.bool false, .int .i64 0, .slice none 0 0] (0, 0) _ rfl (setRow_heap _ w.heap.size _ _ 63 (0, 0) HE2.out) Tryd.underlying63 rfl (by kernel_rfl)
    · rfl
    exact ⟨HS2.out.setRow (Nat.le_refl _) _, by rw [HR.out]; rfl⟩
  · obtain ⟨num, hnum⟩ : ∃ num, num = (bval (bs.take (ksize k)) 0 : Int) + least k := ⟨_, rfl⟩
    have hb := bval_lt (bs.take (ksize k)) 0 (u8_take hu _)
    rw [List.length_take, Nat.min_eq_left (by omega)] at hb
    have hrange : -9223372036854775808 ≤ num ∧ num ≤ 9223372036854775807 := by
      rw [hnum]
      have h6 : k = 1 ∨ k = 2 ∨ k = 3 ∨ k = 4 ∨ k = 5 ∨ k = 6 := by omega
      rcases h6 with rfl | rfl | rfl | rfl | rfl | rfl <;> simp [ksize, least] at hb ⊢ <;> omega
    have hR : kgetF k bs = if chk k false false num [] ≠ 0 then none else some (num, [], bs.drop (ksize k)) := by unfold kgetF kread; rw [if_pos hk.2, if_neg hs, ← hnum]
    simp only [if_neg hs, ← hnum] at HG
    obtain ⟨r, hr⟩ : ∃ r, r = bs.length - ksize k := ⟨_, rfl⟩
    obtain ⟨rest, hrest⟩ : ∃ rest, rest = bs.drop (ksize k) := ⟨_, rfl⟩
    have hrl : rest.length = r := by rw [hrest, List.length_drop, hr]
    rw [← hr, ← hrest] at HG
    rw [← hrest] at hR
    obtain ⟨C, hC⟩ : ∃ C, C = chk k false false num [] := ⟨_, rfl⟩
    rw [← hC] at hR
    have HC := Lib.hid (fun (W : World) => check_any k false false num none 0 0 [] W (Rd.nil ..) (by decide) hrange.1 hrange.2 (by omega))
    rw [← hC] at HC
    have Hrl := Lib.hid hrl
    have HR := Lib.hid hR
    clear hx hu hbl hs hnum hb hrange hR hr hrest hrl hC
    go_enter Tryd.func45, Tryd.ntmps45
    go_wp2_with fail
    refine (HK.out _).mono ?_
    rintro e w1 ⟨rfl, rfl⟩
    go_wp2_with fail
    refine (HG.out _ ((Ext.refl w).alloc _)).mono ?_
    rintro e w2 ⟨he2, A2, c2, rfl, hr2, hc2⟩
    have hK := Lib.hid (Ext.kept he2)
    have k0 := cell_of_row w2 w.heap.size 0 _ _ (0, 0) hK.out
    have k1 := cell_of_row w2 w.heap.size 1 _ _ (0, 0) hK.out
    have k2 := cell_of_row w2 w.heap.size 2 _ _ (0, 0) hK.out
    have kf1 := frozen_of_row w2 w.heap.size 1 _ _ hK.out
    simp only [List.getElem?_toArray, List.getElem?_cons_zero, List.getElem?_cons_succ] at k0 k1 k2
    have e2 := heap_setCell_same w2 w.heap.size 1 _ _ (.int .i64 num) hK.out
    have HE2 := Lib.hid e2
    have hE2 : Ext w w2 := ((Ext.refl w).alloc _).trans he2
    have HS2 := Lib.hid (hE2.setCell (p := ⟨w.heap.size, 1, none⟩) (Nat.le_refl _) (.int .i64 num))
    have HR2 := Lib.hid hr2
    clear e2 hE2 he2 hr2
    go_wp2_with fail
    refine (HC.out _).mono ?_
    rintro e w5 ⟨rfl, he5⟩
    have hlt5 := (Array.getElem?_eq_some_iff.1 HE2.out).1
    have HK5 := Lib.hid ((he5.block w.heap.size hlt5).trans HE2.out)
    have k50 := cell_of_row w5 w.heap.size 0 _ _ (0, 0) HK5.out
    have k51 := cell_of_row w5 w.heap.size 1 _ _ (0, 0) HK5.out
    have k52 := cell_of_row w5 w.heap.size 2 _ _ (0, 0) HK5.out
    have HR5 := Lib.hid ((HR2.out.grownZ (grown_setCell w2 w.heap.size 1 (.int .i64 num)) (rd_off_cell HR2.out hK.out)).ext he5)
    have HS5 := Lib.hid (HS2.out.trans he5)
    clear hlt5 he5 k0 k1 k2 kf1
    by_cases hz : C = 0
    · subst hz
      have hR := HR.out
      rw [if_neg (fun q => q rfl)] at hR
      have HRg := Lib.hid hR
      clear hR
      go_wp2_with (refine wpList_store_cell rfl (.tmp 4) (.tmp 44) rfl w.heap.size (.bool false) (.int .i64 num) (.slice none 0 0) rfl rfl HK5.out rfl rfl rfl ?_)
      have HRz := Lib.hid (HR5.out.grownZ (grown_setRow w5 w.heap.size #[.bool false, .int .i64 num, .slice none 0 0]) (rd_off_cell HR5.out HK5.out))
      apply bodyPost_ret
      · exact results_cell3 rfl _ _ w.heap.size 63 #[.bool false, .int .i64 num, .slice none 0 0] (0, 0) _ rfl (setRow_heap _ w.heap.size _ _ 63 (0, 0) HK5.out) Tryd.underlying63 rfl (by kernel_rfl)
      · rfl
      refine ⟨HS5.out.setRow (Nat.le_refl _) _, ?_⟩
      rw [HRg.out]
      exact ⟨none, 0, A2, c2, by simp only [Hrl.out]; rfl, Own.nil .., by simp only [Hrl.out]; exact HRz.out, by simp only [Hrl.out]; exact hc2⟩
    · have hb1 : (C != 0) = true := by rw [bne_iff_ne]; exact hz
      have hR := HR.out
      rw [if_pos hz] at hR
      have HRg := Lib.hid hR
      clear hR
      go_wp2_with (refine wpList_store_cell rfl (.tmp 4) (.tmp 43) rfl w.heap.size (.bool false) (.int .i64 0) (.slice none 0 0) rfl rfl HK5.out rfl rfl rfl ?_)
      apply bodyPost_ret
      · exact results_cell3 rfl _ _ w.heap.size 63 #[.bool false, .int .i64 0, .slice none 0 0] (0, 0) _ rfl (setRow_heap _ w.heap.size _ _ 63 (0, 0) HK5.out) Tryd.underlying63 rfl (by kernel_rfl)
      · rfl
      exact ⟨HS5.out.setRow (Nat.le_refl _) _, by rw [HRg.out]; rfl⟩

end Go.Proofs.YtnkggopkcjffoaaDoor

/-
  Layer 7: the program's get, of texts and bytes.
-/
namespace Go.Proofs.YtnkggopkcjffoaaDoor
open Go.RowKit

theorem esc_mem : ∀ {t : List Nat} {v : Nat}, v ∈ t → v ∈ esc t
  | x :: r, v, h => by
    unfold esc
    rcases List.mem_cons.1 h with h | h
    · subst h; split <;> simp_all
    · have := esc_mem h
      split <;> simp [this]
theorem readT_u8 {l t r : List Nat} (hu : U8 l) (h : readT l = some (t, r)) : U8 t := fun v hv => hu v (by rw [← (readT_ok h).1]; simp [hv])
theorem readB_u8 {l t r : List Nat} (hu : U8 l) (h : readB l = some (t, r)) : U8 t := fun v hv => hu v (by rw [← readB_ok _ (Nat.le_refl _) h]; simp [esc_mem hv])
theorem readT_short {l t r : List Nat} (h : readT l = some (t, r)) : t.length ≤ l.length := by rw [← (readT_ok h).1]; simp
theorem readB_short {l t r : List Nat} (h : readB l = some (t, r)) : t.length ≤ l.length := by
  have := congrArg List.length (readB_ok _ (Nat.le_refl _) h)
  have h2 := esc_count t
  rw [List.length_append, h2] at this
  omega

set_option maxHeartbeats 1600000 in
theorem kget_txt (A : Option Addr) (n c : Nat) (bs : List Nat) (w : World) (hx : Rd .u8 w A n bs) (hu : U8 bs) (hn : n ≤ 140737488355328) (hcn : n ≤ c) :
    Calls Tryd.prog 45 #[.int .i64 7, .slice A n c] w (KGetPost (kgetF 7 bs) w) := by
  have hbl := hx.len
  have HK := Lib.hid (fun W => number_any 7 W)
  rw [numK_no (by decide)] at HK
  have HG := Lib.hid (fun (W : World) (hW : Ext w W) => getText_any A n c bs W (hx.ext hW) hu hn hcn)
  unfold GetXPost at HG
  rcases hr : readT bs with _ | ⟨t, rest⟩
  · rw [hr] at HG
    simp only at HG
    have HR := Lib.hid (show kgetF 7 bs = none by unfold kgetF kread; simp [hr])
    clear hx hu hbl hr
    go_enter Tryd.func45, Tryd.ntmps45
    go_wp2_with fail
    refine (HK.out _).mono ?_
    rintro e w1 ⟨rfl, rfl⟩
    go_wp2_with fail
    refine (HG.out _ ((Ext.refl w).alloc _)).mono ?_
    rintro e w2 ⟨he2, rfl⟩
    have hK := Lib.hid (Ext.kept he2)
    have k0 := cell_of_row w2 w.heap.size 0 _ _ (0, 0) hK.out
    have k1 := cell_of_row w2 w.heap.size 1 _ _ (0, 0) hK.out
    have k2 := cell_of_row w2 w.heap.size 2 _ _ (0, 0) hK.out
    have kf2 := frozen_of_row w2 w.heap.size 2 _ _ hK.out
    simp only [List.getElem?_toArray, List.getElem?_cons_zero, List.getElem?_cons_succ] at k0 k1 k2
    have e2 := heap_setCell_same w2 w.heap.size 2 _ _ (.slice none 0 0) hK.out
    have HE2 := Lib.hid e2
    have hE2 : Ext w w2 := ((Ext.refl w).alloc _).trans he2
    have HS2 := Lib.hid (hE2.setCell (p := ⟨w.heap.size, 2, none⟩) (Nat.le_refl _) (.slice none 0 0))
    clear e2 hE2 he2
    go_wp2_with (refine wpList_store_cell rfl (.tmp 4) (.tmp 43) rfl w.heap.size (.bool false) (.int .i64 0) (.slice none 0 0) rfl rfl HE2.out rfl rfl rfl ?_)
    apply bodyPost_ret
    · exact results_cell3 rfl _ _ w.heap.size 63 #[.bool false, .int .i64 0, .slice none 0 0] (0, 0) _ rfl (setRow_heap _ w.heap.size _ _ 63 (0, 0) HE2.out) Tryd.underlying63 rfl (by kernel_rfl)
    · rfl
    exact ⟨HS2.out.setRow (Nat.le_refl _) _, by rw [HR.out]; rfl⟩
  · rw [hr] at HG
    simp only at HG
    have hR : kgetF 7 bs = if chk 7 false false 0 t ≠ 0 then none else some (0, t, rest) := by unfold kgetF kread; simp [hr]
    have htu : U8 t := readT_u8 hu hr
    have htl : t.length ≤ n := by rw [← hbl]; exact readT_short hr
    obtain ⟨C, hC⟩ : ∃ C, C = chk 7 false false 0 t := ⟨_, rfl⟩
    rw [← hC] at hR
    have HC := Lib.hid (fun (A1 : Option Addr) (c1 : Nat) (W : World) (h : Rd .u8 W A1 t.length t) => check_any 7 false false 0 A1 t.length c1 t W h htu (by omega) (by omega) (by omega))
    rw [← hC] at HC
    obtain ⟨tl, htl2⟩ : ∃ tl, t.length = tl := ⟨_, rfl⟩
    rw [htl2] at HC HG
    obtain ⟨r, hrl⟩ : ∃ r, rest.length = r := ⟨_, rfl⟩
    rw [hrl] at HG
    have Hrl := Lib.hid hrl
    have Htl := Lib.hid htl2
    have HR := Lib.hid hR
    clear hx hu hbl hr hR htu htl hC htl2 hrl
    go_enter Tryd.func45, Tryd.ntmps45
    go_wp2_with fail
    refine (HK.out _).mono ?_
    rintro e w1 ⟨rfl, rfl⟩
    go_wp2_with fail
    refine (HG.out _ ((Ext.refl w).alloc _)).mono ?_
    rintro e w2 ⟨he2, A1, c1, A2, c2, rfl, ho2, hr2, hc2⟩
    have hK := Lib.hid (Ext.kept he2)
    have k0 := cell_of_row w2 w.heap.size 0 _ _ (0, 0) hK.out
    have k1 := cell_of_row w2 w.heap.size 1 _ _ (0, 0) hK.out
    have k2 := cell_of_row w2 w.heap.size 2 _ _ (0, 0) hK.out
    have kf2 := frozen_of_row w2 w.heap.size 2 _ _ hK.out
    simp only [List.getElem?_toArray, List.getElem?_cons_zero, List.getElem?_cons_succ] at k0 k1 k2
    have e2 := heap_setCell_same w2 w.heap.size 2 _ _ (.slice A1 tl c1) hK.out
    have HE2 := Lib.hid e2
    have hE2 : Ext w w2 := ((Ext.refl w).alloc _).trans he2
    have HS2 := Lib.hid (hE2.setCell (p := ⟨w.heap.size, 2, none⟩) (Nat.le_refl _) (.slice A1 tl c1))
    have HR2 := Lib.hid (hr2.grownZ (grown_setCell w2 w.heap.size 2 (.slice A1 tl c1)) (rd_off_cell hr2 hK.out))
    have HO2 := Lib.hid (ho2.far (grown_setCell w2 w.heap.size 2 (.slice A1 tl c1)) (by simp))
    clear e2 hE2 he2 hr2 ho2
    go_wp2_with fail
    refine (HC.out _ _ _ (HO2.out.rd' Htl.out)).mono ?_
    rintro e w5 ⟨rfl, he5⟩
    have hlt5 := (Array.getElem?_eq_some_iff.1 HE2.out).1
    have HK5 := Lib.hid ((he5.block w.heap.size hlt5).trans HE2.out)
    have k50 := cell_of_row w5 w.heap.size 0 _ _ (0, 0) HK5.out
    have k51 := cell_of_row w5 w.heap.size 1 _ _ (0, 0) HK5.out
    have k52 := cell_of_row w5 w.heap.size 2 _ _ (0, 0) HK5.out
    have HR5 := Lib.hid (HR2.out.ext he5)
    have HO5 := Lib.hid (HO2.out.ext he5)
    have HS5 := Lib.hid (HS2.out.trans he5)
    clear hlt5 he5 k0 k1 k2 kf2
    by_cases hz : C = 0
    · subst hz
      have hR := HR.out
      rw [if_neg (fun q => q rfl)] at hR
      have HRg := Lib.hid hR
      clear hR
      go_wp2_with (refine wpList_store_cell rfl (.tmp 4) (.tmp 44) rfl w.heap.size (.bool false) (.int .i64 0) (.slice A1 tl c1) rfl rfl HK5.out rfl rfl rfl ?_)
      have HRz := Lib.hid (HR5.out.grownZ (grown_setRow w5 w.heap.size #[.bool false, .int .i64 0, .slice A1 tl c1]) (rd_off_cell HR5.out HK5.out))
      have HOz := Lib.hid (HO5.out.far (grown_setRow w5 w.heap.size #[.bool false, .int .i64 0, .slice A1 tl c1]) (by simp))
      apply bodyPost_ret
      · exact results_cell3 rfl _ _ w.heap.size 63 #[.bool false, .int .i64 0, .slice A1 tl c1] (0, 0) _ rfl (setRow_heap _ w.heap.size _ _ 63 (0, 0) HK5.out) Tryd.underlying63 rfl (by kernel_rfl)
      · rfl
      refine ⟨HS5.out.setRow (Nat.le_refl _) _, ?_⟩
      rw [HRg.out]
      exact ⟨A1, c1, A2, c2, by simp only [Hrl.out, Htl.out]; rfl, HOz.out.mono (by simp), by simp only [Hrl.out]; exact HRz.out, by simp only [Hrl.out]; exact hc2⟩
    · have hb1 : (C != 0) = true := by rw [bne_iff_ne]; exact hz
      have hR := HR.out
      rw [if_pos hz] at hR
      have HRg := Lib.hid hR
      clear hR
      go_wp2_with (refine wpList_store_cell rfl (.tmp 4) (.tmp 43) rfl w.heap.size (.bool false) (.int .i64 0) (.slice none 0 0) rfl rfl HK5.out rfl rfl rfl ?_)
      apply bodyPost_ret
      · exact results_cell3 rfl _ _ w.heap.size 63 #[.bool false, .int .i64 0, .slice none 0 0] (0, 0) _ rfl (setRow_heap _ w.heap.size _ _ 63 (0, 0) HK5.out) Tryd.underlying63 rfl (by kernel_rfl)
      · rfl
      exact ⟨HS5.out.setRow (Nat.le_refl _) _, by rw [HRg.out]; rfl⟩

set_option maxHeartbeats 1600000 in
theorem kget_bytes (A : Option Addr) (n c : Nat) (bs : List Nat) (w : World) (hx : Rd .u8 w A n bs) (hu : U8 bs) (hn : n ≤ 140737488355328) (hcn : n ≤ c) :
    Calls Tryd.prog 45 #[.int .i64 8, .slice A n c] w (KGetPost (kgetF 8 bs) w) := by
  have hbl := hx.len
  have HK := Lib.hid (fun W => number_any 8 W)
  rw [numK_no (by decide)] at HK
  have HG := Lib.hid (fun (W : World) (hW : Ext w W) => getBytes_any A n c bs W (hx.ext hW) hu hn hcn)
  unfold GetXPost at HG
  rcases hr : readB bs with _ | ⟨t, rest⟩
  · rw [hr] at HG
    simp only at HG
    have HR := Lib.hid (show kgetF 8 bs = none by unfold kgetF kread; simp [hr])
    clear hx hu hbl hr
    go_enter Tryd.func45, Tryd.ntmps45
    go_wp2_with fail
    refine (HK.out _).mono ?_
    rintro e w1 ⟨rfl, rfl⟩
    go_wp2_with fail
    refine (HG.out _ ((Ext.refl w).alloc _)).mono ?_
    rintro e w2 ⟨he2, rfl⟩
    have hK := Lib.hid (Ext.kept he2)
    have k0 := cell_of_row w2 w.heap.size 0 _ _ (0, 0) hK.out
    have k1 := cell_of_row w2 w.heap.size 1 _ _ (0, 0) hK.out
    have k2 := cell_of_row w2 w.heap.size 2 _ _ (0, 0) hK.out
    have kf2 := frozen_of_row w2 w.heap.size 2 _ _ hK.out
    simp only [List.getElem?_toArray, List.getElem?_cons_zero, List.getElem?_cons_succ] at k0 k1 k2
    have e2 := heap_setCell_same w2 w.heap.size 2 _ _ (.slice none 0 0) hK.out
    have HE2 := Lib.hid e2
    have hE2 : Ext w w2 := ((Ext.refl w).alloc _).trans he2
    have HS2 := Lib.hid (hE2.setCell (p := ⟨w.heap.size, 2, none⟩) (Nat.le_refl _) (.slice none 0 0))
    clear e2 hE2 he2
    go_wp2_with (refine wpList_store_cell rfl (.tmp 4) (.tmp 43) rfl w.heap.size (.bool false) (.int .i64 0) (.slice none 0 0) rfl rfl HE2.out rfl rfl rfl ?_)
    apply bodyPost_ret
    · exact results_cell3 rfl _ _ w.heap.size 63 #[.bool false, .int .i64 0, .slice none 0 0] (0, 0) _ rfl (setRow_heap _ w.heap.size _ _ 63 (0, 0) HE2.out) Tryd.underlying63 rfl (by kernel_rfl)
    · rfl
    exact ⟨HS2.out.setRow (Nat.le_refl _) _, by rw [HR.out]; rfl⟩
  · rw [hr] at HG
    simp only at HG
    have hR : kgetF 8 bs = if chk 8 false false 0 t ≠ 0 then none else some (0, t, rest) := by unfold kgetF kread; simp [hr]
    have htu : U8 t := readB_u8 hu hr
    have htl : t.length ≤ n := by rw [← hbl]; exact readB_short hr
    obtain ⟨C, hC⟩ : ∃ C, C = chk 8 false false 0 t := ⟨_, rfl⟩
    rw [← hC] at hR
    have HC := Lib.hid (fun (A1 : Option Addr) (c1 : Nat) (W : World) (h : Rd .u8 W A1 t.length t) => check_any 8 false false 0 A1 t.length c1 t W h htu (by omega) (by omega) (by omega))
    rw [← hC] at HC
    obtain ⟨tl, htl2⟩ : ∃ tl, t.length = tl := ⟨_, rfl⟩
    rw [htl2] at HC HG
    obtain ⟨r, hrl⟩ : ∃ r, rest.length = r := ⟨_, rfl⟩
    rw [hrl] at HG
    have Hrl := Lib.hid hrl
    have Htl := Lib.hid htl2
    have HR := Lib.hid hR
    clear hx hu hbl hr hR htu htl hC htl2 hrl
    go_enter Tryd.func45, Tryd.ntmps45
    go_wp2_with fail
    refine (HK.out _).mono ?_
    rintro e w1 ⟨rfl, rfl⟩
    go_wp2_with fail
    refine (HG.out _ ((Ext.refl w).alloc _)).mono ?_
    rintro e w2 ⟨he2, A1, c1, A2, c2, rfl, ho2, hr2, hc2⟩
    have hK := Lib.hid (Ext.kept he2)
    have k0 := cell_of_row w2 w.heap.size 0 _ _ (0, 0) hK.out
    have k1 := cell_of_row w2 w.heap.size 1 _ _ (0, 0) hK.out
    have k2 := cell_of_row w2 w.heap.size 2 _ _ (0, 0) hK.out
    have kf2 := frozen_of_row w2 w.heap.size 2 _ _ hK.out
    simp only [List.getElem?_toArray, List.getElem?_cons_zero, List.getElem?_cons_succ] at k0 k1 k2
    have e2 := heap_setCell_same w2 w.heap.size 2 _ _ (.slice A1 tl c1) hK.out
    have HE2 := Lib.hid e2
    have hE2 : Ext w w2 := ((Ext.refl w).alloc _).trans he2
    have HS2 := Lib.hid (hE2.setCell (p := ⟨w.heap.size, 2, none⟩) (Nat.le_refl _) (.slice A1 tl c1))
    have HR2 := Lib.hid (hr2.grownZ (grown_setCell w2 w.heap.size 2 (.slice A1 tl c1)) (rd_off_cell hr2 hK.out))
    have HO2 := Lib.hid (ho2.far (grown_setCell w2 w.heap.size 2 (.slice A1 tl c1)) (by simp))
    clear e2 hE2 he2 hr2 ho2
    go_wp2_with fail
    refine (HC.out _ _ _ (HO2.out.rd' Htl.out)).mono ?_
    rintro e w5 ⟨rfl, he5⟩
    have hlt5 := (Array.getElem?_eq_some_iff.1 HE2.out).1
    have HK5 := Lib.hid ((he5.block w.heap.size hlt5).trans HE2.out)
    have k50 := cell_of_row w5 w.heap.size 0 _ _ (0, 0) HK5.out
    have k51 := cell_of_row w5 w.heap.size 1 _ _ (0, 0) HK5.out
    have k52 := cell_of_row w5 w.heap.size 2 _ _ (0, 0) HK5.out
    have HR5 := Lib.hid (HR2.out.ext he5)
    have HO5 := Lib.hid (HO2.out.ext he5)
    have HS5 := Lib.hid (HS2.out.trans he5)
    clear hlt5 he5 k0 k1 k2 kf2
    by_cases hz : C = 0
    · subst hz
      have hR := HR.out
      rw [if_neg (fun q => q rfl)] at hR
      have HRg := Lib.hid hR
      clear hR
      go_wp2_with (refine wpList_store_cell rfl (.tmp 4) (.tmp 44) rfl w.heap.size (.bool false) (.int .i64 0) (.slice A1 tl c1) rfl rfl HK5.out rfl rfl rfl ?_)
      have HRz := Lib.hid (HR5.out.grownZ (grown_setRow w5 w.heap.size #[.bool false, .int .i64 0, .slice A1 tl c1]) (rd_off_cell HR5.out HK5.out))
      have HOz := Lib.hid (HO5.out.far (grown_setRow w5 w.heap.size #[.bool false, .int .i64 0, .slice A1 tl c1]) (by simp))
      apply bodyPost_ret
      · exact results_cell3 rfl _ _ w.heap.size 63 #[.bool false, .int .i64 0, .slice A1 tl c1] (0, 0) _ rfl (setRow_heap _ w.heap.size _ _ 63 (0, 0) HK5.out) Tryd.underlying63 rfl (by kernel_rfl)
      · rfl
      refine ⟨HS5.out.setRow (Nat.le_refl _) _, ?_⟩
      rw [HRg.out]
      exact ⟨A1, c1, A2, c2, by simp only [Hrl.out, Htl.out]; rfl, HOz.out.mono (by simp), by simp only [Hrl.out]; exact HRz.out, by simp only [Hrl.out]; exact hc2⟩
    · have hb1 : (C != 0) = true := by rw [bne_iff_ne]; exact hz
      have hR := HR.out
      rw [if_pos hz] at hR
      have HRg := Lib.hid hR
      clear hR
      go_wp2_with (refine wpList_store_cell rfl (.tmp 4) (.tmp 43) rfl w.heap.size (.bool false) (.int .i64 0) (.slice none 0 0) rfl rfl HK5.out rfl rfl rfl ?_)
      apply bodyPost_ret
      · exact results_cell3 rfl _ _ w.heap.size 63 #[.bool false, .int .i64 0, .slice none 0 0] (0, 0) _ rfl (setRow_heap _ w.heap.size _ _ 63 (0, 0) HK5.out) Tryd.underlying63 rfl (by kernel_rfl)
      · rfl
      exact ⟨HS5.out.setRow (Nat.le_refl _) _, by rw [HRg.out]; rfl⟩

theorem kget_any (k : Int) (A : Option Addr) (n c : Nat) (bs : List Nat) (w : World) (hx : Rd .u8 w A n bs) (hu : U8 bs) (hn : n ≤ 140737488355328) (hcn : n ≤ c) (hk : 1 ≤ k ∧ k ≤ 8) :
    Calls Tryd.prog 45 #[.int .i64 k, .slice A n c] w (KGetPost (kgetF k bs) w) := by
  by_cases h6 : k ≤ 6
  · exact kget_num k A n c bs w hx hu hn hcn ⟨hk.1, h6⟩
  · by_cases h7 : k = 7
    · subst h7; exact kget_txt A n c bs w hx hu hn hcn
    · obtain rfl : k = 8 := by omega
      exact kget_bytes A n c bs w hx hu hn hcn

end Go.Proofs.YtnkggopkcjffoaaDoor

/-
  Layer 7's ground: rows' texts, set apart.
-/
namespace Go.Proofs.YtnkggopkcjffoaaDoor
open Go.RowKit

theorem OwnX.mono {w : World} {base base' c : Nat} {A : Option Addr} {xs : List Ci} (h : OwnX w base A c xs) (hb : base' ≤ base) : OwnX w base' A c xs := by
  refine ⟨h.1, ?_⟩
  rcases h.2 with hn | ⟨g, cap, cur, hv, hg, r⟩
  · exact Or.inl hn
  · exact Or.inr ⟨g, cap, cur, hv, Nat.le_trans hb hg, r⟩

theorem TxtX.mono {w : World} {base base' : Nat} {xs : List Ci} (h : TxtX w base xs) (hb : base' ≤ base) : TxtX w base' xs := ⟨fun f hf => (h.1 f hf).mono hb, h.2⟩

theorem OwnX.far {w w' : World} {base c b : Nat} {A : Option Addr} {xs : List Ci} (h : OwnX w base A c xs) (hg : w.grownBy w' (some b)) (hb : b < base) : OwnX w' base A c xs := by
  refine World.ownsRow.kept h hg ?_
  cases A with
  | none => exact Or.inl rfl
  | some a =>
    refine Or.inr (fun e => ?_)
    have h1 := (World.ownsRow.lt h a.block rfl).1
    simp [Value.ownBlock] at e
    omega

theorem TxtX.far {w w' : World} {base b : Nat} {xs : List Ci} (h : TxtX w base xs) (hg : w.grownBy w' (some b)) (hb : b < base) : TxtX w' base xs := ⟨fun f hf => (h.1 f hf).far hg hb, h.2⟩

/-- What of the three lists stays while 70 bytes go behind the first: the first's own beginning, and what lies elsewhere. -/
structure AsideK (w0 wr : World) (A A2 A3 A' : Option Addr) (n c' c0 j base : Nat) (sx xs ys : List Nat) : Prop where
  own : Own .u8 5 wr base A' c' ys
  len : ys.length = n + j
  pre : ys.take n = sx
  rd1 : Rd .u8 wr A n sx
  rd2 : Rd .u8 wr A2 n xs
  rd3 : Rd .u8 wr A3 n xs
  ne1 : 0 < n → ∀ a a1, A' = some a → A = some a1 → a1 = a ∨ a1.block ≠ a.block
  ne2 : 0 < n → ∀ a a2, A' = some a → A2 = some a2 → a2.block ≠ a.block
  ne3 : 0 < n → ∀ a a3, A' = some a → A3 = some a3 → a3.block ≠ a.block
  kept : Kept w0 wr [⟨A, c0, xs⟩]
  home : ∀ a, A' = some a → (∃ p, A = some p ∧ p.block = a.block) ∨ w0.heap.size ≤ a.block
  size : base ≤ wr.heap.size

theorem AsideK.push {w0 wr w1 : World} {A A2 A3 A' A1 : Option Addr} {n c' c0 c1 j base : Nat} {sx xs ys : List Nat} (h : AsideK w0 wr A A2 A3 A' n c' c0 j base sx xs ys) {x : Nat}
    (ho : Own .u8 5 w1 base A1 c1 (ys ++ [x])) (hw : A1 = A' ∧ wr.grownBy w1 (A'.map (·.block)) ∨ Ext wr w1 ∧ ∀ q, A1 = some q → wr.heap.size ≤ q.block) (hz : base ≤ w1.heap.size) :
    AsideK w0 w1 A A2 A3 A1 n c1 c0 (j + 1) base sx xs (ys ++ [x]) := by
  have hp : (ys ++ [x]).take n = sx := by rw [List.take_append_of_le_length (by have := h.len; omega)]; exact h.pre
  rcases hw with ⟨rfl, hg⟩ | ⟨he, hq⟩
  · have hne : ∀ {X : Option Addr}, (0 < n → ∀ a a2, A1 = some a → X = some a2 → a2.block ≠ a.block) → 0 < n → ∀ a, X = some a → some a.block ≠ A1.map (·.block) := by
      intro X hX hn a ha e
      cases hA : A1 with
      | none => rw [hA] at e; simp at e
      | some a1 => rw [hA] at e; simp at e; exact hX hn a1 a hA ha e
    refine ⟨ho, by have := h.len; simp; omega, hp, ?_, h.rd2.grown0 hg (hne h.ne2), h.rd3.grown0 hg (hne h.ne3), h.ne1, h.ne2, h.ne3, h.kept.grown hg ?_, h.home, hz⟩
    · by_cases hn : 0 < n
      · obtain ⟨b, o, hA, hb, _⟩ := h.rd1.2 hn
        obtain ⟨b', hA'⟩ := h.own.head (by have := h.len; omega)
        rcases h.ne1 hn _ _ hA' hA with e | e
        · have := ho.rd_take (n := n) (by have := h.len; simp; omega)
          rw [hp, hA', ← e, ← hA] at this
          exact this
        · exact h.rd1.grown hg (by rw [hA, hA']; rintro a ha; injection ha with ha; subst ha; simpa using e)
      · exact ⟨h.rd1.1, fun h0 => absurd h0 hn⟩
    · intro g hg'
      cases hA : A1 with
      | none => rw [hA] at hg'; simp at hg'
      | some a1 =>
        rw [hA] at hg'
        simp at hg'
        subst hg'
        rcases h.home a1 hA with ⟨p, hp, hpb⟩ | hl
        · exact .inr ⟨_, List.mem_singleton.2 rfl, p, hp, hpb⟩
        · exact .inl hl
  · have hne : ∀ {X : Option Addr} {zs : List Nat}, Rd .u8 wr X n zs → 0 < n → ∀ a a2, A1 = some a → X = some a2 → a2.block ≠ a.block := by
      intro X zs hX hn a a2 ha ha2
      have h1 := hq a ha
      have h2 := hX.lt hn a2 ha2
      omega
    exact ⟨ho, by have := h.len; simp; omega, hp, h.rd1.ext he, h.rd2.ext he, h.rd3.ext he, fun hn a a1 ha ha1 => .inr (hne h.rd1 hn a a1 ha ha1), hne h.rd2, hne h.rd3, h.kept.ext he, fun a ha => .inr (Nat.le_trans h.kept.size (hq a ha)), hz⟩

/-- Both answers are as wanted and lie apart: Apart says so. 'a' is a row of the caller's own; what b and want read lies elsewhere. -/
theorem apart_kept (A A2 A3 : Option Addr) (n c c2 c3 base : Nat) (xs : List Nat) (w : World) (hx : Own .u8 5 w base A c xs) (hl : xs.length = n) (hu : U8 xs)
    (hy : Rd .u8 w A2 n xs) (hz : Rd .u8 w A3 n xs) (ne2 : ∀ a a2, A = some a → A2 = some a2 → a2.block ≠ a.block) (ne3 : ∀ a a3, A = some a → A3 = some a3 → a3.block ≠ a.block)
    (hbw : base ≤ w.heap.size) (hn : n + 70 ≤ 180000000000000) :
    Calls Tryd.prog 14 #[.slice A n c, .slice A2 n c2, .slice A3 n c3] w fun e w' => e = .returned (.bool true) ∧ Kept w w' [⟨A, c, xs⟩] := by
  have Hl := Lib.hid hl
  clear hl
  have hx1 := hx.rd' Hl.out
  go_enter Tryd.func14, Tryd.ntmps14
  go_wp2_with fail
  refine (same_yes hx1 hz (by omega)).mono ?_
  rintro e w1 ⟨rfl, q1, rfl⟩
  go_wp2_with fail
  refine (same_yes (hy.drewN q1) (hz.drewN q1) (by omega)).mono ?_
  rintro e w1 ⟨rfl, q2, rfl⟩
  go_wp2_with fail
  refine (spoil_any A n c base xs _ (hx.ext ((Ext.refl _).drewN _)) Hl.out hu (by omega)).mono ?_
  rintro e w2 ⟨rfl, hx2, hg2⟩
  go_wp2_with fail
  have hsp : (xs.map spl).length = n := by rw [List.length_map, Hl.out]
  have hE2 : Kept w w2 [⟨A, c, xs⟩] := (Kept.ext (Kept.refl w _) ((Ext.refl w).drewN (q1 + q2))).grown hg2 (by
    intro g hg
    cases hA : A with
    | none => rw [hA] at hg; simp at hg
    | some a => rw [hA] at hg; simp at hg; subst hg; exact .inr ⟨_, List.mem_singleton.2 rfl, a, rfl, rfl⟩)
  have hne : ∀ {X : Option Addr}, (∀ a a2, A = some a → X = some a2 → a2.block ≠ a.block) → 0 < n → ∀ a, X = some a → some a.block ≠ A.map (·.block) := by
    intro X hX hn a ha e
    cases hA : A with
    | none => rw [hA] at e; simp at e
    | some a1 => rw [hA] at e; simp at e; exact hX a1 a hA ha e
  have h0 : ∃ ys, AsideK w w2 A A2 A3 A n c c 0 base (xs.map spl) xs ys := ⟨xs.map spl, hx2, hsp, List.take_of_length_le (Nat.le_of_eq hsp), hx2.rd' hsp, (hy.drewN (q1 + q2)).grown0 hg2 (hne ne2), (hz.drewN (q1 + q2)).grown0 hg2 (hne ne3), fun _ a a1 ha ha1 => .inl (by rw [ha] at ha1; injection ha1 with h; exact h.symm), fun _ => ne2, fun _ => ne3, hE2, fun a ha => .inl ⟨a, ha, rfl⟩, by have := hg2.size; simp at this; omega⟩
  clear hx2 hg2 hE2 hne hx1
  go_loopw [7, 8] (fun v i wr => ∃ (j : Nat) (A' : Option Addr) (c' : Nat) (ys : List Nat), j ≤ 70 ∧ i = .int .i64 j ∧ v = .slice A' (n + j : Nat) c' ∧ AsideK w wr A A2 A3 A' n c' c j base (xs.map spl) xs ys) (fun _ i _ => 70 - (intOf i).toNat)
  case atStart => obtain ⟨ys, h0⟩ := h0; exact ⟨0, _, _, ys, Nat.zero_le _, rfl, rfl, h0⟩
  case round =>
    clear h0
    obtain ⟨j, A', c', ys, hj, rfl, rfl, has⟩ := hrel
    have hsz := has.size
    by_cases hlt : j < 70
    · have hm := mod256 hlt
      have Hown := Lib.hid has.own
      have Hlen := Lib.hid has.len
      have Has := Lib.hid has
      clear has
      go_wp2_with (at_builtin; refine wpList_push2 .u8 j 5 rfl _ _ 28 rfl _ 1 Tryd.underlying28 Tryd.infoU8 rfl Hown.out (n + j) Hlen.out rfl rfl rfl (by omega) (by omega) hsz ?_; intro A1 c1 w1 hown1 hw1 hz1)
      have Hn := Lib.hid (Has.out.push hown1 hw1 hz1)
      clear hown1 hw1 hz1
      go_wp2
      go_roundw
      case rel => exact ⟨j + 1, A1, c1, _, by omega, by go_num, rfl, Hn.out⟩
      case measure => simp [intOf]; omega
    · obtain rfl : j = 70 := by omega
      have hr1 := has.rd1
      have hr2 := has.rd2
      have hr3 := has.rd3
      have he := has.kept
      clear has
      go_wp2_with fail
      refine (turned_yes hr1 hr3 hu (by omega)).mono ?_
      rintro e w3 ⟨rfl, q3, rfl⟩
      go_wp2_with fail
      refine (same_yes (hr2.drewN q3) (hr3.drewN q3) (by omega)).mono ?_
      rintro e w3 ⟨rfl, q4, rfl⟩
      go_wp2_with fail
      go_ret
      exact ⟨rfl, he.ext ((Ext.refl _).drewN _)⟩

def Ci.sl (x : Ci) : Sl := ⟨x.A, x.c, x.txt⟩

/-- The texts, each of the call's own, in blocks apart. -/
def TxtU (w : World) (base : Nat) (xs : List Ci) : Prop := (∀ x ∈ xs, Own .u8 5 w base x.A x.c x.txt) ∧ Unlike (xs.map Ci.sl)

theorem TxtX.toU {w : World} {base : Nat} {xs : List Ci} (h : TxtX w base xs) : TxtU w base xs := by
  refine ⟨h.1, ?_⟩
  have hp := List.pairwise_iff_getElem.1 h.2
  intro i j s t hi hj hne p q hp1 hq1
  rw [List.getElem?_map, Option.map_eq_some_iff] at hi hj
  obtain ⟨f, hf, rfl⟩ := hi
  obtain ⟨g, hg, rfl⟩ := hj
  obtain ⟨li, ei⟩ := List.getElem?_eq_some_iff.1 hf
  obtain ⟨lj, ej⟩ := List.getElem?_eq_some_iff.1 hg
  rcases Nat.lt_or_gt_of_ne hne with hl | hl
  · have := hp i j li lj hl p q (by rw [ei]; exact hp1) (by rw [ej]; exact hq1)
    omega
  · have := hp j i lj li hl q p (by rw [ej]; exact hq1) (by rw [ei]; exact hp1)
    omega

theorem TxtU.nil (w : World) (base : Nat) : TxtU w base [] := ⟨fun f h => (by cases h), fun i j s t h => by simp at h⟩

theorem TxtU.ext {w w' : World} {base : Nat} {xs : List Ci} (h : TxtU w base xs) (hb : Ext w w') : TxtU w' base xs := ⟨fun f hf => (h.1 f hf).ext hb, h.2⟩

theorem TxtU.mono {w : World} {base base' : Nat} {xs : List Ci} (h : TxtU w base xs) (hb : base' ≤ base) : TxtU w base' xs := ⟨fun f hf => (h.1 f hf).mono hb, h.2⟩

theorem TxtU.far {w w' : World} {base b : Nat} {xs : List Ci} (h : TxtU w base xs) (hg : w.grownBy w' (some b)) (hb : b < base) : TxtU w' base xs := ⟨fun f hf => (h.1 f hf).far hg hb, h.2⟩

theorem TxtU.grown {w w' : World} {base base' c : Nat} {A : Option Addr} {fs gs : List Ci} (h : TxtU w base fs) (k : OwnX w base' A c gs) (hg : w.grownBy w' (Value.slice A gs.length c).ownBlock) : TxtU w' base fs :=
  ⟨fun f hf => (h.1 f hf).grown hg (own_neX k (h.1 f hf)), h.2⟩

theorem TxtU.within {w : World} {base : Nat} {xs : List Ci} (h : TxtU w base xs) : Within (xs.map Ci.sl) base w.heap.size := by
  intro s hs p hp
  obtain ⟨f, hf, rfl⟩ := List.mem_map.1 hs
  exact (h.1 f hf).block p hp

theorem Unlike.put {xs : List Ci} {f : Ci} {base' : Nat} (h : Unlike (xs.map Ci.sl)) (hf : ∀ q, f.A = some q → base' ≤ q.block) (hl : ∀ g ∈ xs, ∀ p, g.A = some p → p.block < base') (i : Nat) : Unlike ((xs.set i f).map Ci.sl) := by
  intro a b s t ha hb hne p q hp hq
  rw [List.getElem?_map, Option.map_eq_some_iff] at ha hb
  obtain ⟨x, hx, rfl⟩ := ha
  obtain ⟨y, hy, rfl⟩ := hb
  rw [List.getElem?_set] at hx hy
  by_cases e1 : i = a
  · rw [if_pos e1] at hx
    split at hx
    · injection hx with hx
      subst hx
      rw [if_neg (by omega)] at hy
      have h1 := hf p hp
      have h2 := hl y (List.mem_of_getElem? hy) q hq
      omega
    · cases hx
  · rw [if_neg e1] at hx
    by_cases e2 : i = b
    · rw [if_pos e2] at hy
      split at hy
      · injection hy with hy
        subst hy
        have h1 := hf q hq
        have h2 := hl x (List.mem_of_getElem? hx) p hp
        omega
      · cases hy
    · rw [if_neg e2] at hy
      exact h a b x.sl y.sl (by rw [List.getElem?_map, hx]; rfl) (by rw [List.getElem?_map, hy]; rfl) hne p q hp hq

theorem TxtU.put {w : World} {base base' : Nat} {fs : List Ci} {f : Ci} (h : TxtU w base fs) (hf : Own .u8 5 w base' f.A f.c f.txt) (hb : base ≤ base') (hl : ∀ g ∈ fs, ∀ p, g.A = some p → p.block < base') (i : Nat) : TxtU w base (fs.set i f) := by
  refine ⟨fun g hg => ?_, h.2.put (fun q hq => (hf.block q hq).1) hl i⟩
  rcases List.mem_or_eq_of_mem_set hg with h1 | rfl
  · exact h.1 g h1
  · exact hf.mono hb

/-- A cell of nothing. -/
def Ci.none : Ci := ⟨false, 0, Option.none, 0, []⟩

theorem TxtU.nones (w : World) (base n : Nat) : TxtU w base (List.replicate n Ci.none) := by
  refine ⟨fun f h => ?_, ?_⟩
  · rw [List.eq_of_mem_replicate h]
    exact Own.nil ..
  · intro i j s t hi hj _ p q hp
    rw [List.getElem?_map, Option.map_eq_some_iff] at hi
    obtain ⟨x, hx, rfl⟩ := hi
    rw [List.eq_of_mem_replicate (List.mem_of_getElem? hx)] at hp
    cases hp

theorem xcells_cons (x : Ci) (r : List Ci) : xcells (x :: r) = x.cells ++ xcells r := by simp [xcells]

theorem xcells_set (x : Ci) : ∀ (xs : List Ci) (j : Nat), j < xs.length → xcells (xs.set j x) = (((xcells xs).set (j * 3) (.bool x.nul)).set (j * 3 + 1) (.int .i64 x.num)).set (j * 3 + 2) (.slice x.A x.txt.length x.c)
  | [], j, h => absurd h (by simp)
  | y :: r, 0, _ => by
    rw [List.set_cons_zero, xcells_cons, xcells_cons]
    simp [Ci.cells]
  | y :: r, j + 1, h => by
    rw [List.set_cons_succ, xcells_cons, xcells_cons, xcells_set x r j (by simpa using h)]
    have hl : y.cells.length = 3 := rfl
    rw [List.set_append_right _ _ (by omega), List.set_append_right _ _ (by omega), List.set_append_right _ _ (by omega), hl, show (j + 1) * 3 - 3 = j * 3 by omega, show (j + 1) * 3 + 1 - 3 = j * 3 + 1 by omega, show (j + 1) * 3 + 2 - 3 = j * 3 + 2 by omega]

/-- A place of an owned row of cells: it may be written; what the row is behind the store. -/
theorem OwnX.store {w : World} {base c : Nat} {A : Option Addr} {xs : List Ci} (h : OwnX w base A c xs) {j : Nat} (hj : j < xs.length) :
    ∃ g, A = some ⟨g, 0, Option.none⟩ ∧ base ≤ g ∧ g < w.heap.size ∧ xs.length ≤ c ∧ c ≤ 9223372036854775807 ∧ w.there g (j * 3) 3 ∧ ∀ x : Ci, OwnX (w.setCells g (j * 3) x.cells) base A c (xs.set j x) ∧ w.grownBy (w.setCells g (j * 3) x.cells) (some g) := by
  have h0 := h
  unfold OwnX at h0
  rcases h.2 with ⟨_, hn⟩ | ⟨g, cap, cur, hv, hg, hh, hnc, hcm, _⟩
  · omega
  · injection hv with hA hl hc
    subst hA
    subst hc
    have hlt : g < w.heap.size := (Array.getElem?_eq_some_iff.1 hh).1
    refine ⟨g, rfl, hg, hlt, hnc, by simpa [maxLen] using hcm, fun i hi => ⟨?_, World.ownsRow.frozenAt h0 _⟩, fun x => ?_⟩
    · rw [World.ownsRow.cellAt h0 _ (by omega)]
      rw [List.getElem?_eq_getElem (by rw [xcells_len]; omega)]
      rfl
    · obtain ⟨a1, b1⟩ := World.ownsRow.stored h0 (j * 3) (.bool x.nul)
      obtain ⟨a2, b2⟩ := World.ownsRow.stored a1 (j * 3 + 1) (.int .i64 x.num)
      obtain ⟨a3, b3⟩ := World.ownsRow.stored a2 (j * 3 + 2) (.slice x.A x.txt.length x.c)
      refine ⟨?_, World.grownBy.trans (World.grownBy.trans b1 b2) b3⟩
      unfold OwnX
      rw [List.length_set, xcells_set x xs j hj]
      exact a3

/-- 'make([]api.Cell, n)'. -/
theorem xcells_nones (n : Nat) : (madeCells (Value.agg #[.bool false, .int .i64 0, .slice Option.none 0 0]).cells (n * 3)).toList = xcells (List.replicate n Ci.none) := by
  apply List.ext_getElem?
  intro j
  by_cases hj : j < n * 3
  · have h2 := xcells_at (xs := List.replicate n Ci.none) (j := j / 3) (x := Ci.none) (by rw [List.getElem?_replicate, if_pos (by omega)]) (j % 3) (Nat.mod_lt _ (by decide))
    rw [show j / 3 * 3 + j % 3 = j by omega] at h2
    rw [h2]
    have h3 : j % 3 = 0 ∨ j % 3 = 1 ∨ j % 3 = 2 := by omega
    have h4 : (List.range (n * 3))[j]? = some j := by rw [List.getElem?_range hj]
    rcases h3 with e | e | e <;> simp [madeCells, Value.cells, e, Ci.none, Ci.cells, h4]
  · rw [List.getElem?_eq_none (by simp [madeCells]; omega), List.getElem?_eq_none (by rw [xcells_len]; simp; omega)]

theorem wpList_mkX {w : World} {ops : Array Oper} {rest : List Oper} {o : Oper} {a : Act} {Q : Exit → Act → World → Prop} (hgd : o.guard = Option.none) (l c : Operand)
    (hop : o.op = Op.makeSlice 25 l c) (kl kc : IntKind) {L C : Int} (n : Nat) (hl : a.eval l = .int kl L) (hc : a.eval c = .int kc C) (hL : L = (n : Int)) (hC : C = (n : Int)) (hb : n ≤ 4398046511104)
    (h : ∀ w', OwnX w' w.heap.size (some ⟨w.heap.size, 0, Option.none⟩) n (List.replicate n Ci.none) → Ext w w' → wpList Tryd.prog ops Q rest (a.put o.dst (.slice (some ⟨w.heap.size, 0, Option.none⟩) n n)) w') :
    wpList Tryd.prog ops Q (o :: rest) a w := by
  obtain ⟨i, hi0, hz, hsz, hbs⟩ := info_parts Tryd.infoCell
  refine wpList_make_full w hgd l c 25 hop w.heap.size 63 i _ 3 Tryd.underlying25 hi0 hz hsz kl kc L C n hl hc hL hC (by rw [hbs]; omega) (by unfold maxLen; omega) (Nat.le_refl _) ?_
  intro w' h1 h2
  refine h w' ?_ ⟨h2.os, h2.tape, h2.output, h2.size, fun j hj => h2.block j hj (by simp)⟩
  rw [xcells_nones] at h1
  unfold OwnX
  rw [List.length_replicate]
  exact h1

theorem RdX.kept {w wr : World} {A : Option Addr} {n : Nat} {xs : List Ci} {ss : List Sl} (h : RdX w A n xs) (hk : Kept w wr ss) (hf : 0 < n → Far ss A) (hb : ∀ x ∈ xs, 0 < x.txt.length → Far ss x.A) : RdX wr A n xs :=
  ⟨h.1, fun hn => by
    obtain ⟨b, o, e, hlt, hc⟩ := h.2 hn
    have hbl : wr.heap[b]? = w.heap[b]? := hk.block b hlt (fun s hs p hp => hf hn s hs p _ hp e)
    refine ⟨b, o, e, Nat.lt_of_lt_of_le hlt hk.size, fun j x hj => ?_⟩
    obtain ⟨h1, h2, h3, h4⟩ := hc j x hj
    exact ⟨(World.cell?_of_block (a := ⟨b, o + j * 3, Option.none⟩) hbl).trans h1, (World.cell?_of_block (a := ⟨b, o + j * 3 + 1, Option.none⟩) hbl).trans h2, (World.cell?_of_block (a := ⟨b, o + j * 3 + 2, Option.none⟩) hbl).trans h3, h4.rd.kept hk (hb x (List.mem_of_getElem? hj)), h4.u8, h4.lo, h4.hi, h4.len⟩⟩

theorem OwnX.block {w : World} {base c : Nat} {A : Option Addr} {xs : List Ci} (h : OwnX w base A c xs) : ∀ a, A = some a → base ≤ a.block ∧ a.block < w.heap.size := by
  rintro a rfl
  exact World.ownsRow.lt h a.block rfl

set_option maxHeartbeats 400000 in
theorem texts_any (A : Option Addr) (n c : Nat) (xs : List Ci) (w : World) (hx : RdX w A n xs) (hn : n ≤ 1048576) :
    Calls Tryd.prog 20 #[.slice A n c] w fun e w' => ∃ A' c', e = .returned (.slice A' n c') ∧ OwnS w' w.heap.size A' c' (xs.map Ci.sl) ∧ Ext w w' := by
  have Hl := Lib.hid hx.1
  go_enter Tryd.func20, Tryd.ntmps20
  go_wp2
  go_loopw [3, 4] (fun v i wr => ∃ (j : Nat) (A' : Option Addr) (c' : Nat), j ≤ n ∧ i = .int .i64 j ∧ v = .slice A' j c' ∧ OwnS wr w.heap.size A' c' ((xs.map Ci.sl).take j) ∧ Below w.heap.size w wr) (fun _ i _ => n - (intOf i).toNat)
  case atStart => exact ⟨0, _, _, Nat.zero_le _, rfl, rfl, OwnS.made _ (Nat.le_refl _), (Ext.refl w).alloc _⟩
  case round =>
    obtain ⟨j, A', c', hj, rfl, rfl, hown, hb⟩ := hrel
    have hz := hb.size
    by_cases hlt : j < n
    · obtain ⟨b, o, f, rfl, hbl, hf, h1, h2, h3, hin⟩ := (hx.ext hb).at_ hlt
      have htl : ((xs.map Ci.sl).take j).length = j := by rw [List.length_take, List.length_map, Hl.out]; omega
      have hnx : (xs.map Ci.sl).take (j + 1) = (xs.map Ci.sl).take j ++ [f.sl] := by
        rw [List.take_add_one, List.getElem?_map, hf]
        rfl
      obtain ⟨xn, xi, xA, xc, xt⟩ := f
      simp only at h1 h2 h3
      have Htl := Lib.hid htl
      have Hnx := Lib.hid hnx
      have hX := (Ext.refl wr).alloc (.cells #[.slice xA xt.length xc] 28)
      have hown2 := hown.ext hX
      have i0 : (0 : Int) ≤ (j : Int) := by omega
      have i1 : (j : Int) < (n : Int) := by omega
      clear htl hnx hf hin
      go_wp2_with (at_builtin; refine wpList_pushS (w0 := w) ⟨xA, xc, xt⟩ rfl _ _ rfl hown2 j Htl.out rfl rfl (heap_alloc_new wr _) (by omega) (Ext.trans hb hX) (by simp; omega) ?_; intro A1 c1 w1 hown1 hb1 hz1)
      go_roundw
      case rel => exact ⟨j + 1, A1, c1, by omega, by go_num, rfl, by rw [Hnx.out]; exact hown1, hb1⟩
      case measure => simp [intOf]; omega
    · obtain rfl : j = n := by omega
      rw [List.take_of_length_le (by rw [List.length_map, Hl.out]; exact Nat.le_refl _)] at hown
      go_wp2
      go_ret
      exact ⟨_, _, rfl, hown, hb⟩

end Go.Proofs.YtnkggopkcjffoaaDoor

/-
  A cell stored into a row of the call's own (out of Z7).
-/
namespace Go.Proofs.YtnkggopkcjffoaaDoor
open Go.RowKit

theorem wp_storeX {w : World} {o : Oper} {a : Act} {K : Act → World → Prop} {Q : Exit → Act → World → Prop} (f : Ci) (x y : Operand) (ho : o.op = .store 63 x y)
    {base c : Nat} {A : Option Addr} {fs : List Ci} (hown : OwnX w base A c fs) {j : Nat} (hj : j < fs.length) {g o' : Nat} (hA : A = some ⟨g, 0, none⟩) (ho' : o' = j * 3)
    (hx : a.eval x = .pointer (some ⟨g, o', none⟩)) (hy : a.eval y = .agg #[.bool f.nul, .int .i64 f.num, .slice f.A f.txt.length f.c])
    (h : ∀ w', OwnX w' base A c (fs.set j f) → w.grownBy w' (some g) → K (a.put o.dst undef) w') : Oper.wp Tryd.prog o a w K Q := by
  obtain ⟨g', hA', _, _, _, _, ht, hs⟩ := hown.store hj
  rw [hA] at hA'
  injection hA' with hA'
  injection hA' with e1
  subst e1 ho'
  obtain ⟨h1, h2⟩ := hs f
  exact wp_store_mid 63 x y ho g (j * 3) #[.bool f.nul, .int .i64 f.num, .slice f.A f.txt.length f.c] hx hy ht (by kernel_rfl) (by simp [Value.oneCell']) (h _ h1 h2)

theorem wpList_storeX {w : World} {ops : Array Oper} {rest : List Oper} {o : Oper} {a : Act} {Q : Exit → Act → World → Prop} (f : Ci) (hgd : o.guard = none) (x y : Operand) (ho : o.op = .store 63 x y)
    {base c : Nat} {A : Option Addr} {fs : List Ci} (hown : OwnX w base A c fs) {j : Nat} (hj : j < fs.length) {g o' : Nat} (hA : A = some ⟨g, 0, none⟩) (ho' : o' = j * 3)
    (hx : a.eval x = .pointer (some ⟨g, o', none⟩)) (hy : a.eval y = .agg #[.bool f.nul, .int .i64 f.num, .slice f.A f.txt.length f.c])
    (h : ∀ w', OwnX w' base A c (fs.set j f) → w.grownBy w' (some g) → wpList Tryd.prog ops Q rest (a.put o.dst undef) w') : wpList Tryd.prog ops Q (o :: rest) a w :=
  wpList_plain hgd fun _ hK => wp_storeX f x y ho hown hj hA ho' hx hy fun w' h1 h2 => hK _ _ (h w' h1 h2)

end Go.Proofs.YtnkggopkcjffoaaDoor
