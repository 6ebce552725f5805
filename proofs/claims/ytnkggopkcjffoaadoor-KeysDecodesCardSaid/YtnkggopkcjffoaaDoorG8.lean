import Derived.Test.YtnkggopkcjffoaaDoorG7
import Derived.Test.YtnkggopkcjffoaaDoorG5

/-
  Layer 7: the program's Decode.
-/
namespace Go.Proofs.YtnkggopkcjffoaaDoor
open Go.RowKit

theorem kdecA_get {L : List Col} {j : Nat} {d : Col} {l : List Nat} {acc : List CV} (h : L[j]? = some d) :
    kdecA (L.drop j) l acc = match kgetF d.kind l with | none => none | some p => kdecA (L.drop (j + 1)) p.2.2 (acc ++ [(false, p.1, p.2.1)]) := by
  obtain ⟨h1, rfl⟩ := List.getElem?_eq_some_iff.1 h
  rw [List.drop_eq_getElem_cons h1]
  unfold kgetF
  rw [kdecA]
  cases kread L[j].kind l with
  | none => rfl
  | some p =>
    simp only
    split <;> rfl

theorem kgetF_kread {k : Int} {l : List Nat} {p : Int × List Nat × List Nat} (h : kgetF k l = some p) : kread k l = some p := by
  unfold kgetF at h
  cases hk : kread k l with
  | none => rw [hk] at h; cases h
  | some q =>
    rw [hk] at h
    simp only at h
    split at h
    · cases h
    · exact h

/-- What reads as bytes lies apart from a row of cells. -/
theorem rd_off_X {w : World} {A : Option Addr} {n g base c : Nat} {xs : List Nat} {fs : List Ci} (h : Rd .u8 w A n xs) (k : OwnX w base (some ⟨g, 0, none⟩) c fs) (hc : fs.length = c) (hn : 0 < n) : ∀ p, A = some p → some p.block ≠ some g := by
  intro p hp e
  injection e with e
  obtain ⟨b', o', rfl, _, hcl⟩ := h.2 hn
  injection hp with hp
  subst hp
  simp only at e
  subst e
  have h0 := hcl 0 hn
  rw [Nat.add_zero] at h0
  rcases k.2 with ⟨hv, _⟩ | ⟨g', cap, cur, hv, _, hh, _, _, hcs, htake⟩
  · cases hv
  · injection hv with hA hl2 hc2
    injection hA with hA
    injection hA with hA
    subst hA
    subst hc2
    rw [cell_of_row w b' o' cur _ _ hh] at h0
    have ho : o' < cur.size := (Array.getElem?_eq_some_iff.1 h0).1
    have h1 : (xcells fs)[o']? = some (.int .u8 ((xs.getD 0 0 : Nat) : Int)) := by
      rw [← htake, List.getElem?_take, if_pos (by omega)]
      simpa using h0
    have hlt : o' / 3 < fs.length := by omega
    have h2 := xcells_at (xs := fs) (j := o' / 3) (x := fs[o' / 3]) (List.getElem?_eq_getElem hlt) (o' % 3) (Nat.mod_lt _ (by decide))
    rw [show o' / 3 * 3 + o' % 3 = o' by omega, h1] at h2
    have h3 : o' % 3 = 0 ∨ o' % 3 = 1 ∨ o' % 3 = 2 := by omega
    rcases h3 with q | q | q <;> rw [q] at h2 <;> simp [Ci.cells] at h2

/-- What Decode answers. -/
def decR : Option (List CV) → List CV × Int
  | none => ([], 70)
  | some vs => (vs, 0)
def kdecE (keys : Int) (cs : List Col) (bs : List Nat) : List CV × Int :=
  if schE keys cs ≠ 0 then ([], schE keys cs) else decR (kdecA (cs.take keys.toNat) bs [])
def KDecPost (R : List CV × Int) (w : World) (e : Ending) (w' : World) : Prop :=
  ∃ A' c' xs, e = .returned (.tuple #[.slice A' xs.length c', .int .i64 R.2]) ∧ xs.map Ci.val = R.1 ∧ OwnX w' w.heap.size A' c' xs ∧ TxtU w' w.heap.size xs ∧ Ext w w'
theorem KDecPost.bad {w w' : World} (R : List CV × Int) {E : Int} (h : R = ([], E)) (he : Ext w w') : KDecPost R w (.returned (.tuple #[.slice none 0 0, .int .i64 E])) w' := by
  subst h
  exact ⟨none, 0, [], rfl, rfl, OwnX.nil .., TxtU.nil .., he⟩
theorem KDecPost.good {w w' : World} (R : List CV × Int) {xs : List Ci} {A : Option Addr} {m c : Nat} (h : R = (xs.map Ci.val, 0)) (hm : xs.length = m) (ho : OwnX w' w.heap.size A c xs) (ht : TxtU w' w.heap.size xs) (he : Ext w w') : KDecPost R w (.returned (.tuple #[.slice A m c, .int .i64 0])) w' := by
  subst h
  subst hm
  exact ⟨A, c, xs, rfl, rfl, ho, ht, he⟩

set_option maxHeartbeats 1600000 in
set_option maxRecDepth 100000 in
theorem kdecode_any (A : Option Addr) (n c : Nat) (keys : Int) (cs : List Col) (A2 : Option Addr) (n2 c2 : Nat) (bs : List Nat) (w : World) (hs : SchIn w A n c cs) (hx : Rd .u8 w A2 n2 bs) (hu : U8 bs) (hn2 : n2 ≤ 140737488351232) (hcap : n2 ≤ c2) :
    Calls Tryd.prog 17 #[.agg #[.slice A n c, .int .i64 keys], .slice A2 n2 c2] w (KDecPost (kdecE keys cs bs) w) := by
  have HS := Lib.hid (fun (W : World) (hW : Ext w W) => scheck_any A n c keys cs W (hs.rd.ext hW) hs.nm hs.le)
  by_cases z1 : schE keys cs = 0
  · obtain ⟨i1, i2, i3, i4, i5⟩ := schE_inv z1
    rw [z1] at HS
    obtain ⟨m, rfl⟩ := Int.eq_ofNat_of_zero_le (show 0 ≤ keys by omega)
    have hcn := hs.rd.1
    obtain ⟨R, hR⟩ : ∃ R, R = kdecE (m : Int) cs bs := ⟨_, rfl⟩
    rw [← hR]
    obtain ⟨D, hD⟩ : ∃ D, D = kdecA (cs.take m) bs [] := ⟨_, rfl⟩
    have hR2 : R = decR D := by rw [hR, hD]; unfold kdecE; rw [if_neg (by simp [z1]), Int.toNat_natCast]
    have Hkind : Hid (∀ (j : Nat) (d : Col), (cs.take m)[j]? = some d → 1 ≤ d.kind ∧ d.kind ≤ 8) := Lib.hid (by
      intro j d hj
      have hj2 : cs[j]? = some d := by
        rw [List.getElem?_take] at hj
        split at hj
        · exact hj
        · cases hj
      have hB : schB (m : Int) cs = true := by
        unfold schE at z1
        by_cases q : schB (m : Int) cs = true
        · exact q
        · rw [if_neg q] at z1; omega
      unfold schB at hB
      simp only [Bool.and_eq_true] at hB
      have := colsB_iff.1 hB.1.2 j d hj2
      unfold colB at this
      simp only [Bool.and_eq_true] at this
      exact of_decide_eq_true this.1.2)
    have HRn := Lib.hid (fun (h : D = none) => (show R = ([], 70) by rw [hR2, h]; rfl))
    have HRy := Lib.hid (fun (vs : List CV) (h : D = some vs) => (show R = (vs, 0) by rw [hR2, h]; rfl))
    have HD0 := Lib.hid (show kdecA ((cs.take m).drop 0) bs [] = D from by rw [hD]; rfl)
    have hcl : (cs.take m).length = m := by rw [List.length_take]; omega
    have hmn : m ≤ n := by omega
    have hmp : 1 ≤ m := by omega
    have hm3 : m ≤ 3 := by omega
    have Hs := Lib.hid hs
    have Hx := Lib.hid hx
    have Hu := Lib.hid hu
    have Hcl := Lib.hid hcl
    clear hR hR2 hD z1 hs hx hu hcl i1 i2 i3 i4 i5 hcn
    go_enter Tryd.func17, Tryd.ntmps17
    go_wp2_with fail
    refine (HS.out _ ((Ext.refl w).alloc _)).mono ?_
    rintro e w1 ⟨rfl, he1⟩
    have ha := (AtS.box w A n c (m : Int)).ext he1
    have hc1 := ha.c1
    have Ha := Lib.hid ha
    have HE1 : Hid (Ext w w1) := Lib.hid (((Ext.refl w).alloc _).trans he1)
    clear ha he1
    go_wp2_with (refine wpList_mkX rfl (.tmp 18) (.tmp 18) rfl .i64 .i64 m rfl rfl rfl rfl (by omega) ?_; intro w2 hown2 he2)
    obtain ⟨g, hg⟩ : ∃ g, g = w1.heap.size := ⟨_, rfl⟩
    obtain ⟨gs, hgs⟩ : ∃ gs, gs = w.heap.size := ⟨_, rfl⟩
    have Hg := Lib.hid hg
    rw [← hg] at hown2 ⊢
    rw [← hgs] at Ha ⊢
    have hlt2 : g < w2.heap.size := by
      have := (hown2.block _ rfl).2
      simpa using this
    have H2 := Lib.hid hown2
    have HE2 := Lib.hid he2
    have Hlt2 := Lib.hid hlt2
    have HT0 := Lib.hid (TxtU.nones w2 (g + 1) m)
    have Hgs := Lib.hid hgs
    clear hg hgs hown2 he2 hlt2 hc1
    go_wp2_with fail
    go_loopw [1, 8, 9, 10, 11, 22] (fun bv _ _ _ _ i wr => ∃ (j : Nat) (B : Option Addr) (lb cb : Nat) (l : List Nat) (fs : List Ci), j ≤ m ∧ i = .int .i64 j ∧ bv = .slice B lb cb ∧ lb ≤ cb ∧ lb ≤ n2 ∧ Hid (fs.length = m) ∧ Hid (Rd .u8 wr B lb l) ∧ Hid (U8 l) ∧ Hid (kdecA ((cs.take m).drop j) l ((fs.take j).map Ci.val) = D) ∧ Hid (OwnX wr g (some ⟨g, 0, none⟩) m fs) ∧ Hid (TxtU wr (g + 1) fs) ∧ Hid (Ext w1 wr) ∧ Hid (g < wr.heap.size)) (fun _ _ _ _ _ i _ => m - (intOf i).toNat)
    case atStart => exact ⟨0, A2, n2, c2, bs, _, Nat.zero_le _, rfl, rfl, hcap, Nat.le_refl _, by rw [List.length_replicate]; rfl, Hx.out.ext (HE1.out.trans HE2.out), Hu.out, HD0.out, H2.out, HT0.out, HE2.out, Hlt2.out⟩
    case round =>
      clear HD0 H2 HT0 HE2 Hlt2 Hx Hu
      obtain ⟨j, B, lb, cb, l, fs, hj, rfl, rfl, hlc, hln, HF, HR, HU, HD, HX, HT, HE, HG⟩ := hrel
      by_cases hlt : j < m
      · obtain ⟨bc, oc, d, hA, hbl2, hdj, y0, y1, y2⟩ := (Hs.out.rd.ext (HE1.out.trans HE.out)).at_ (show j < n by omega)
        subst hA
        have hdj2 : (cs.take m)[j]? = some d := by rw [List.getElem?_take, if_pos hlt]; exact hdj
        have hst := kdecA_get (l := l) (acc := (fs.take j).map Ci.val) hdj2
        rw [HD.out] at hst
        have hk := Hkind.out j d hdj2
        have ha2 := Ha.out.ext HE.out
        have a0 := ha2.c0
        have hglt := ha2.lt
        obtain ⟨dn, dk, du⟩ := d
        simp only at y0 y1 y2 hst hk
        have HGt := kget_any dk B lb cb l wr HR.out HU.out (by omega) hlc hk
        unfold KGetPost at HGt
        have i6 : (j : Int) < (n : Int) := by omega
        rcases hkg : kgetF dk l with _ | ⟨num, t, rest⟩
        · rw [hkg] at HGt hst
          simp only at HGt hst
          have HGh := Lib.hid HGt
          have HRb := Lib.hid (HRn.out hst)
          clear hst hkg HGt hdj hdj2 hk ha2
          go_wp2_with fail
          refine HGh.out.mono ?_
          rintro e w3 ⟨he3, rfl⟩
          go_wp2_with fail
          go_ret2
          exact KDecPost.bad _ HRb.out (((HE1.out.trans HE.out).trans he3).alloc _)
        · rw [hkg] at HGt hst
          simp only at HGt hst
          have hkr := kread_ok HU.out (kgetF_kread hkg)
          have hur : U8 rest := fun v hv => HU.out v (by rw [← hkr]; exact List.mem_append_right _ hv)
          have hrl : rest.length ≤ lb := by rw [← HR.out.len, ← hkr, List.length_append]; omega
          have HGh := Lib.hid HGt
          have Hst := Lib.hid hst
          have Hur := Lib.hid hur
          have Hrl := Lib.hid hrl
          have hjf : j < fs.length := by rw [HF.out]; exact hlt
          clear hst hkg HGt hdj hdj2 hk ha2 hkr hur hrl
          go_wp2_with fail
          refine HGh.out.mono ?_
          rintro e w3 ⟨he3, A1, c1, A3, c3, rfl, ho3, hr3, hc3⟩
          have hX : Ext wr (w3.alloc (.cells #[.bool false, .int .i64 num, .slice A1 t.length c1] 63)) := he3.alloc _
          have HX3 := Lib.hid hX
          have Ho3 := Lib.hid ho3
          have Hr3 := Lib.hid hr3
          have hlt3 := HG.out
          clear hX ho3 hr3 he3 hlt3
          go_wp2_with (refine wpList_storeX ⟨false, num, A1, c1, t⟩ rfl (.tmp 43) (.tmp 41) rfl (HX.out.ext HX3.out) hjf rfl (by first | rfl | omega) rfl rfl ?_; intro w5 hown5 hg5)
          have hbase : w1.heap.size ≤ (w3.alloc (.cells #[.bool false, .int .i64 num, .slice A1 t.length c1] 63)).heap.size := (HE.out.trans HX3.out).size
          have HE5 : Hid (Ext w1 w5) := Lib.hid (Below.grown (HE.out.trans HX3.out) hg5 hbase (fun g' hg' => by injection hg' with hg'; have := Hg.out; omega))
          have hr4 := Hr3.out.ext ((Ext.refl w3).alloc (.cells #[.bool false, .int .i64 num, .slice A1 t.length c1] 63))
          have HR5 := Lib.hid (hr4.grownZ hg5 (rd_off_X hr4 (HX.out.ext HX3.out) HF.out))
          have HT5 := Lib.hid (((HT.out.ext HX3.out).put (f := ⟨false, num, A1, c1, t⟩) (Ho3.out.ext ((Ext.refl w3).alloc (.cells #[.bool false, .int .i64 num, .slice A1 t.length c1] 63))) (by have := HG.out; omega) (fun x hx p hp => ((HT.out.1 x hx).block p hp).2) j).far hg5 (Nat.lt_succ_self g))
          have HD5 := Lib.hid (show kdecA ((cs.take m).drop (j + 1)) rest (((fs.set j ⟨false, num, A1, c1, t⟩).take (j + 1)).map Ci.val) = D by
            rw [List.take_succ_eq_append_getElem (by rw [List.length_set]; exact hjf), List.take_set_of_le (Nat.le_refl _), List.getElem_set_self, List.map_append]
            exact Hst.out.symm)
          have HO5 := Lib.hid hown5
          have HG5 : Hid (g < w5.heap.size) := Lib.hid (by have := hg5.size; have := HX3.out.size; have := HG.out; omega)
          have HF5 := Lib.hid (show (fs.set j (⟨false, num, A1, c1, t⟩ : Ci)).length = m by rw [List.length_set]; exact HF.out)
          clear hown5 hg5 hr4 hbase
          go_wp2_with fail
          go_roundw
          case rel => exact ⟨j + 1, A3, rest.length, c3, rest, _, by omega, by go_num, rfl, hc3, by have := Hrl.out; omega, HF5.out, HR5.out, Hur.out, HD5.out, HO5.out, HT5.out, HE5.out, HG5.out⟩
          case measure => simp [intOf]; omega
      · obtain rfl : j = m := by omega
        have hd := HD.out
        rw [List.drop_of_length_le (by rw [Hcl.out]; exact Nat.le_refl _), List.take_of_length_le (by rw [HF.out]; exact Nat.le_refl _), kdecA] at hd
        have hll := HR.out.len
        by_cases hl0 : lb = 0
        · subst hl0
          have hl : l = [] := List.eq_nil_of_length_eq_zero hll
          rw [if_pos hl] at hd
          have HRg := Lib.hid (HRy.out _ hd.symm)
          clear hd hl hll
          go_wp2_with fail
          go_ret2
          exact KDecPost.good _ HRg.out HF.out (HX.out.mono (by rw [Hg.out]; exact HE1.out.size)) (HT.out.mono (by have := Hg.out; have := HE1.out.size; omega)) (HE1.out.trans HE.out)
        · have hl : ¬ l = [] := fun h => hl0 (by rw [← hll, h]; rfl)
          rw [if_neg hl] at hd
          have HRb := Lib.hid (HRn.out hd.symm)
          have hpos : 0 < lb := by omega
          clear hd hl hll
          go_wp2_with fail
          go_ret2
          exact KDecPost.bad _ HRb.out (HE1.out.trans HE.out)
  · have HR := Lib.hid (show kdecE keys cs bs = ([], schE keys cs) from if_pos z1)
    obtain ⟨E, hE⟩ : ∃ E, E = schE keys cs := ⟨_, rfl⟩
    rw [← hE] at HS HR z1
    have hb1 : (E != 0) = true := by rw [bne_iff_ne]; exact z1
    clear hs hx hu hE
    go_enter Tryd.func17, Tryd.ntmps17
    go_wp2_with fail
    refine (HS.out _ ((Ext.refl w).alloc _)).mono ?_
    rintro e w1 ⟨rfl, he1⟩
    go_wp2_with fail
    go_ret2
    exact KDecPost.bad _ HR.out (((Ext.refl w).alloc _).trans he1)

end Go.Proofs.YtnkggopkcjffoaaDoor

/-
  Layer 7: the document's schema and examples.
-/
namespace Go.Proofs.YtnkggopkcjffoaaDoor
open Go.RowKit

/-- The columns of the document's schema. -/
def cs7 : List Col := [⟨⟨#[97]⟩, 2, false⟩, ⟨⟨#[98]⟩, 8, false⟩]

set_option maxHeartbeats 1600000 in
set_option maxRecDepth 100000 in
theorem two7_any (w : World) : Calls Tryd.prog 34 #[] w fun e w' => ∃ A, e = .returned (.agg #[.slice A 2 2, .int .i64 2]) ∧ SchIn w' A 2 2 cs7 ∧ Ext w w' := by
  have hE : Ext w ((w.alloc (.cells #[.slice none 0 0, .int .i64 0] 24)).alloc (.cells #[.string ⟨#[97]⟩, .int .i64 2, .bool false, .string ⟨#[98]⟩, .int .i64 8, .bool false] 68)) := ((Ext.refl w).alloc _).alloc _
  obtain ⟨W8, hW8⟩ : ∃ W8, W8 = (w.alloc (.cells #[.slice none 0 0, .int .i64 0] 24)).alloc (.cells #[.string ⟨#[97]⟩, .int .i64 2, .bool false, .string ⟨#[98]⟩, .int .i64 8, .bool false] 68) := ⟨_, rfl⟩
  have hK : W8.heap[w.heap.size]? = some (.cells #[.slice none 0 0, .int .i64 0] 24) := by
    rw [hW8]
    exact Ext.kept ((Ext.refl _).alloc _)
  have hK2 : W8.heap[w.heap.size + 1]? = some (.cells #[.string ⟨#[97]⟩, .int .i64 2, .bool false, .string ⟨#[98]⟩, .int .i64 8, .bool false] 68) := by
    rw [hW8]
    have := heap_alloc_new (w.alloc (.cells #[.slice none 0 0, .int .i64 0] 24)) (.cells #[.string ⟨#[97]⟩, .int .i64 2, .bool false, .string ⟨#[98]⟩, .int .i64 8, .bool false] 68)
    simpa using this
  rw [← hW8] at hE
  have HK := Lib.hid hK
  have HK2 := Lib.hid hK2
  have HE := Lib.hid hE
  clear hK hK2 hE
  go_enter Tryd.func34, Tryd.ntmps34
  go_wp2_with (rw [← hW8]; refine wpList_store_row rfl 24 (.tmp 0) (.tmp 4) rfl w.heap.size #[.slice (some ⟨w.heap.size + 1, 0, none⟩) 2 2, .int .i64 2] rfl rfl 24 #[.slice none 0 0, .int .i64 0] HK.out (by kernel_rfl) rfl (by simp; exact ⟨rfl, rfl⟩) ?_)
  apply bodyPost_ret
  · exact results_cell1 rfl _ _ w.heap.size 24 #[.slice (some ⟨w.heap.size + 1, 0, none⟩) 2 2, .int .i64 2] (0, 0) _ rfl (setRow_heap W8 w.heap.size _ _ 24 (0, 0) HK.out) Tryd.underlying24 rfl (by kernel_rfl)
  · rfl
  have hg := (setRow_other W8 w.heap.size (w.heap.size + 1) #[.slice (some ⟨w.heap.size + 1, 0, none⟩) 2 2, .int .i64 2] (by omega)).trans HK2.out
  refine ⟨_, rfl, ⟨⟨rfl, fun _ => ⟨w.heap.size + 1, 0, rfl, (Array.getElem?_eq_some_iff.1 hg).1, fun j c hj => ?_⟩⟩, by decide, by decide, by decide, by decide⟩, HE.out.setRow (Nat.le_refl _) _⟩
  match j, hj with
  | 0, hj =>
    simp [cs7] at hj
    subst hj
    exact ⟨cell_of_row _ _ 0 _ _ (0, 0) hg, cell_of_row _ _ 1 _ _ (0, 0) hg, cell_of_row _ _ 2 _ _ (0, 0) hg⟩
  | 1, hj =>
    simp [cs7] at hj
    subst hj
    exact ⟨cell_of_row _ _ 3 _ _ (0, 0) hg, cell_of_row _ _ 4 _ _ (0, 0) hg, cell_of_row _ _ 5 _ _ (0, 0) hg⟩
  | j + 2, hj => simp [cs7] at hj

theorem RdX.nil0 (w : World) : RdX w none 0 [] := ⟨rfl, fun h => absurd h (by decide)⟩

/-- A row of one number. -/
theorem ex7_one (W : World) : RdX (W.alloc (.cells #[.bool false, .int .i64 1, .slice none 0 0] 63)) (some ⟨W.heap.size, 0, none⟩) 1 [⟨false, 1, none, 0, []⟩] := by
  have hg := heap_alloc_new W (.cells #[.bool false, .int .i64 1, .slice none 0 0] 63)
  refine ⟨rfl, fun _ => ⟨W.heap.size, 0, rfl, (Array.getElem?_eq_some_iff.1 hg).1, fun j x hj => ?_⟩⟩
  match j, hj with
  | 0, hj =>
    simp at hj
    subst hj
    exact ⟨cell_of_row _ _ 0 _ _ (0, 0) hg, cell_of_row _ _ 1 _ _ (0, 0) hg, cell_of_row _ _ 2 _ _ (0, 0) hg, ⟨Rd.nil .., (by decide), (by decide), (by decide), (by decide)⟩⟩
  | j + 1, hj => simp at hj

/-- A row of a number and a text. -/
theorem ex7_two (_W W2 : World) (b : Nat) (hr : Rd .u8 W2 (some ⟨b, 0, none⟩) 1 [97]) (g : Nat) (hg : W2.heap[g]? = some (.cells #[.bool false, .int .i64 1, .slice none 0 0, .bool false, .int .i64 0, .slice (some ⟨b, 0, none⟩) 1 1] 63)) :
    RdX W2 (some ⟨g, 0, none⟩) 2 [⟨false, 1, none, 0, []⟩, ⟨false, 0, some ⟨b, 0, none⟩, 1, [97]⟩] := by
  refine ⟨rfl, fun _ => ⟨g, 0, rfl, (Array.getElem?_eq_some_iff.1 hg).1, fun j x hj => ?_⟩⟩
  match j, hj with
  | 0, hj =>
    simp at hj
    subst hj
    exact ⟨cell_of_row _ _ 0 _ _ (0, 0) hg, cell_of_row _ _ 1 _ _ (0, 0) hg, cell_of_row _ _ 2 _ _ (0, 0) hg, ⟨Rd.nil .., (by decide), (by decide), (by decide), (by decide)⟩⟩
  | 1, hj =>
    simp at hj
    subst hj
    exact ⟨cell_of_row _ _ 3 _ _ (0, 0) hg, cell_of_row _ _ 4 _ _ (0, 0) hg, cell_of_row _ _ 5 _ _ (0, 0) hg, ⟨hr, (show U8 [97] by decide), (show (-9223372036854775808 : Int) ≤ 0 by decide), (show (0 : Int) ≤ 9223372036854775807 by decide), (show 1 * 1 ≤ 140737488351232 by decide)⟩⟩
  | j + 2, hj => simp at hj

theorem ex7_enc (A : Option Addr) (c : Nat) : kencE 2 cs7 [⟨false, 1, none, 0, []⟩, ⟨false, 0, A, c, [97]⟩] = ([128, 1, 97, 0, 0], 0) := by
  unfold kencE
  rw [show rowF cs7 [⟨false, 1, none, 0, []⟩, ⟨false, 0, A, c, [97]⟩] = rowW cs7 [(false, 1, []), (false, 0, [97])] from rowF_val _ _]
  show (if schE 2 cs7 ≠ 0 then ([], schE 2 cs7) else if (2 : Nat) < 1 ∨ (2 : Int) < ((2 : Nat) : Int) then ([], 61) else if rowW cs7 [(false, 1, []), (false, 0, [97])] ≠ 0 then ([], rowW cs7 [(false, 1, []), (false, 0, [97])]) else (keyB cs7 [(false, 1, []), (false, 0, [97])], 0)) = ([128, 1, 97, 0, 0], 0)
  decide +kernel
theorem ex7_dec : kdecE 2 cs7 [127, 255, 0, 255, 0, 0] = ([(false, -1, []), (false, 0, [0])], 0) := by decide +kernel
theorem ex7_dec2 : kdecE 2 cs7 [128, 1] = ([], 70) := by decide +kernel
theorem ex7_bds : kbdsE 2 cs7 [⟨false, 1, none, 0, []⟩] [] = ([128, 1], [], 0) := by decide +kernel
theorem ex7_in : withinF [128, 1, 97, 0, 0] [128, 1] [] = true := by decide +kernel
theorem ex7_out : withinF [127] [128, 1] [] = false := by decide +kernel

end Go.Proofs.YtnkggopkcjffoaaDoor

/-
  Layer 7: the document's examples hold.
-/
namespace Go.Proofs.YtnkggopkcjffoaaDoor
open Go.RowKit

theorem mark7 (fr : Nat × Nat) (w : World) (xs : List Nat) {b n : Nat} (hb : w.heap.size = b) (hn : xs.length = n) : Rd .u8 (w.alloc (.cells (xs.map fun x : Nat => Value.int .u8 (x : Int)).toArray 5 fr)) (some ⟨b, 0, none⟩) n xs := by
  subst hb
  subst hn
  refine ⟨rfl, fun hn => ⟨w.heap.size, 0, rfl, by simp, fun j hj => ?_⟩⟩
  rw [cell_of_row _ w.heap.size (0 + j) _ 5 fr (heap_alloc_new w _)]
  simp [hj]

/-- The cells of the first two of an owned row. -/
theorem OwnX.pair {w : World} {base c : Nat} {A : Option Addr} {fs : List Ci} {u v : CV} (h : OwnX w base A c fs) (hv : fs.map Ci.val = [u, v]) :
    ∃ g B d, A = some ⟨g, 0, none⟩ ∧ g < w.heap.size ∧ fs.length = 2 ∧ w.cell? ⟨g, 1, none⟩ = some (.int .i64 u.2.1) ∧ w.cell? ⟨g, 5, none⟩ = some (.slice B v.2.2.length d) := by
  have hl : fs.length = 2 := by have := congrArg List.length hv; simpa using this
  obtain ⟨g, hA, _, hg, hc, _⟩ := h.store (show 1 < fs.length by omega)
  subst hA
  have h0 := h
  unfold OwnX at h0
  have hf0 : fs[0]? = some fs[0] := List.getElem?_eq_getElem (by omega)
  have hf1 : fs[1]? = some fs[1] := List.getElem?_eq_getElem (by omega)
  have e0 : fs[0].val = u := by
    have h1 : (fs.map Ci.val)[0]? = some u := by rw [hv]; rfl
    rw [List.getElem?_map, hf0] at h1
    simpa using h1
  have e1 : fs[1].val = v := by
    have h1 : (fs.map Ci.val)[1]? = some v := by rw [hv]; rfl
    rw [List.getElem?_map, hf1] at h1
    simpa using h1
  refine ⟨g, fs[1].A, fs[1].c, rfl, hg, hl, ?_, ?_⟩
  · rw [← e0]
    exact (World.ownsRow.cellAt h0 1 (by omega)).trans (xcells_at hf0 1 (by omega))
  · rw [← e1]
    exact (World.ownsRow.cellAt h0 5 (by omega)).trans (xcells_at hf1 2 (by omega))

set_option maxHeartbeats 6400000 in
set_option maxRecDepth 100000 in
theorem alive7 (w : World) : Calls Tryd.prog 10 #[] w fun e w' => e = .returned (.bool true) ∧ Ext w w' := by
  have kc := conv_const
  go_enter Tryd.func10, Tryd.ntmps10
  go_wp2_with fail
  refine (two7_any _).mono ?_
  rintro e w1 ⟨Q1, rfl, hs1, he1⟩
  go_wp2_with fail
  have hA : Ext w1 ((w1.alloc (.cells #[.int .u8 97] 5 (1, 2))).alloc (.cells #[.bool false, .int .i64 1, .slice none 0 0, .bool false, .int .i64 0, .slice (some ⟨w1.heap.size, 0, none⟩) 1 1] 63)) := ((Ext.refl w1).alloc _).alloc _
  have hX2 := ex7_two w1 ((w1.alloc (.cells #[.int .u8 97] 5 (1, 2))).alloc (.cells #[.bool false, .int .i64 1, .slice none 0 0, .bool false, .int .i64 0, .slice (some ⟨w1.heap.size, 0, none⟩) 1 1] 63)) w1.heap.size ((mark7 (1, 2) w1 [97] rfl rfl).ext ((Ext.refl _).alloc _)) (w1.heap.size + 1) (by
    have := heap_alloc_new (w1.alloc (.cells #[.int .u8 97] 5 (1, 2))) (.cells #[.bool false, .int .i64 1, .slice none 0 0, .bool false, .int .i64 0, .slice (some ⟨w1.heap.size, 0, none⟩) 1 1] 63)
    simpa using this)
  have hC := kencode_any Q1 2 2 2 cs7 (some ⟨w1.heap.size + 1, 0, none⟩) 2 2 _ _ (hs1.ext hA) hX2 (by decide) (by
    intro x hx
    simp at hx
    rcases hx with rfl | rfl <;> exact ⟨by simp, by simp⟩)
  unfold KEncPost at hC
  rw [ex7_enc] at hC
  refine hC.mono ?_
  rintro e w2 ⟨A2, c2, rfl, ho2, he2⟩
  have hr2 := ho2.rd
  have hT2 := (he1.trans hA).trans he2
  clear hC hX2 ho2 he2 hA hs1 he1
  go_wp2_with fail
  refine (two7_any _).mono ?_
  rintro e w3 ⟨Q3, rfl, hs3, he3⟩
  go_wp2_with fail
  have hA : Ext w3 (w3.alloc (.cells #[.int .u8 127, .int .u8 255, .int .u8 0, .int .u8 255, .int .u8 0, .int .u8 0] 5)) := (Ext.refl w3).alloc _
  have hC := kdecode_any Q3 2 2 2 cs7 (some ⟨w3.heap.size, 0, none⟩) 6 6 [127, 255, 0, 255, 0, 0] _ (hs3.ext hA) (Rd.lit_at .u8 5 w3 [127, 255, 0, 255, 0, 0] rfl rfl) (by decide) (by decide) (by decide)
  unfold KDecPost at hC
  rw [ex7_dec] at hC
  refine hC.mono ?_
  rintro e w4 ⟨A4, c4, xs4, rfl, hv4, ho4, _, he4⟩
  obtain ⟨g4, B4, d4, hA4, hg4, hl4, hc1, hc5⟩ := ho4.pair hv4
  subst hA4
  rw [hl4]
  have hE34 := hA.trans he4
  have hT4 := (hT2.trans he3).trans hE34
  have hr4 := hr2.ext (he3.trans hE34)
  clear hC ho4 hv4 he4 hA hs3 he3 hE34 hr2 hT2 hl4
  go_wp2_with fail
  refine (two7_any _).mono ?_
  rintro e w5 ⟨Q5, rfl, hs5, he5⟩
  go_wp2_with fail
  have hA : Ext w5 (w5.alloc (.cells #[.int .u8 128, .int .u8 1] 5)) := (Ext.refl w5).alloc _
  have hC := kdecode_any Q5 2 2 2 cs7 (some ⟨w5.heap.size, 0, none⟩) 2 2 [128, 1] _ (hs5.ext hA) (Rd.lit_at .u8 5 w5 [128, 1] rfl rfl) (by decide) (by decide) (by decide)
  unfold KDecPost at hC
  rw [ex7_dec2] at hC
  refine hC.mono ?_
  rintro e w6 ⟨A6, c6, xs6, rfl, _, _, _, he6⟩
  have hE56 := he5.trans (hA.trans he6)
  have hT6 := hT4.trans hE56
  have hr6 := hr4.ext hE56
  have hc16 := (hE56.cells g4 1 hg4).trans hc1
  have hc56 := (hE56.cells g4 5 hg4).trans hc5
  have hg6 := Nat.lt_of_lt_of_le hg4 hE56.size
  clear hC he6 hA hs5 he5 hE56 hr4 hT4 hc1 hc5 hg4
  go_wp2_with fail
  refine (two7_any _).mono ?_
  rintro e w7 ⟨Q7, rfl, hs7, he7⟩
  go_wp2_with fail
  have hA : Ext w7 (w7.alloc (.cells #[.bool false, .int .i64 1, .slice none 0 0] 63)) := (Ext.refl w7).alloc _
  have hC := kbounds_any Q7 2 2 2 cs7 (some ⟨w7.heap.size, 0, none⟩) 1 1 _ none 0 0 _ _ (hs7.ext hA) (ex7_one w7) (by decide) (by
    intro x hx
    simp at hx
    subst hx
    exact ⟨by decide, by decide⟩) (RdX.nil0 _) (by decide) (by intro x hx; cases hx)
  unfold KBdsPost at hC
  rw [ex7_bds] at hC
  refine hC.mono ?_
  rintro e w8 ⟨A8, c8, A9, c9, rfl, ho8, ho9, _, he8⟩
  have hE78 := he7.trans (hA.trans he8)
  have hT8 := hT6.trans hE78
  have hr8 := hr6.ext hE78
  have hc18 := (hE78.cells g4 1 hg6).trans hc16
  have hc58 := (hE78.cells g4 5 hg6).trans hc56
  have hl8 := ho8.rd
  have hh8 := ho9.rd
  clear hC he8 hA hs7 he7 hE78 hr6 hT6 hc16 hc56 hg6 ho8 ho9
  go_wp2_with fail
  refine (same_any A2 (some ⟨w8.heap.size, 0, none⟩) 5 c2 5 5 [128, 1, 97, 0, 0] [128, 1, 97, 0, 0] _ (hr8.ext ((Ext.refl w8).alloc _)) (Rd.lit_at .u8 5 w8 [128, 1, 97, 0, 0] rfl rfl) (by decide) (by decide)).mono ?_
  rintro e W9 ⟨rfl, q9, hW9⟩
  rw [decide_eq_true rfl]
  have hE89 : Ext w8 W9 := by rw [hW9]; exact ((Ext.refl w8).alloc _).drewN _
  have hT9 := hT8.trans hE89
  have hr9 := hr8.ext hE89
  have hl9 := hl8.ext hE89
  have hh9 := hh8.ext hE89
  clear hW9 hE89 hT8 hr8 hl8 hh8 hc18 hc58
  go_wp2_with fail
  refine (next_any (some ⟨W9.heap.size, 0, none⟩) 1 1 [97] _ (Rd.lit_at .u8 5 W9 [97] rfl rfl) (by decide)).mono ?_
  rintro e w10 ⟨A10, c10, rfl, ho10, he10⟩
  have hE10 : Ext W9 w10 := ((Ext.refl W9).alloc _).trans he10
  have hr10 := ho10.rd
  have hT10 := hT9.trans hE10
  clear ho10 he10
  go_wp2_with fail
  refine (same_any A10 (some ⟨w10.heap.size, 0, none⟩) 2 c10 2 2 [97, 0] [97, 0] _ (hr10.ext ((Ext.refl w10).alloc _)) (Rd.lit_at .u8 5 w10 [97, 0] rfl rfl) (by decide) (by decide)).mono ?_
  rintro e W11 ⟨rfl, q11, hW11⟩
  rw [decide_eq_true rfl]
  have hE11 : Ext w10 W11 := by rw [hW11]; exact ((Ext.refl w10).alloc _).drewN _
  have hT11 := hT10.trans hE11
  have hE11' := hE10.trans hE11
  have hr11 := hr9.ext hE11'
  have hl11 := hl9.ext hE11'
  have hh11 := hh9.ext hE11'
  clear hW11 hE11 hE11' hT10 hE10 hr10 hT9 hr9 hl9 hh9
  go_wp2_with fail
  refine (within_any A2 A8 A9 5 c2 2 c8 0 c9 [128, 1, 97, 0, 0] [128, 1] [] W11 hr11 hl11 hh11 (by decide) (by decide) (by decide)).mono ?_
  rintro e w12 ⟨rfl, rfl⟩
  rw [ex7_in]
  go_wp2_with fail
  refine (within_any (some ⟨W11.heap.size, 0, none⟩) A8 A9 1 1 2 c8 0 c9 [127] [128, 1] [] _ (Rd.lit_at .u8 5 W11 [127] rfl rfl) (hl11.ext ((Ext.refl W11).alloc _)) (hh11.ext ((Ext.refl W11).alloc _)) (by decide) (by decide) (by decide)).mono ?_
  rintro e w13 ⟨rfl, rfl⟩
  rw [ex7_out]
  go_wp2_with fail
  go_ret
  exact ⟨rfl, hT11.alloc _⟩

end Go.Proofs.YtnkggopkcjffoaaDoor

/-
  Layer 7: what keys' bytes tell (mathematics over the program's answers).
-/
namespace Go.Proofs.YtnkggopkcjffoaaDoor
open Go.RowKit

theorem kok_iff {c : Col} {v : CV} (hn : c.null = false) : chkW c v = 0 ↔ kok c v := by
  obtain ⟨vn, vi, vt⟩ := v
  unfold chkW kok
  simp only
  rw [hn]
  constructor
  · intro h
    cases vn with
    | true => exact absurd (chk_nul0 h).1 (by decide)
    | false => exact ⟨rfl, h⟩
  · rintro ⟨rfl, h⟩
    exact h

theorem key_null {keys : Int} {cs : List Col} (h : schE keys cs = 0) (j : Nat) (d : Col) (hj : cs[j]? = some d) (hk : (j : Int) < keys) : d.null = false := by
  have hB : schB keys cs = true := by
    unfold schE at h
    by_cases q : schB keys cs = true
    · exact q
    · rw [if_neg q] at h; omega
  unfold schB at hB
  simp only [Bool.and_eq_true] at hB
  have := colsB_iff.1 hB.1.2 j d hj
  rw [Nat.zero_add] at this
  unfold colB at this
  simp only [Bool.and_eq_true, Bool.not_eq_true', Bool.and_eq_false_iff, decide_eq_false_iff_not] at this
  rcases this.2 with h | h
  · exact h
  · exact absurd hk h

theorem rowF_koks {cs : List Col} {xs : List Ci} (h : ∀ (j : Nat) (d : Col), cs[j]? = some d → j < xs.length → d.null = false) : rowF cs xs = 0 ↔ koks cs (xs.map Ci.val) := by
  rw [rowF_val, rowW_iff]
  unfold koks
  have hj : ∀ (j : Nat) (v : CV), (xs.map Ci.val)[j]? = some v → j < xs.length := fun j v hv => by
    have := (List.getElem?_eq_some_iff.1 hv).1
    simpa using this
  constructor
  · intro q j c v hc hv
    exact (kok_iff (h j c hc (hj j v hv))).1 (q j c v hc hv)
  · intro q j c v hc hv
    exact (kok_iff (h j c hc (hj j v hv))).2 (q j c v hc hv)

theorem rowF_key {keys : Int} {cs : List Col} {xs : List Ci} (h : schE keys cs = 0) (hl : (xs.length : Int) ≤ keys) : rowF cs xs = 0 ↔ koks cs (xs.map Ci.val) :=
  rowF_koks fun j d hd hj => key_null h j d hd (by omega)

theorem kencE_ok {keys : Int} {cs : List Col} {xs : List Ci} (h : schE keys cs = 0) (h1 : 1 ≤ xs.length) (hl : (xs.length : Int) ≤ keys) (hk : koks cs (xs.map Ci.val)) : kencE keys cs xs = (keyB cs (xs.map Ci.val), 0) := by
  unfold kencE
  rw [if_neg (fun q => q h), if_neg (by omega), if_neg (fun q => q ((rowF_key h hl).2 hk))]

theorem kencE_inv {keys : Int} {cs : List Col} {xs : List Ci} (h : (kencE keys cs xs).2 = 0) : schE keys cs = 0 ∧ 1 ≤ xs.length ∧ (xs.length : Int) ≤ keys ∧ koks cs (xs.map Ci.val) ∧ kencE keys cs xs = (keyB cs (xs.map Ci.val), 0) := by
  by_cases h1 : schE keys cs = 0
  · by_cases h2 : xs.length < 1 ∨ keys < xs.length
    · unfold kencE at h
      rw [if_neg (fun q => q h1), if_pos h2] at h
      exact absurd h (by decide)
    · by_cases h3 : rowF cs xs = 0
      · have hk := (rowF_key h1 (by omega)).1 h3
        exact ⟨h1, by omega, by omega, hk, kencE_ok h1 (by omega) (by omega) hk⟩
      · unfold kencE at h
        rw [if_neg (fun q => q h1), if_neg h2, if_pos h3] at h
        exact absurd h h3
  · unfold kencE at h
    rw [if_pos h1] at h
    exact absurd h h1

theorem keyB_cut : ∀ {cs : List Col} {vs : List CV} {m : Nat}, vs.length ≤ m → keyB (cs.take m) vs = keyB cs vs
  | [], vs, m, _ => by simp
  | c :: r, [], m, _ => by cases m <;> rfl
  | c :: r, v :: s, 0, h => by simp at h
  | c :: r, v :: s, m + 1, h => by
    show kputV c v ++ keyB (r.take m) s = _
    rw [keyB_cut (by simpa using h)]
    rfl

theorem koks_cut {cs : List Col} {vs : List CV} {m : Nat} (hl : vs.length ≤ m) : koks (cs.take m) vs ↔ koks cs vs := by
  have hj : ∀ (j : Nat) (v : CV), vs[j]? = some v → j < m := fun j v hv => Nat.lt_of_lt_of_le (List.getElem?_eq_some_iff.1 hv).1 hl
  constructor
  · intro q j c v hc hv
    exact q j c v (by rw [List.getElem?_take, if_pos (hj j v hv)]; exact hc) hv
  · intro q j c v hc hv
    rw [List.getElem?_take, if_pos (hj j v hv)] at hc
    exact q j c v hc hv

theorem keyS_inv {keys : Int} {cs : List Col} {xs : List Ci} (h : keyS keys cs xs = 0) : schE keys cs = 0 ∧ 1 ≤ xs.length ∧ (xs.length : Int) = keys ∧ koks cs (xs.map Ci.val) := by
  by_cases h1 : schE keys cs = 0
  · obtain ⟨i1, i2, i3, i4, i5⟩ := schE_inv h1
    unfold keyS rowE at h
    rw [if_neg (fun q => q h1)] at h
    have hlt : (cs.take keys.toNat).length = keys.toNat := by rw [List.length_take]; omega
    rw [hlt] at h
    by_cases h2 : xs.length = keys.toNat
    · rw [if_neg (fun q => q h2)] at h
      have hk := (rowF_koks (cs := cs.take keys.toNat) (xs := xs) fun j d hd hj => by
        rw [List.getElem?_take] at hd
        split at hd
        · exact key_null h1 j d hd (by omega)
        · cases hd).1 h
      exact ⟨h1, by omega, by omega, (koks_cut (by rw [List.length_map]; omega)).1 hk⟩
    · rw [if_pos h2] at h
      exact absurd h (by decide)
  · unfold keyS at h
    rw [if_pos h1] at h
    exact absurd h h1

theorem keyS_ok {keys : Int} {cs : List Col} {xs : List Ci} (h1 : schE keys cs = 0) (hl : (xs.length : Int) = keys) (hk : koks cs (xs.map Ci.val)) : keyS keys cs xs = 0 := by
  obtain ⟨i1, i2, i3, i4, i5⟩ := schE_inv h1
  unfold keyS rowE
  rw [if_neg (fun q => q h1)]
  have hlt : (cs.take keys.toNat).length = keys.toNat := by rw [List.length_take]; omega
  rw [hlt, if_neg (by omega)]
  refine (rowF_koks fun j d hd hj => ?_).2 ((koks_cut (by rw [List.length_map]; omega)).2 hk)
  rw [List.getElem?_take] at hd
  split at hd
  · exact key_null h1 j d hd (by omega)
  · cases hd

theorem kdecE_put {keys : Int} {cs : List Col} {vs : List CV} (h : schE keys cs = 0) (hl : (vs.length : Int) = keys) (hk : koks cs vs) : kdecE keys cs (keyB cs vs) = (vs, 0) := by
  obtain ⟨i1, i2, i3, i4, i5⟩ := schE_inv h
  unfold kdecE
  rw [if_neg (fun q => q h), ← keyB_cut (cs := cs) (m := keys.toNat) (by omega), kdecA_put (by rw [List.length_take]; omega) ((koks_cut (by omega)).2 hk)]
  rfl

theorem kdecE_more {keys : Int} {cs : List Col} {vs : List CV} {x : Nat} (h : schE keys cs = 0) (hl : (vs.length : Int) = keys) (hk : koks cs vs) : kdecE keys cs (keyB cs vs ++ [x]) = ([], 70) := by
  obtain ⟨i1, i2, i3, i4, i5⟩ := schE_inv h
  unfold kdecE
  rw [if_neg (fun q => q h), ← keyB_cut (cs := cs) (m := keys.toNat) (by omega), kdecA_more (by rw [List.length_take]; omega) ((koks_cut (by omega)).2 hk)]
  rfl

theorem kdecE_bad {keys : Int} {cs : List Col} {bs : List Nat} (h : (kdecE keys cs bs).2 ≠ 0) : (kdecE keys cs bs).1 = [] := by
  unfold kdecE at h ⊢
  split
  · rfl
  · rename_i q
    rw [if_neg q] at h
    cases hD : kdecA (cs.take keys.toNat) bs [] with
    | none => rfl
    | some vs => rw [hD] at h; exact absurd rfl h

theorem kdecE_ok {keys : Int} {cs : List Col} {bs : List Nat} (hu : U8 bs) (h : (kdecE keys cs bs).2 = 0) :
    schE keys cs = 0 ∧ ((kdecE keys cs bs).1.length : Int) = keys ∧ koks cs (kdecE keys cs bs).1 ∧ keyB cs (kdecE keys cs bs).1 = bs ∧ ∀ u ∈ (kdecE keys cs bs).1, U8 u.2.2 := by
  unfold kdecE at h ⊢
  by_cases h1 : schE keys cs = 0
  · obtain ⟨i1, i2, i3, i4, i5⟩ := schE_inv h1
    rw [if_neg (fun q => q h1)] at h ⊢
    cases hD : kdecA (cs.take keys.toNat) bs [] with
    | none => rw [hD] at h; exact absurd h (by decide)
    | some vs =>
      obtain ⟨us, e1, e2, e3, e4, e5⟩ := kdecA_ok hu hD
      rw [List.nil_append] at e1
      subst e1
      rw [List.length_take] at e2
      show _ ∧ ((vs.length : Nat) : Int) = keys ∧ koks cs vs ∧ keyB cs vs = bs ∧ ∀ u ∈ vs, U8 u.2.2
      exact ⟨h1, by omega, (koks_cut (by omega)).1 e4, by rw [← e3, keyB_cut (by omega)], e5⟩
  · rw [if_pos h1] at h
    exact absurd h h1

theorem kok_range {c : Col} {v : CV} (h : kok c v) : -9223372036854775808 ≤ v.2.1 ∧ v.2.1 ≤ 9223372036854775807 ∧ v.2.2.length ≤ 200 := by
  have hl := kok_len h
  obtain ⟨_, h1⟩ := h
  have hk := chk_kind h1
  by_cases h6 : c.kind ≤ 6
  · obtain ⟨_, l1, g1⟩ := chk_num0 ⟨hk.1, h6⟩ h1
    have hb : -9223372036854775808 ≤ least c.kind ∧ great c.kind ≤ 9223372036854775807 := by
      obtain e | e | e | e | e | e : c.kind = 1 ∨ c.kind = 2 ∨ c.kind = 3 ∨ c.kind = 4 ∨ c.kind = 5 ∨ c.kind = 6 := by omega
      all_goals
        rw [e]
        decide
    exact ⟨by omega, by omega, hl⟩
  · have h0 := (chk_txt0 (show c.kind = 7 ∨ c.kind = 8 by omega) h1).1
    exact ⟨by omega, by omega, hl⟩

/-- What was decoded reads as cells. -/
theorem key_rdX {w : World} {base c : Nat} {A : Option Addr} {xs : List Ci} {cs : List Col} (ho : OwnX w base A c xs) (ht : TxtU w base xs) (hl : xs.length ≤ cs.length) (hk : koks cs (xs.map Ci.val)) (hu : ∀ u ∈ xs.map Ci.val, U8 u.2.2) : RdX w A xs.length xs := by
  refine ho.rdX fun x hx => ?_
  obtain ⟨j, hj, rfl⟩ := List.mem_iff_getElem.1 hx
  have hc : cs[j]? = some cs[j] := List.getElem?_eq_getElem (by omega)
  have hv : (xs.map Ci.val)[j]? = some xs[j].val := by rw [List.getElem?_map, List.getElem?_eq_getElem hj]; rfl
  obtain ⟨r1, r2, r3⟩ := kok_range (hk j _ _ hc hv)
  exact ⟨(ht.1 _ hx).rd, hu _ (List.mem_of_getElem? hv), r1, r2, by
    have : xs[j].txt.length ≤ 200 := r3
    omega⟩

theorem key_cap {w : World} {base : Nat} {xs : List Ci} (ht : TxtU w base xs) : ∀ x ∈ xs, x.txt.length ≤ x.c ∧ x.c ≤ 9223372036854775807 := fun x hx => (ht.1 x hx).cap

end Go.Proofs.YtnkggopkcjffoaaDoor

/-
  Layer 7: words for the statements' walks.
-/
namespace Go.Proofs.YtnkggopkcjffoaaDoor
open Go.RowKit

/-- A byte that was just laid. -/
theorem rd_one (v : Nat) {W : World} {g : Nat} (h : W.heap[g]? = some (.cells #[.int .u8 (v : Int)] 5)) : Rd .u8 W (some ⟨g, 0, none⟩) 1 [v] := by
  refine ⟨rfl, fun _ => ⟨g, 0, rfl, (Array.getElem?_eq_some_iff.1 h).1, fun j hj => ?_⟩⟩
  obtain rfl : j = 0 := by omega
  exact cell_of_row W g 0 _ _ (0, 0) h

theorem rdX_u8 {w : World} {A : Option Addr} {n : Nat} {xs : List Ci} (h : RdX w A n xs) : ∀ v ∈ xs.map Ci.val, U8 v.2.2 := by
  intro v hv
  obtain ⟨x, hx', rfl⟩ := List.mem_map.1 hv
  obtain ⟨j, hj, rfl⟩ := List.mem_iff_getElem.1 hx'
  obtain ⟨_, _, y, _, _, hy, _, _, _, hin⟩ := h.at_ (show j < n by rw [← h.1]; exact hj)
  have : xs[j] = y := by rw [List.getElem?_eq_getElem hj] at hy; exact Option.some.inj hy
  rw [this]
  exact hin.u8

/-- The document's bytes are bytes. -/
theorem kencE_u8 {keys : Int} {cs : List Col} {xs : List Ci} (h : ∀ v ∈ xs.map Ci.val, U8 v.2.2) : U8 (kencE keys cs xs).1 := by
  by_cases h0 : (kencE keys cs xs).2 = 0
  · obtain ⟨_, _, _, _, e⟩ := kencE_inv h0
    rw [e]
    exact keyB_u8 h
  · rw [kencE_bad h0]
    intro v hv
    cases hv

theorem kencE_len {keys : Int} {cs : List Col} {xs : List Ci} : (kencE keys cs xs).1.length ≤ 1206 := by
  by_cases h0 : (kencE keys cs xs).2 = 0
  · obtain ⟨h1, h2, h3, h4, e⟩ := kencE_inv h0
    rw [e]
    obtain ⟨i1, i2, i3, i4, i5⟩ := schE_inv h1
    have := (keyB_len (cs := cs) (vs := xs.map Ci.val) h4 (by rw [List.length_map]; omega)).2
    rw [List.length_map] at this
    dsimp only
    omega
  · rw [kencE_bad h0]
    exact Nat.zero_le _

theorem kbndE_u8 {keys : Int} {cs : List Col} {xs : List Ci} (h : ∀ v ∈ xs.map Ci.val, U8 v.2.2) : U8 (kbndE keys cs xs).1 := by
  unfold kbndE
  split
  · intro v hv; cases hv
  · exact kencE_u8 h

theorem kbndE_len {keys : Int} {cs : List Col} {xs : List Ci} : (kbndE keys cs xs).1.length ≤ 1206 := by
  unfold kbndE
  split
  · exact Nat.zero_le _
  · exact kencE_len

end Go.Proofs.YtnkggopkcjffoaaDoor
