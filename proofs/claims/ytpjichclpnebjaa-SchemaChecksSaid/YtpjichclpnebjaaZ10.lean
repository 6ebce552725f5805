import Derived.Test.YtpjichclpnebjaaZ9

-- part H31
/-
  Layer 6: a row with sets, the program's and the document's.
-/
namespace Go.Proofs.Ytpjichclpnebjaa
open Go.RowKit

def applyE (keys : Int) (cs : List Col) (xs : List Ci) (ts : List Si) : Int := if rowS keys cs xs ≠ 0 then rowS keys cs xs else setsS keys cs ts
def applyV (keys : Int) (cs : List Col) (xs : List Ci) (ts : List Si) : List CV := if applyE keys cs xs ts = 0 then withV (xs.map Ci.val) (ts.map Si.val) else []
def CellsPost (R : List CV) (E : Int) (w : World) (e : Ending) (w' : World) : Prop :=
  ∃ fs A' c', e = .returned (.tuple #[.slice A' R.length c', .int .i64 E]) ∧ fs.map Ci.val = R ∧ OwnX w' w.heap.size A' c' fs ∧ TxtU w' w.heap.size fs ∧ Ext w w'
theorem CellsPost.none {w w' : World} {e : Int} (he : Ext w w') : CellsPost [] e w (.returned (.tuple #[.slice Option.none 0 0, .int .i64 e])) w' :=
  ⟨[], Option.none, 0, rfl, rfl, OwnX.nil _ _, TxtU.nil _ _, he⟩

set_option maxHeartbeats 6400000 in
set_option maxRecDepth 100000 in
theorem with_any (A : Option Addr) (n c : Nat) (xs : List Ci) (A2 : Option Addr) (n2 c2 : Nat) (ts : List Si) (w : World) (hx : RdX w A n xs) (ht : RdT w A2 n2 ts) (hn : n ≤ 4398046511104) (hn2 : n2 ≤ 140737488355328) (hcol : ∀ t ∈ ts, 0 ≤ t.col ∧ t.col < (n : Int)) :
    Calls Try.prog 62 #[.slice A n c, .slice A2 n2 c2] w fun e w' => ∃ fs A' c', e = .returned (.slice A' n c') ∧ fs.map Ci.val = withV (xs.map Ci.val) (ts.map Si.val) ∧ OwnX w' w.heap.size A' c' fs ∧ TxtU w' w.heap.size fs ∧ Ext w w' := by
  have Hl := Lib.hid hx.1
  have Hl2 := Lib.hid ht.1
  have Hcol := Lib.hid hcol
  clear hcol
  go_enter Try.func62, Try.ntmps62
  go_wp2_with fail
  refine (twinRow_any A n c xs _ hx hn).mono ?_
  rintro e w1 ⟨fs0, A1, c1, rfl, hv1, ho1, htx1, he1⟩
  have hfl0 : fs0.length = n := by have := congrArg List.length hv1; rw [List.length_map, List.length_map, Hl.out] at this; exact this
  have Hst := Lib.hid (show fs0.length = n ∧ fs0.map Ci.val = withV (xs.map Ci.val) ((ts.map Si.val).take 0) ∧ OwnX w1 w.heap.size A1 c1 fs0 ∧ TxtU w1 w.heap.size fs0 ∧ Ext w w1 from ⟨hfl0, hv1, ho1, htx1.toU, he1⟩)
  clear hfl0 hv1 ho1 htx1 he1
  go_wp2_with fail
  go_loopw [6] (fun i wr => ∃ (j : Nat) (fs : List Ci), j ≤ n2 ∧ i = .int .i64 j ∧ Hid (fs.length = n ∧ fs.map Ci.val = withV (xs.map Ci.val) ((ts.map Si.val).take j) ∧ OwnX wr w.heap.size A1 c1 fs ∧ TxtU wr w.heap.size fs ∧ Ext w wr)) (fun i _ => n2 - (intOf i).toNat)
  case atStart => exact ⟨0, fs0, Nat.zero_le _, rfl, Hst⟩
  case round =>
    clear Hst
    obtain ⟨j, fs, hj, rfl, Hst⟩ := hrel
    obtain ⟨hfl, hfv, hown, htx, hE⟩ := Hst.out
    by_cases hlt : j < n2
    · obtain ⟨b2, o2, x, rfl, hb2, hx2, e9, e0, e1, e2, hin⟩ := ht.at_ hlt
      have hxv : (ts.map Si.val)[j]? = some x.val := by rw [List.getElem?_map, hx2]; rfl
      obtain ⟨q1, q2⟩ := Hcol.out x (List.mem_of_getElem? hx2)
      have hstep := withV_step (vs := xs.map Ci.val) hxv
      rw [← hfv] at hstep
      obtain ⟨p, xn, xi, xA, xc, xt⟩ := x
      simp only [Si.val] at e9 e0 e1 e2 q1 q2 hstep
      obtain ⟨q, rfl⟩ := Int.eq_ofNat_of_zero_le q1
      rw [Int.toNat_natCast] at hstep
      have hqn : q < n := by omega
      obtain ⟨xr, xu, x0, x1, xl⟩ := hin
      simp only at xr xu x0 x1 xl
      obtain ⟨n3, hn3⟩ : ∃ n3, n3 = xt.length := ⟨_, rfl⟩
      rw [← hn3] at e2 xr xl
      have Hn3 := Lib.hid hn3
      obtain ⟨g, rfl, hgb, hglt, hnc, hcm, _, _⟩ := hown.store (show q < fs.length by omega)
      rw [hfl] at hnc
      have hqf : q < fs.length := by omega
      have HC : Hid (∀ W, Ext w W → Calls Try.prog 59 #[.agg #[.bool xn, .int .i64 xi, .slice xA n3 xc]] W fun e w' => ∃ A' c', e = .returned (.agg #[.bool xn, .int .i64 xi, .slice A' n3 c']) ∧ Own .u8 5 w' W.heap.size A' c' xt ∧ Ext W w') := Lib.hid (fun W hW => twin_any xn xi xA n3 xc xt W (xr.ext hW) (by omega))
      have K : Hid (∀ w', Ext w w' → w'.cell? ⟨b2, o2 + j * 4, none⟩ = some (.int .i64 (q : Int)) ∧ w'.cell? ⟨b2, o2 + j * 4 + 1, none⟩ = some (.bool xn) ∧ w'.cell? ⟨b2, o2 + j * 4 + 2, none⟩ = some (.int .i64 xi) ∧ w'.cell? ⟨b2, o2 + j * 4 + 3, none⟩ = some (.slice xA n3 xc)) := Lib.hid (fun w' he =>
        ⟨(he.cells b2 _ hb2).trans e9, (he.cells b2 _ hb2).trans e0, (he.cells b2 _ hb2).trans e1, (he.cells b2 _ hb2).trans e2⟩)
      have HX : Hid (∀ W, Ext wr W → OwnX W w.heap.size (some ⟨g, 0, none⟩) c1 fs) := Lib.hid (fun W hW => hown.ext hW)
      have HE : Hid (∀ W, Ext wr W → Ext w W) := Lib.hid (fun W hW => hE.trans hW)
      have Hg : Hid (∀ g', some g = some g' → w.heap.size ≤ g') := Lib.hid (fun g' h => by injection h with h; omega)
      have Hgb := Lib.hid hgb
      have Hstep := Lib.hid hstep
      have g8 := K.out _ hE
      have i0 : (0 : Int) ≤ (j : Int) := by omega
      have i1 : (j : Int) < (n2 : Int) := by omega
      have i2 : (0 : Int) ≤ (q : Int) := by omega
      have i3 : (q : Int) < (n : Int) := by omega
      clear hfv hown htx hE hx2 hxv hstep hn3 e9 e0 e1 e2 xr hfl q1 q2
      go_wp2_with fail
      go_region_held3 (fun w' => w'.cell? ⟨b2, o2 + j * 4, none⟩ = some (.int .i64 (q : Int)) ∧ w'.cell? ⟨b2, o2 + j * 4 + 1, none⟩ = some (.bool xn) ∧ w'.cell? ⟨b2, o2 + j * 4 + 2, none⟩ = some (.int .i64 xi) ∧ w'.cell? ⟨b2, o2 + j * 4 + 3, none⟩ = some (.slice xA n3 xc))
        (first | exact g8 | exact K.out _ (((Ext.setCell (HE.out _ (by (repeat (first | exact Ext.refl _ | (with_reducible refine Ext.trans ?_ he3) | apply Ext.drew | apply Ext.alloc | fail)))) Hgb.out _).setCell Hgb.out _).setCell Hgb.out _) | (refine K.out _ (HE.out _ ?_); (repeat (first | exact Ext.refl _ | (with_reducible refine Ext.trans ?_ he3) | apply Ext.drew | apply Ext.alloc | fail))) | fail)
        (first
          | (go_at_call 59; (with_reducible refine (HC.out _ (HE.out _ ?_)).mono ?_); (focus ((repeat (first | exact Ext.refl _ | (with_reducible refine Ext.trans ?_ he3) | apply Ext.drew | apply Ext.alloc | fail)); done)); rintro e w3 ⟨A3, c3, rfl, hown3, he3⟩; obtain ⟨kc0, kc1, kc2, kf0, kf1, kf2⟩ := (HX.out w3 (by (repeat (first | exact Ext.refl _ | (with_reducible refine Ext.trans ?_ he3) | apply Ext.drew | apply Ext.alloc | fail)))).cells3 hqf)
          | fail)
      have he3' : Ext wr w3 := by (repeat (first | exact Ext.refl _ | (with_reducible refine Ext.trans ?_ he3) | apply Ext.drew | apply Ext.alloc | fail))
      obtain ⟨hfl, hfv, hown, htx, hE⟩ := Hst.out
      have ho3' : Own .u8 5 w3 wr.heap.size A3 c3 xt := hown3
      obtain ⟨ho4, hg4⟩ := (hown.ext he3').stored hqf ⟨xn, xi, A3, c3, xt⟩ (.slice A3 n3 c3) (by rw [Hn3.out])
      have he4 := grownBy_ext (hE.trans he3') hg4 Hg.out
      have ht3 : TxtU w3 w.heap.size (fs.set q ⟨xn, xi, A3, c3, xt⟩) := TxtU.put (htx.ext he3') ho3' hE.size (fun y hy pp hp => ((htx.1 y hy).block pp hp).2) q
      have ht4 : TxtU _ w.heap.size (fs.set q ⟨xn, xi, A3, c3, xt⟩) := TxtU.grown ht3 (hown.ext he3') (by simpa [Value.ownBlock] using hg4)
      have HN : Hid ((fs.set q ⟨xn, xi, A3, c3, xt⟩).length = n ∧ (fs.set q ⟨xn, xi, A3, c3, xt⟩).map Ci.val = withV (xs.map Ci.val) ((ts.map Si.val).take (j + 1)) ∧ OwnX _ w.heap.size (some ⟨g, 0, none⟩) c1 (fs.set q ⟨xn, xi, A3, c3, xt⟩) ∧ TxtU _ w.heap.size (fs.set q ⟨xn, xi, A3, c3, xt⟩) ∧ Ext w _) := Lib.hid ⟨by rw [List.length_set]; exact hfl, by rw [List.map_set, Hstep.out]; rfl, ho4, ht4, he4⟩
      clear hfl hfv hown htx hE ht3 ht4 ho4 hown3 ho3'
      go_wp2
      go_roundw
      case rel => exact ⟨j + 1, _, by omega, by go_num, HN⟩
      case measure => simp [intOf]; omega
    · obtain rfl : j = n2 := by omega
      clear hfl hfv hown htx hE
      go_wp2
      go_ret
      obtain ⟨hfl, hfv, hown, htx, hE⟩ := Hst.out
      rw [List.take_of_length_le (by rw [List.length_map, Hl2.out]; exact Nat.le_refl _)] at hfv
      exact ⟨fs, _, _, rfl, hfv, hown, htx, hE⟩

theorem applyE_zero {keys : Int} {cs : List Col} {xs : List Ci} {ts : List Si} (h : applyE keys cs xs ts = 0) : rowS keys cs xs = 0 ∧ setsS keys cs ts = 0 := by
  unfold applyE at h
  by_cases e0 : rowS keys cs xs = 0
  · rw [if_neg (fun q => q e0)] at h
    exact ⟨e0, h⟩
  · rw [if_pos e0] at h
    exact absurd h e0
theorem set_cols {keys : Int} {cs : List Col} {ts : List Si} (h : setsS keys cs ts = 0) (hk : 1 ≤ keys) : ∀ t ∈ ts, 0 ≤ t.col ∧ t.col < (cs.length : Int) := by
  intro t ht
  obtain ⟨_, _, h3⟩ := setsS_zero h
  obtain ⟨a1, a2, _⟩ := setW_all h3 t.val (List.mem_map.2 ⟨t, ht, rfl⟩)
  simp only [Si.val] at a1 a2
  omega

set_option maxHeartbeats 3200000 in
set_option maxRecDepth 100000 in
theorem refApply_any (A : Option Addr) (n c : Nat) (keys : Int) (cs : List Col) (A2 : Option Addr) (n2 c2 : Nat) (xs : List Ci) (A3 : Option Addr) (n3 c3 : Nat) (ts : List Si) (w : World) (hs : SchIn w A n c cs) (hx : RdX w A2 n2 xs) (ht : RdT w A3 n3 ts) (hn2 : n2 ≤ 4398046511104) (hn3 : n3 ≤ 140737488355328) :
    Calls Try.prog 27 #[.agg #[.slice A n c, .int .i64 keys], .slice A2 n2 c2, .slice A3 n3 c3] w (CellsPost (applyV keys cs xs ts) (applyE keys cs xs ts) w) := by
  have hE : Ext w (w.alloc (.cells #[.slice A n c, .int .i64 keys] 24)) := (Ext.refl w).alloc _
  have h1 := hs.ext hE
  have h2 := hx.ext hE
  have h3 := ht.ext hE
  have sb := AtS.box w A n c keys
  have hzr := rowS_zero (keys := keys) (cs := cs) (xs := xs)
  have hzs := set_cols (keys := keys) (cs := cs) (ts := ts)
  obtain ⟨R, hR⟩ : ∃ R, R = applyV keys cs xs ts := ⟨_, rfl⟩
  obtain ⟨F, hF⟩ : ∃ F, F = applyE keys cs xs ts := ⟨_, rfl⟩
  rw [← hR, ← hF]
  unfold applyV at hR
  rw [← hF] at hR
  unfold applyE at hF
  obtain ⟨E, hEe⟩ : ∃ E, E = rowS keys cs xs := ⟨_, rfl⟩
  rw [← hEe] at hF hzr
  have HE := Lib.hid hEe
  obtain ⟨D, hD⟩ : ∃ D, D = setsS keys cs ts := ⟨_, rfl⟩
  rw [← hD] at hF hzs
  have HD := Lib.hid hD
  clear hEe hD
  by_cases e0 : E = 0
  · rw [if_neg (fun q => q e0)] at hF
    subst hF
    obtain ⟨hs0, hxl, _⟩ := hzr e0
    have hinv := schE_inv hs0
    have hln := hs.rd.1
    have hl2 := hx.1
    have b1 : (E != 0) = false := by simp [e0]
    by_cases d0 : F = 0
    · rw [if_pos d0] at hR
      have hcols := hzs d0 hinv.2.2.1
      have hcl : (cs.length : Int) = (n2 : Int) := by rw [← hl2, hxl]
      rw [hcl] at hcols
      have hRl : R.length = n2 := by rw [hR, withV_len, List.length_map, hl2]
      have HRl := Lib.hid hRl
      have HR := Lib.hid hR
      have Hcols := Lib.hid hcols
      have Hd0 := Lib.hid d0
      have b2 : (F != 0) = false := by simp [d0]
      clear hR hRl hcols hcl hinv hs0 hxl hln hl2 e0 d0 hzr hzs
      go_enter Try.func27, Try.ntmps27
      go_wp2_with fail
      refine (refSrow_any A n c keys cs A2 n2 c2 xs _ h1 h2 (by omega)).mono ?_
      rintro e w1 ⟨rfl, he1⟩
      rw [← HE.out]
      obtain ⟨k0, k1, kz⟩ := sb.ext he1
      go_wp2_with fail
      refine (refSsets_any A n c keys cs A3 n3 c3 ts _ (h1.ext he1) (h3.ext he1) hn3).mono ?_
      rintro e w2 ⟨rfl, he2⟩
      rw [← HD.out]
      go_wp2_with fail
      refine (with_any A2 n2 c2 xs A3 n3 c3 ts _ ((h2.ext he1).ext he2) ((h3.ext he1).ext he2) hn2 hn3 Hcols.out).mono ?_
      rintro e w3 ⟨fs, A4, c4, rfl, hv4, ho4, ht4, he4⟩
      have hE4 := ((hE.trans he1).trans he2)
      go_wp2
      go_ret2
      exact ⟨fs, A4, c4, by rw [HRl.out, Hd0.out]; rfl, by rw [HR.out]; exact hv4, ho4.mono hE4.size, ht4.mono hE4.size, hE4.trans he4⟩
    · rw [if_neg d0] at hR
      subst hR
      have b2 : (F != 0) = true := by simp [d0]
      clear e0 d0 hzr hzs hs0 hxl hinv hln hl2
      go_enter Try.func27, Try.ntmps27
      go_wp2_with fail
      refine (refSrow_any A n c keys cs A2 n2 c2 xs _ h1 h2 (by omega)).mono ?_
      rintro e w1 ⟨rfl, he1⟩
      rw [← HE.out]
      obtain ⟨k0, k1, kz⟩ := sb.ext he1
      go_wp2_with fail
      refine (refSsets_any A n c keys cs A3 n3 c3 ts _ (h1.ext he1) (h3.ext he1) hn3).mono ?_
      rintro e w2 ⟨rfl, he2⟩
      rw [← HD.out]
      go_wp2
      go_ret2
      exact CellsPost.none ((hE.trans he1).trans he2)
  · rw [if_pos e0] at hF
    subst hF
    rw [if_neg e0] at hR
    subst hR
    have b1 : (F != 0) = true := by simp [e0]
    clear e0 hzr hzs
    go_enter Try.func27, Try.ntmps27
    go_wp2_with fail
    refine (refSrow_any A n c keys cs A2 n2 c2 xs _ h1 h2 (by omega)).mono ?_
    rintro e w1 ⟨rfl, he1⟩
    rw [← HE.out]
    go_wp2
    go_ret2
    exact CellsPost.none (hE.trans he1)

end Go.Proofs.Ytpjichclpnebjaa

-- part H32
/-
  Layer 6: a row with sets, the program's.
-/
namespace Go.Proofs.Ytpjichclpnebjaa
open Go.RowKit

theorem setsS_E {keys : Int} {cs : List Col} {ts : List Si} (h : schE keys cs = 0) : setsS keys cs ts = setsE keys cs ts := by
  unfold setsS
  rw [if_neg (fun q => q h)]

set_option maxHeartbeats 6400000 in
set_option maxRecDepth 100000 in
theorem sapply_any (A : Option Addr) (n c : Nat) (keys : Int) (cs : List Col) (A2 : Option Addr) (n2 c2 : Nat) (xs : List Ci) (A3 : Option Addr) (n3 c3 : Nat) (ts : List Si) (w : World) (hs : SchIn w A n c cs) (hx : RdX w A2 n2 xs) (ht : RdT w A3 n3 ts) (hn2 : n2 ≤ 4398046511104) (hn3 : n3 ≤ 140737488355328) :
    Calls Try.prog 26 #[.agg #[.slice A n c, .int .i64 keys], .slice A2 n2 c2, .slice A3 n3 c3] w (CellsPost (applyV keys cs xs ts) (applyE keys cs xs ts) w) := by
  have hE : Ext w (w.alloc (.cells #[.slice A n c, .int .i64 keys] 24)) := (Ext.refl w).alloc _
  have h1 := hs.ext hE
  have h2 := hx.ext hE
  have h3 := ht.ext hE
  have sb := AtS.box w A n c keys
  have hzr := rowS_zero (keys := keys) (cs := cs) (xs := xs)
  have hzs := set_cols (keys := keys) (cs := cs) (ts := ts)
  obtain ⟨R, hR⟩ : ∃ R, R = applyV keys cs xs ts := ⟨_, rfl⟩
  obtain ⟨F, hF⟩ : ∃ F, F = applyE keys cs xs ts := ⟨_, rfl⟩
  rw [← hR, ← hF]
  unfold applyV at hR
  rw [← hF] at hR
  unfold applyE at hF
  obtain ⟨E, hEe⟩ : ∃ E, E = rowS keys cs xs := ⟨_, rfl⟩
  rw [← hEe] at hF hzr
  have HE := Lib.hid hEe
  clear hEe
  by_cases e0 : E = 0
  · rw [if_neg (fun q => q e0)] at hF
    obtain ⟨hs0, hxl, _⟩ := hzr e0
    have hinv := schE_inv hs0
    have hln := hs.rd.1
    have hl2 := hx.1
    have hl3 := ht.1
    rw [← hF] at hzs
    rw [setsS_E hs0] at hF
    have HD := Lib.hid hF
    have b1 : (E != 0) = false := by simp [e0]
    have hk1 : 1 ≤ keys := hinv.2.2.1
    have hk3 : keys ≤ 3 := hinv.2.2.2.1
    clear hF
    by_cases d0 : F = 0
    · rw [if_pos d0] at hR
      have hcols := hzs d0 hk1
      have hcl : (cs.length : Int) = (n2 : Int) := by rw [← hl2, hxl]
      rw [hcl] at hcols
      have hRl : R.length = n2 := by rw [hR, withV_len, List.length_map, hl2]
      have HRl := Lib.hid hRl
      have HR := Lib.hid hR
      have Hl3 := Lib.hid hl3
      have Hcol := Lib.hid hcols
      have Hd0 := Lib.hid d0
      have b2 : (F != 0) = false := by simp [d0]
      clear hR hRl hcols hcl hinv hs0 hxl hln hl2 hl3 e0 d0 hzr hzs
      go_enter Try.func26, Try.ntmps26
      go_wp2_with fail
      refine (srow_any A n c keys cs A2 n2 c2 xs _ h1 h2 (by omega)).mono ?_
      rintro e w1 ⟨rfl, he1⟩
      rw [← HE.out]
      obtain ⟨k0, k1, kz⟩ := sb.ext he1
      go_wp2_with fail
      refine (checkSets_any A n c keys cs A3 n3 c3 ts _ (h1.ext he1) (h3.ext he1) hk1 hk3 hn3).mono ?_
      rintro e w2 ⟨rfl, he2⟩
      rw [← HD.out]
      have hE2 := (hE.trans he1).trans he2
      go_wp2_with fail
      refine (cloneRow_any A2 n2 c2 xs _ ((h2.ext he1).ext he2) hn2).mono ?_
      rintro e w3 ⟨fs0, g, rfl, hH0⟩
      have hv0 := hH0.val
      rw [List.take_of_length_le (Nat.le_of_eq hH0.len)] at hv0
      have hgb0 := (hH0.own.block _ rfl).1
      simp only at hgb0
      have hst : fs0.length = n2 ∧ fs0.map Ci.val = withV (xs.map Ci.val) ((ts.map Si.val).take 0) ∧ OwnX w3 w2.heap.size (some ⟨g, 0, none⟩) n2 fs0 ∧ TxtU w3 w2.heap.size fs0 ∧ Ext w2 w3 := ⟨hH0.len, hv0, hH0.own, hH0.txt, hH0.ext⟩
      have Hst0 := Lib.hid hst
      clear hH0 hv0 hst
      go_wp2_with fail
      go_loopw [29] (fun i wr => ∃ (j : Nat) (fs : List Ci), j ≤ n3 ∧ i = .int .i64 j ∧ Hid (fs.length = n2 ∧ fs.map Ci.val = withV (xs.map Ci.val) ((ts.map Si.val).take j) ∧ OwnX wr w2.heap.size (some ⟨g, 0, none⟩) n2 fs ∧ TxtU wr w2.heap.size fs ∧ Ext w2 wr)) (fun i _ => n3 - (intOf i).toNat)
      case atStart => exact ⟨0, fs0, Nat.zero_le _, rfl, Hst0⟩
      case round =>
        clear Hst0
        obtain ⟨j, fs, hj, rfl, Hst⟩ := hrel
        obtain ⟨hfl, hfv, hown, htx, hEr⟩ := Hst.out
        by_cases hlt : j < n3
        · obtain ⟨b2', o2, x, rfl, hb2, hx2, e9, e0, e1, e2, hin⟩ := (ht.ext (hE2.trans hEr)).at_ hlt
          have hxv : (ts.map Si.val)[j]? = some x.val := by rw [List.getElem?_map, hx2]; rfl
          obtain ⟨q1, q2⟩ := Hcol.out x (List.mem_of_getElem? hx2)
          have hstep := withV_step (vs := xs.map Ci.val) hxv
          rw [← hfv] at hstep
          obtain ⟨p, xn, xi, xA, xc, xt⟩ := x
          simp only [Si.val] at e9 e0 e1 e2 q1 q2 hstep
          obtain ⟨q, rfl⟩ := Int.eq_ofNat_of_zero_le q1
          rw [Int.toNat_natCast] at hstep
          have hqn : q < n2 := by omega
          obtain ⟨xr, xu, x0, x1, xl⟩ := hin
          simp only at xr xu x0 x1 xl
          obtain ⟨n4, hn4⟩ : ∃ n4, n4 = xt.length := ⟨_, rfl⟩
          rw [← hn4] at e2 xr xl
          have Hn4 := Lib.hid hn4
          have hqf : q < fs.length := by omega
          have hglt := (hown.block _ rfl).2
          simp only at hglt
          obtain ⟨W8, hW8⟩ : ∃ W8, W8 = wr.alloc (.cells #[.int .i64 (q : Int), .bool xn, .int .i64 xi, .slice xA n4 xc] 84) := ⟨_, rfl⟩
          have hX : Ext wr W8 := by rw [hW8]; exact (Ext.refl wr).alloc _
          have hA8 : W8.heap[wr.heap.size]? = some (.cells #[.int .i64 (q : Int), .bool xn, .int .i64 xi, .slice xA n4 xc] 84) := by rw [hW8]; exact heap_alloc_new wr _
          have HC : Hid (∀ W, Ext W8 W → Calls Try.prog 61 #[.agg #[.bool xn, .int .i64 xi, .slice xA n4 xc]] W fun e w' => ∃ A' c', e = .returned (.agg #[.bool xn, .int .i64 xi, .slice A' n4 c']) ∧ Own .u8 5 w' W.heap.size A' c' xt ∧ Ext W w') := Lib.hid (fun W hW => cloneCell_any xn xi xA n4 xc xt W ((xr.ext hX).ext hW) (by omega))
          have K : Hid (∀ w' : World, w'.heap[wr.heap.size]? = some (.cells #[.int .i64 (q : Int), .bool xn, .int .i64 xi, .slice xA n4 xc] 84) → w'.cell? ⟨wr.heap.size, 0, none⟩ = some (.int .i64 (q : Int)) ∧ w'.cell? ⟨wr.heap.size, 1, none⟩ = some (.bool xn) ∧ w'.cell? ⟨wr.heap.size, 2, none⟩ = some (.int .i64 xi) ∧ w'.cell? ⟨wr.heap.size, 3, none⟩ = some (.slice xA n4 xc)) := Lib.hid (fun w' hk =>
            ⟨cell_of_row w' wr.heap.size 0 _ _ (0, 0) hk, cell_of_row w' wr.heap.size 1 _ _ (0, 0) hk, cell_of_row w' wr.heap.size 2 _ _ (0, 0) hk, cell_of_row w' wr.heap.size 3 _ _ (0, 0) hk⟩)
          have K1 : Hid (∀ W : World, Ext W8 W → W.heap[wr.heap.size]? = some (.cells #[.int .i64 (q : Int), .bool xn, .int .i64 xi, .slice xA n4 xc] 84)) := Lib.hid (fun W hW => (hW.block _ (Array.getElem?_eq_some_iff.1 hA8).1).trans hA8)
          have K3 : Hid (∀ (W : World) (u v s : Value), Ext W8 W → (((W.setCell ⟨g, q * 3, none⟩ u).setCell ⟨g, q * 3 + 1, none⟩ v).setCell ⟨g, q * 3 + 2, none⟩ s).heap[wr.heap.size]? = some (.cells #[.int .i64 (q : Int), .bool xn, .int .i64 xi, .slice xA n4 xc] 84)) := Lib.hid (fun W u v s hW => by
            have hne : wr.heap.size ≠ g := by omega
            rw [heap_setCell_other _ _ _ _ hne, heap_setCell_other _ _ _ _ hne, heap_setCell_other _ _ _ _ hne]
            exact K1.out W hW)
          have HX : Hid (∀ W, Ext W8 W → OwnX W w2.heap.size (some ⟨g, 0, none⟩) n2 fs) := Lib.hid (fun W hW => (hown.ext hX).ext hW)
          have Hg : Hid (∀ g', some g = some g' → w2.heap.size ≤ g') := Lib.hid (fun g' h => by injection h with h; omega)
          have Hstep := Lib.hid hstep
          have i2 : (0 : Int) ≤ (q : Int) := by omega
          have i3 : (q : Int) < (n2 : Int) := by omega
          clear hfv hown htx hEr hx2 hxv hstep hn4 xr hfl q1 q2
          go_wp2_with fail
          rw [← hW8]
          have g8 := K.out _ (K1.out _ (Ext.refl W8))
          clear hW8 e9 e0 e1 e2
          go_region_held3 (fun w' => w'.cell? ⟨wr.heap.size, 0, none⟩ = some (.int .i64 (q : Int)) ∧ w'.cell? ⟨wr.heap.size, 1, none⟩ = some (.bool xn) ∧ w'.cell? ⟨wr.heap.size, 2, none⟩ = some (.int .i64 xi) ∧ w'.cell? ⟨wr.heap.size, 3, none⟩ = some (.slice xA n4 xc))
            (first | exact g8 | exact K.out _ (K3.out _ _ _ _ (by (repeat (first | exact Ext.refl _ | (with_reducible refine Ext.trans ?_ he5) | apply Ext.drew | apply Ext.alloc | fail)))) | (refine K.out _ (K1.out _ ?_); (repeat (first | exact Ext.refl _ | (with_reducible refine Ext.trans ?_ he5) | apply Ext.drew | apply Ext.alloc | fail))) | fail)
            (first
              | (go_at_call 61; (with_reducible refine (HC.out _ ?_).mono ?_); (focus ((repeat (first | exact Ext.refl _ | (with_reducible refine Ext.trans ?_ he5) | apply Ext.drew | apply Ext.alloc | fail)); done)); rintro e w5 ⟨A5, c5, rfl, hown5, he5⟩; obtain ⟨kc0, kc1, kc2, kf0, kf1, kf2⟩ := (HX.out w5 (by (repeat (first | exact Ext.refl _ | (with_reducible refine Ext.trans ?_ he5) | apply Ext.drew | apply Ext.alloc | fail)))).cells3 hqf)
              | fail)
          have he5' : Ext W8 w5 := by (repeat (first | exact Ext.refl _ | (with_reducible refine Ext.trans ?_ he5) | apply Ext.drew | apply Ext.alloc | fail))
          obtain ⟨hfl, hfv, hown, htx, hEr⟩ := Hst.out
          have hE5 := hX.trans he5'
          have ho5' : Own .u8 5 w5 wr.heap.size A5 c5 xt := hown5.mono (by have := hX.size; exact this)
          have ht5 : TxtU w5 w2.heap.size (fs.set q ⟨xn, xi, A5, c5, xt⟩) := TxtU.put (htx.ext hE5) ho5' hEr.size (fun y hy pp hp => ((htx.1 y hy).block pp hp).2) q
          obtain ⟨ho6, hg6⟩ := (hown.ext hE5).stored hqf ⟨xn, xi, A5, c5, xt⟩ (.slice A5 n4 c5) (by rw [Hn4.out])
          have he6 := grownBy_ext (hEr.trans hE5) hg6 Hg.out
          have ht6 : TxtU _ w2.heap.size (fs.set q ⟨xn, xi, A5, c5, xt⟩) := TxtU.grown ht5 (hown.ext hE5) (by simpa [Value.ownBlock] using hg6)
          have HN : Hid ((fs.set q ⟨xn, xi, A5, c5, xt⟩).length = n2 ∧ (fs.set q ⟨xn, xi, A5, c5, xt⟩).map Ci.val = withV (xs.map Ci.val) ((ts.map Si.val).take (j + 1)) ∧ OwnX _ w2.heap.size (some ⟨g, 0, none⟩) n2 (fs.set q ⟨xn, xi, A5, c5, xt⟩) ∧ TxtU _ w2.heap.size (fs.set q ⟨xn, xi, A5, c5, xt⟩) ∧ Ext w2 _) := Lib.hid ⟨by rw [List.length_set]; exact hfl, by rw [List.map_set, Hstep.out]; rfl, ho6, ht6, he6⟩
          clear hfl hfv hown htx hEr ht5 ht6 ho6 hown5 ho5'
          go_wp2
          go_roundw
          case rel => exact ⟨j + 1, _, by omega, by go_num, HN⟩
          case measure => simp [intOf]; omega
        · obtain rfl : j = n3 := by omega
          clear hfl hfv hown htx hEr
          go_wp2
          go_ret2
          obtain ⟨hfl, hfv, hown, htx, hEr⟩ := Hst.out
          rw [List.take_of_length_le (by rw [List.length_map, Hl3.out]; exact Nat.le_refl _), ← HR.out] at hfv
          exact ⟨fs, _, _, by rw [HRl.out, Hd0.out]; rfl, hfv, hown.mono hE2.size, htx.mono hE2.size, hE2.trans hEr⟩
    · rw [if_neg d0] at hR
      subst hR
      have b2 : (F != 0) = true := by simp [d0]
      clear e0 d0 hzr hzs hs0 hxl hinv hln hl2 hl3
      go_enter Try.func26, Try.ntmps26
      go_wp2_with fail
      refine (srow_any A n c keys cs A2 n2 c2 xs _ h1 h2 (by omega)).mono ?_
      rintro e w1 ⟨rfl, he1⟩
      rw [← HE.out]
      obtain ⟨k0, k1, kz⟩ := sb.ext he1
      go_wp2_with fail
      refine (checkSets_any A n c keys cs A3 n3 c3 ts _ (h1.ext he1) (h3.ext he1) hk1 hk3 hn3).mono ?_
      rintro e w2 ⟨rfl, he2⟩
      rw [← HD.out]
      go_wp2
      go_ret2
      exact CellsPost.none ((hE.trans he1).trans he2)
  · rw [if_pos e0] at hF
    subst hF
    rw [if_neg e0] at hR
    subst hR
    have b1 : (F != 0) = true := by simp [e0]
    clear e0 hzr hzs
    go_enter Try.func26, Try.ntmps26
    go_wp2_with fail
    refine (srow_any A n c keys cs A2 n2 c2 xs _ h1 h2 (by omega)).mono ?_
    rintro e w1 ⟨rfl, he1⟩
    rw [← HE.out]
    go_wp2
    go_ret2
    exact CellsPost.none (hE.trans he1)

end Go.Proofs.Ytpjichclpnebjaa

-- part H33
/-
  Layer 6: a row's cells of some columns, the document's and the program's.
-/
namespace Go.Proofs.Ytpjichclpnebjaa
open Go.RowKit

/-- The slice of numbers (A, n) reads, in w, as xs. -/
def RdI (w : World) (A : Option Addr) (n : Nat) (xs : List Int) : Prop :=
  xs.length = n ∧ (0 < n → ∃ b o, A = some ⟨b, o, none⟩ ∧ b < w.heap.size ∧ ∀ j x, xs[j]? = some x → w.cell? ⟨b, o + j, none⟩ = some (.int .i64 x))
theorem RdI.ext {w w' : World} {A : Option Addr} {n : Nat} {xs : List Int} (h : RdI w A n xs) (hb : Ext w w') : RdI w' A n xs :=
  ⟨h.1, fun hn => by
    obtain ⟨b, o, e, hlt, hc⟩ := h.2 hn
    exact ⟨b, o, e, Nat.lt_of_lt_of_le hlt hb.size, fun j x hj => (hb.cells b _ hlt).trans (hc j x hj)⟩⟩
theorem RdI.at_ {w : World} {A : Option Addr} {n : Nat} {xs : List Int} (h : RdI w A n xs) {j : Nat} (hj : j < n) :
    ∃ b o x, A = some ⟨b, o, none⟩ ∧ b < w.heap.size ∧ xs[j]? = some x ∧ w.cell? ⟨b, o + j, none⟩ = some (.int .i64 x) := by
  obtain ⟨b, o, e, hlt, hc⟩ := h.2 (by omega)
  have hjl : j < xs.length := by rw [h.1]; exact hj
  have hf : xs[j]? = some xs[j] := List.getElem?_eq_getElem hjl
  exact ⟨b, o, _, e, hlt, hf, hc j _ hf⟩

/-- The first error of columns. -/
def projF (n : Int) : List Int → Int
  | [] => 0
  | c :: r => if c < 0 ∨ n ≤ c then 61 else projF n r
theorem projF_at {n : Int} {ps : List Int} {j : Nat} {p : Int} (h : ps[j]? = some p) : projF n (ps.drop j) = if p < 0 ∨ n ≤ p then 61 else projF n (ps.drop (j + 1)) := by
  obtain ⟨h1, rfl⟩ := List.getElem?_eq_some_iff.1 h
  rw [List.drop_eq_getElem_cons h1]
  rfl
theorem projF_end {n : Int} {ps : List Int} {j : Nat} (h : ps.length ≤ j) : projF n (ps.drop j) = 0 := by
  rw [List.drop_of_length_le h]; rfl
theorem projF_all {n : Int} : ∀ {ps : List Int}, projF n ps = 0 → ∀ p ∈ ps, 0 ≤ p ∧ p < n
  | [], _, p, hp => by cases hp
  | c :: r, h, p, hp => by
    rw [projF] at h
    by_cases q : c < 0 ∨ n ≤ c
    · rw [if_pos q] at h; exact absurd h (by decide)
    · rw [if_neg q] at h
      rcases List.mem_cons.1 hp with rfl | hp
      · omega
      · exact projF_all h p hp
def pick (vs : List CV) (p : Int) : CV := vs.getD p.toNat (false, 0, [])
def projE (keys : Int) (cs : List Col) (xs : List Ci) (ps : List Int) : Int := if rowS keys cs xs ≠ 0 then rowS keys cs xs else projF (xs.length : Int) ps
def projV (keys : Int) (cs : List Col) (xs : List Ci) (ps : List Int) : List CV := if projE keys cs xs ps = 0 then ps.map (pick (xs.map Ci.val)) else []
theorem pick_at {xs : List Ci} {q : Nat} {x : Ci} (h : xs[q]? = some x) : pick (xs.map Ci.val) (q : Int) = x.val := by
  unfold pick
  rw [Int.toNat_natCast, List.getD, List.getElem?_map, h]
  rfl

set_option maxHeartbeats 6400000 in
set_option maxRecDepth 100000 in
theorem refProject_any (A : Option Addr) (n c : Nat) (keys : Int) (cs : List Col) (A2 : Option Addr) (n2 c2 : Nat) (xs : List Ci) (A3 : Option Addr) (n3 c3 : Nat) (ps : List Int) (w : World) (hs : SchIn w A n c cs) (hx : RdX w A2 n2 xs) (ht : RdI w A3 n3 ps) (hn2 : n2 ≤ 4398046511104) (hn3 : n3 ≤ 1048576) :
    Calls Try.prog 33 #[.agg #[.slice A n c, .int .i64 keys], .slice A2 n2 c2, .slice A3 n3 c3] w (CellsPost (projV keys cs xs ps) (projE keys cs xs ps) w) := by
  have hE : Ext w (w.alloc (.cells #[.slice A n c, .int .i64 keys] 24)) := (Ext.refl w).alloc _
  have h1 := hs.ext hE
  have h2 := hx.ext hE
  have hall := projF_all (n := (xs.length : Int)) (ps := ps)
  obtain ⟨R, hR⟩ : ∃ R, R = projV keys cs xs ps := ⟨_, rfl⟩
  obtain ⟨F, hF⟩ : ∃ F, F = projE keys cs xs ps := ⟨_, rfl⟩
  rw [← hR, ← hF]
  unfold projV at hR
  rw [← hF] at hR
  unfold projE at hF
  rw [hx.1] at hF hall
  obtain ⟨E, hEe⟩ : ∃ E, E = rowS keys cs xs := ⟨_, rfl⟩
  rw [← hEe] at hF
  have HE := Lib.hid hEe
  have Hl2 := Lib.hid hx.1
  have Hl3 := Lib.hid ht.1
  clear hEe
  by_cases e0 : E = 0
  · rw [if_neg (fun q => q e0)] at hF
    have b1 : (E != 0) = false := by simp [e0]
    have HF := Lib.hid hF
    have HR := Lib.hid hR
    clear e0 hall hF hR
    go_enter Try.func33, Try.ntmps33
    go_wp2_with fail
    refine (refSrow_any A n c keys cs A2 n2 c2 xs _ h1 h2 (by omega)).mono ?_
    rintro e w1 ⟨rfl, he1⟩
    rw [← HE.out]
    have hE1 := hE.trans he1
    go_wp2_with fail
    go_loopw [9, 10] (fun v i wr => ∃ (j : Nat) (A' : Option Addr) (c' : Nat) (fs : List Ci), j ≤ n3 ∧ i = .int .i64 j ∧ v = .slice A' j c' ∧ fs.length = j ∧ OwnX wr w1.heap.size A' c' fs ∧ TxtX wr w1.heap.size fs ∧ Ext w1 wr ∧ Hid (F = projF (n2 : Int) (ps.drop j) ∧ fs.map Ci.val = (ps.take j).map (pick (xs.map Ci.val)))) (fun _ i _ => n3 - (intOf i).toNat)
    case atStart => exact ⟨0, _, _, [], Nat.zero_le _, rfl, rfl, rfl, OwnX.made _ (Nat.le_refl _), TxtX.nil _ _, (Ext.refl w1).alloc _, Lib.hid (show _ ∧ _ from ⟨HF.out, rfl⟩)⟩
    case round =>
      obtain ⟨j, A', c', fs, hj, rfl, rfl, hfl, hown, htx, hb, HS⟩ := hrel
      have hz := hb.size
      have Hfl := Lib.hid hfl
      have Hown := Lib.hid hown
      have Htx := Lib.hid htx
      by_cases hlt : j < n3
      · obtain ⟨b3, o3, p, rfl, hb3, hp, d0⟩ := (ht.ext (hE1.trans hb)).at_ hlt
        have hstep := HS.out.1.trans (projF_at hp)
        have i0 : (0 : Int) ≤ (j : Int) := by omega
        have i1 : (j : Int) < (n3 : Int) := by omega
        by_cases hbad : p < 0 ∨ (n2 : Int) ≤ p
        · rw [if_pos hbad] at hstep
          have hR := HR.out
          rw [hstep, if_neg (by decide)] at hR
          have HN := Lib.hid hstep
          have HRN := Lib.hid hR
          have key : decide (p < 0) = true ∨ (decide (p < 0) = false ∧ decide ((n2 : Int) ≤ p) = true) := by
            simp only [decide_eq_true_eq, decide_eq_false_iff_not]; omega
          clear hstep hR hbad hown htx hfl hp
          rcases key with q1 | ⟨q1, q2⟩
          all_goals
            go_wp2
            go_ret2
            rw [HRN.out, HN.out]
            exact CellsPost.none (hE1.trans hb)
        · rw [if_neg hbad] at hstep
          obtain ⟨q, rfl⟩ := Int.eq_ofNat_of_zero_le (show 0 ≤ p by omega)
          have hqn : q < n2 := by omega
          obtain ⟨b, o, x, rfl, hbl, hx2, e0, e1, e2, hin⟩ := (hx.ext (hE1.trans hb)).at_ hqn
          have hnx : (ps.take (j + 1)).map (pick (xs.map Ci.val)) = (ps.take j).map (pick (xs.map Ci.val)) ++ [x.val] := by
            rw [List.take_add_one, hp, List.map_append, ← pick_at hx2]
            rfl
          obtain ⟨xn, xi, xA, xc, xt⟩ := x
          simp only at e0 e1 e2
          obtain ⟨xr, xu, x0, x1, xl⟩ := hin
          simp only at xr xu x0 x1 xl
          obtain ⟨n4, hn4⟩ : ∃ n4, n4 = xt.length := ⟨_, rfl⟩
          rw [← hn4] at e2 xr xl
          have Hn4 := Lib.hid hn4
          have Hnx := Lib.hid hnx
          have HN := Lib.hid hstep
          have q1 : decide ((q : Int) < 0) = false := decide_eq_false (by omega)
          have q2 : decide ((n2 : Int) ≤ (q : Int)) = false := decide_eq_false (by omega)
          have q2' : decide (n2 ≤ q) = false := decide_eq_false (by omega)
          have i2 : (0 : Int) ≤ (q : Int) := by omega
          have i3 : (q : Int) < (n2 : Int) := by omega
          clear hstep hbad hown htx hfl hp hn4 hnx hx2
          go_wp2_with fail
          refine (twin_any xn xi xA n4 xc xt _ xr (by omega)).mono ?_
          rintro e w3 ⟨A3, c3, rfl, hown3, he3⟩
          have hX : Ext w3 (w3.alloc (.cells #[.bool xn, .int .i64 xi, .slice A3 n4 c3] 82)) := (Ext.refl w3).alloc _
          have hE4 := he3.trans hX
          have ho4 := Hown.out.ext hE4
          have hz4 := hE4.size
          go_wp2_with (at_builtin; refine wpList_pushX (w0 := w1) ⟨xn, xi, A3, c3, xt⟩ rfl _ _ rfl ho4 j Hfl.out rfl rfl (by rw [← Hn4.out]; exact heap_alloc_new w3 _) (by omega) (hb.trans hE4) (Nat.le_trans hz hz4) ?_; intro A5 c5 w5 hown5 hgr hb5 hz5)
          have hlow : ∀ g ∈ fs, ∀ q, g.A = some q → q.block < wr.heap.size := fun g hg q hq => ((Htx.out.1 g hg).block q hq).2
          have htx5 : TxtX w5 w1.heap.size (fs ++ [⟨xn, xi, A3, c3, xt⟩]) := TxtX.grown (base' := w1.heap.size) (TxtX.snoc (Htx.out.ext hE4) (hown3.ext hX) hz hlow) ho4 hgr
          have HS2 : Hid (F = projF (n2 : Int) (ps.drop (j + 1)) ∧ (fs ++ [(⟨xn, xi, A3, c3, xt⟩ : Ci)]).map Ci.val = (ps.take (j + 1)).map (pick (xs.map Ci.val))) := Lib.hid (And.intro HN.out (by rw [List.map_append, HS.out.2, Hnx.out]; rfl))
          go_roundw
          case rel => exact ⟨j + 1, A5, c5, _, by omega, by go_num, rfl, by simp [Hfl.out], hown5, htx5, hb5, HS2⟩
          case measure => simp [intOf]; omega
      · obtain rfl : j = n3 := by omega
        obtain ⟨hs1, hs2⟩ := HS.out
        rw [projF_end (Nat.le_of_eq Hl3.out)] at hs1
        rw [List.take_of_length_le (Nat.le_of_eq Hl3.out)] at hs2
        have hR := HR.out
        rw [if_pos hs1, ← hs2] at hR
        have HN := Lib.hid hs1
        have HRN := Lib.hid hR
        clear hown htx hfl hs1 hs2 hR
        go_wp2
        go_ret2
        exact ⟨fs, A', c', by rw [HRN.out, HN.out, List.length_map, Hfl.out]; rfl, HRN.out.symm, Hown.out.mono hE1.size, (Htx.out.toU).mono hE1.size, hE1.trans hb⟩
  · rw [if_pos e0] at hF
    subst hF
    rw [if_neg e0] at hR
    subst hR
    have b1 : (F != 0) = true := by simp [e0]
    clear e0 hall
    go_enter Try.func33, Try.ntmps33
    go_wp2_with fail
    refine (refSrow_any A n c keys cs A2 n2 c2 xs _ h1 h2 (by omega)).mono ?_
    rintro e w1 ⟨rfl, he1⟩
    rw [← HE.out]
    go_wp2
    go_ret2
    exact CellsPost.none (hE.trans he1)

set_option maxHeartbeats 6400000 in
set_option maxRecDepth 100000 in
theorem sproject_any (A : Option Addr) (n c : Nat) (keys : Int) (cs : List Col) (A2 : Option Addr) (n2 c2 : Nat) (xs : List Ci) (A3 : Option Addr) (n3 c3 : Nat) (ps : List Int) (w : World) (hs : SchIn w A n c cs) (hx : RdX w A2 n2 xs) (ht : RdI w A3 n3 ps) (hn2 : n2 ≤ 4398046511104) (hn3 : n3 ≤ 1048576) :
    Calls Try.prog 32 #[.agg #[.slice A n c, .int .i64 keys], .slice A2 n2 c2, .slice A3 n3 c3] w (CellsPost (projV keys cs xs ps) (projE keys cs xs ps) w) := by
  have hE : Ext w (w.alloc (.cells #[.slice A n c, .int .i64 keys] 24)) := (Ext.refl w).alloc _
  have h1 := hs.ext hE
  have h2 := hx.ext hE
  have hall := projF_all (n := (xs.length : Int)) (ps := ps)
  obtain ⟨R, hR⟩ : ∃ R, R = projV keys cs xs ps := ⟨_, rfl⟩
  obtain ⟨F, hF⟩ : ∃ F, F = projE keys cs xs ps := ⟨_, rfl⟩
  rw [← hR, ← hF]
  unfold projV at hR
  rw [← hF] at hR
  unfold projE at hF
  rw [hx.1] at hF hall
  obtain ⟨E, hEe⟩ : ∃ E, E = rowS keys cs xs := ⟨_, rfl⟩
  rw [← hEe] at hF
  have HE := Lib.hid hEe
  have Hl2 := Lib.hid hx.1
  have Hl3 := Lib.hid ht.1
  clear hEe
  by_cases e0 : E = 0
  · rw [if_neg (fun q => q e0)] at hF
    have b1 : (E != 0) = false := by simp [e0]
    have Hall := Lib.hid hall
    have HF := Lib.hid hF
    have HR := Lib.hid hR
    clear e0 hall hF hR
    go_enter Try.func32, Try.ntmps32
    go_wp2_with fail
    refine (srow_any A n c keys cs A2 n2 c2 xs _ h1 h2 (by omega)).mono ?_
    rintro e w1 ⟨rfl, he1⟩
    rw [← HE.out]
    have hE1 := hE.trans he1
    have htw := ht.ext hE1
    go_wp2_with fail
    go_loop [22] (fun i => ∃ j : Nat, j ≤ n3 ∧ i = .int .i64 j ∧ Hid (F = projF (n2 : Int) (ps.drop j))) (fun i => n3 - (intOf i).toNat)
    case atStart => exact ⟨0, Nat.zero_le _, rfl, HF.out⟩
    case round =>
      obtain ⟨j, hj, rfl, HS⟩ := hrel
      by_cases hlt : j < n3
      · obtain ⟨b3, o3, p, rfl, hb3, hp, d0⟩ := htw.at_ hlt
        have hstep := HS.out.trans (projF_at hp)
        have i0 : (0 : Int) ≤ (j : Int) := by omega
        have i1 : (j : Int) < (n3 : Int) := by omega
        by_cases hbad : p < 0 ∨ (n2 : Int) ≤ p
        · rw [if_pos hbad] at hstep
          have hR := HR.out
          rw [hstep, if_neg (by decide)] at hR
          have HN := Lib.hid hstep
          have HRN := Lib.hid hR
          have key : decide (p < 0) = true ∨ (decide (p < 0) = false ∧ decide ((n2 : Int) ≤ p) = true) := by
            simp only [decide_eq_true_eq, decide_eq_false_iff_not]; omega
          clear hstep hR hbad hp
          rcases key with q1 | ⟨q1, q2⟩
          all_goals
            go_wp2
            go_ret2
            rw [HRN.out, HN.out]
            exact CellsPost.none hE1
        · rw [if_neg hbad] at hstep
          obtain ⟨q, rfl⟩ := Int.eq_ofNat_of_zero_le (show 0 ≤ p by omega)
          have HN := Lib.hid hstep
          have q1 : decide ((q : Int) < 0) = false := decide_eq_false (by omega)
          have q2 : decide ((n2 : Int) ≤ (q : Int)) = false := decide_eq_false (by omega)
          have q2' : decide (n2 ≤ q) = false := decide_eq_false (by omega)
          clear hstep hbad hp
          go_wp2
          go_round
          case rel => exact ⟨j + 1, by omega, by go_num, HN.out⟩
          case measure => simp [intOf]; omega
      · obtain rfl : j = n3 := by omega
        have hF0 := HS.out.trans (projF_end (Nat.le_of_eq Hl3.out))
        have hR := HR.out
        rw [if_pos hF0] at hR
        have hall := Hall.out (HF.out.symm.trans hF0)
        have HA := Lib.hid hall
        have HN := Lib.hid hF0
        have HRN := Lib.hid hR
        clear hall hF0 hR
        go_wp2_with (refine wpList_mkX rfl (.tmp 36) (.tmp 36) rfl .i64 .i64 j rfl rfl rfl rfl (by omega) ?_; intro w2 hown2 he2)
        go_loopw [40] (fun i wr => ∃ (k : Nat) (fs : List Ci), k ≤ j ∧ i = .int .i64 k ∧ Half w1 wr w1.heap.size w1.heap.size j k fs ((ps.take k).map (pick (xs.map Ci.val)))) (fun i _ => j - (intOf i).toNat)
        case atStart => exact ⟨0, List.replicate j Ci.none, Nat.zero_le _, rfl, ⟨by simp, rfl, hown2, TxtU.nones _ _ _, he2, Nat.le_refl _, he2.size⟩⟩
        case round =>
          clear hown2 he2
          obtain ⟨k, fs, hk, rfl, hH⟩ := hrel
          have HH := Lib.hid hH
          have hEw := hE1.trans hH.ext
          by_cases hlt : k < j
          · obtain ⟨b3, o3, p, rfl, hb3, hp, d0⟩ := (ht.ext hEw).at_ hlt
            obtain ⟨p0, p1⟩ := HA.out p (List.mem_of_getElem? hp)
            obtain ⟨q, rfl⟩ := Int.eq_ofNat_of_zero_le p0
            have hqn : q < n2 := by omega
            obtain ⟨b, o, x, rfl, hbl, hx2, e0, e1, e2, hin⟩ := (hx.ext hEw).at_ hqn
            have hnx : (ps.take (k + 1)).map (pick (xs.map Ci.val)) = (ps.take k).map (pick (xs.map Ci.val)) ++ [x.val] := by
              rw [List.take_add_one, hp, List.map_append, ← pick_at hx2]
              rfl
            obtain ⟨xn, xi, xA, xc, xt⟩ := x
            simp only at e0 e1 e2
            obtain ⟨xr, xu, x0, x1, xl⟩ := hin
            simp only at xr xu x0 x1 xl
            obtain ⟨n4, hn4⟩ : ∃ n4, n4 = xt.length := ⟨_, rfl⟩
            rw [← hn4] at e2 xr xl
            have Hn4 := Lib.hid hn4
            have Hnx := Lib.hid hnx
            have i0 : (0 : Int) ≤ (k : Int) := by omega
            have i1 : (k : Int) < (j : Int) := by omega
            have i2 : (0 : Int) ≤ (q : Int) := by omega
            have i3 : (q : Int) < (n2 : Int) := by omega
            have hbg := (hH.own.block _ rfl).2
            simp only at hbg
            clear hnx hp hn4 hH hx2
            go_wp2_with fail
            refine (cloneCell_any xn xi xA n4 xc xt _ xr (by omega)).mono ?_
            rintro e w3 ⟨A3, c3, rfl, hown3, he3⟩
            have ho3 := HH.out.own.ext he3
            have hkl : k < fs.length := by rw [HH.out.len]; exact hlt
            go_wp2_with (refine wpList_storeX ⟨xn, xi, A3, c3, xt⟩ rfl (.tmp 52) (.tmp 51) rfl ho3 hkl rfl (by omega) rfl (by show _ = Value.agg #[.bool xn, .int .i64 xi, .slice A3 xt.length c3]; rw [← Hn4.out]; rfl) ?_; intro w4 ho4 hg4)
            have hN := HH.out.put (f := ⟨xn, xi, A3, c3, xt⟩) hlt he3 hown3 (Nat.le_refl _) ho4 hg4
            go_roundw
            case rel => exact ⟨k + 1, _, by omega, by go_num, by rw [Hnx.out]; exact hN⟩
            case measure => simp [intOf]; omega
          · obtain rfl : k = j := by omega
            rw [List.take_of_length_le (Nat.le_of_eq Hl3.out)] at HH
            have hfl := HH.out.len
            have hfv := HH.out.val
            rw [List.take_of_length_le (Nat.le_of_eq hfl), ← HRN.out] at hfv
            have hRl : R.length = k := by rw [← hfv, List.length_map, hfl]
            have HV := Lib.hid hfv
            have HRl := Lib.hid hRl
            clear hH hfl hfv hRl
            go_wp2
            go_ret2
            exact ⟨fs, _, _, by rw [HRl.out, HN.out]; rfl, HV.out, HH.out.own.mono hE1.size, HH.out.txt.mono hE1.size, hE1.trans HH.out.ext⟩
  · rw [if_pos e0] at hF
    subst hF
    rw [if_neg e0] at hR
    subst hR
    have b1 : (F != 0) = true := by simp [e0]
    clear e0 hall
    go_enter Try.func32, Try.ntmps32
    go_wp2_with fail
    refine (srow_any A n c keys cs A2 n2 c2 xs _ h1 h2 (by omega)).mono ?_
    rintro e w1 ⟨rfl, he1⟩
    rw [← HE.out]
    go_wp2
    go_ret2
    exact CellsPost.none (hE.trans he1)

end Go.Proofs.Ytpjichclpnebjaa
