import Derived.Test.YthibbgmicmfkfaaGreatGX22
namespace Go.Proofs.YthibbgmicmfkfaaGreat
open Go.RowKit
set_option maxRecDepth 100000
theorem OpnPost.some {bs : List Nat} {f : FlM} {w : World} {e : Ending} {w' : World} (h : OpnPost bs w e w') (ho : openR bs = some f) : ∃ g, e = .returned (.tuple #[.pointer (some ⟨g, 0, none⟩), .int .i64 0]) ∧ FilOwn w' w.heap.size g f ∧ Ext w w' := by
  obtain ⟨he, h⟩ := h
  rcases h with ⟨h1, _⟩ | ⟨f', g, h1, h2, h3⟩
  · rw [ho] at h1; cases h1
  · rw [ho] at h1
    injection h1 with h1
    subst h1
    exact ⟨g, h2, h3, he⟩
set_option maxHeartbeats 6400000 in
theorem alive15 (w : World) : Calls Tryz.prog 16 #[] w fun e w' => e = .returned (.bool true) ∧ Ext w w' := by
  have kc := conv_const
  have hE : ∀ (W : World) o, Ext W (W.alloc o) := fun W o => (Ext.refl W).alloc o
  have hX := RdX.lit w [e7, e7, e9] (fun x hx => by
    simp at hx
    rcases hx with rfl | rfl
    · exact e7_in _
    · exact ⟨Rd.nil .., (by intro x hx; cases hx), by decide, by decide, by decide⟩)
  have hB := pbuild_any 1 2 (some ⟨w.heap.size, 0, none⟩) 3 3 [e7, e7, e9] _ hX (fun x hx => by
    simp at hx
    rcases hx with rfl | rfl
    · exact ⟨by decide, by decide⟩
    · exact ⟨by decide, by decide⟩) (by decide) (by decide)
  unfold PEncPost at hB
  rw [ex15_b] at hB
  simp only [ex15_bl] at hB
  have HB := Lib.hid hB
  clear hX hB
  go_enter Tryz.func16, Tryz.ntmps16
  go_wp2_with fail
  refine HB.out.mono ?_
  rintro e w1 ⟨A1, c1, rfl, ho1, he1⟩
  have hE1 : Ext w w1 := (hE _ _).trans he1
  have hcp := ho1.cap
  rw [ex15_bl] at hcp
  have hO := Lib.hid (openC_any A1 45 c1 B15 w1 (ho1.rd' ex15_bl) ex15_bu ho1.shape (by decide) hcp.1 hcp.2)
  clear HB he1
  go_wp2_with fail
  refine hO.out.mono ?_
  intro e w2 hp
  obtain ⟨g, rfl, hf, he2⟩ := hp.some ex15_bo
  have HF := Lib.hid hf.rd
  have hE2 := hE1.trans he2
  have hgw := hf.lo
  clear hO ho1 hcp he2 hE1 hp hf
  go_wp2_with fail
  have HKR := Lib.hid (show keysR 2 [⟨some ⟨w2.heap.size, 0, none⟩, 1, [97]⟩, ⟨some ⟨w2.heap.size + 1, 0, none⟩, 1, [99]⟩, ⟨some ⟨w2.heap.size + 1 + 1, 0, none⟩, 1, [101]⟩] = (K15, 0) from (keysR_val (show bodies [⟨some ⟨w2.heap.size, 0, none⟩, 1, [97]⟩, ⟨some ⟨w2.heap.size + 1, 0, none⟩, 1, [99]⟩, ⟨some ⟨w2.heap.size + 1 + 1, 0, none⟩, 1, [101]⟩] = bodies [⟨none, 1, [97]⟩, ⟨none, 1, [99]⟩, ⟨none, 1, [101]⟩] from rfl) 2).trans ex15_k)
  refine (pkeys_any 2 _ 3 3 [⟨some ⟨w2.heap.size, 0, none⟩, 1, [97]⟩, ⟨some ⟨w2.heap.size + 1, 0, none⟩, 1, [99]⟩, ⟨some ⟨w2.heap.size + 1 + 1, 0, none⟩, 1, [101]⟩] _ ?_ (by decide) ?_).mono ?_
  · refine ⟨RdL.of_block (e := 22) (heap_at (by simp)) rfl, ?_⟩
    intro s hs
    simp only [List.mem_cons, List.not_mem_nil, or_false] at hs
    rcases hs with rfl | rfl | rfl
    · exact TxI.of ((((Rd.mark_at .u8 5 (1, 2) _ [97] (by simp) rfl).ext (hE _ _)).ext (hE _ _)).ext (hE _ _)) (by decide) (by decide) (by decide) (by decide)
    · exact TxI.of (((Rd.mark_at .u8 5 (1, 2) _ [99] (by simp) rfl).ext (hE _ _)).ext (hE _ _)) (by decide) (by decide) (by decide) (by decide)
    · exact TxI.of ((Rd.mark_at .u8 5 (1, 2) _ [101] (by simp) rfl).ext (hE _ _)) (by decide) (by decide) (by decide) (by decide)
  · intro s hs
    simp only [List.mem_cons, List.not_mem_nil, or_false] at hs
    rcases hs with rfl | rfl | rfl <;> (show (1 : Nat) ≤ 140737488351232; decide)
  intro e w3 hp
  unfold PEncPost at hp
  rw [HKR.out] at hp
  obtain ⟨A3, c3, rfl, ho3, he3⟩ := hp
  have hE23 : Ext w2 w3 := ((((hE _ _).trans (hE _ _)).trans (hE _ _)).trans (hE _ _)).trans he3
  simp only [ex15_kl]
  have HF3 := Lib.hid (HF.out.ext hE23)
  have hE3 := hE2.trans hE23
  have hcp := ho3.cap
  rw [ex15_kl] at hcp
  have hO := Lib.hid (openC_any A3 52 c3 K15 w3 (ho3.rd' ex15_kl) ex15_ku ho3.shape (by decide) hcp.1 hcp.2)
  clear HKR he3 HF hE2 hE23
  go_wp2_with fail
  refine hO.out.mono ?_
  intro e w4 hp
  obtain ⟨g2, rfl, hf2, he4⟩ := hp.some ex15_ko
  have HF4 := Lib.hid (HF3.out.ext he4)
  have HK4 := Lib.hid hf2.rd
  have hE4 := hE3.trans he4
  clear hO ho3 hcp he4 hE3 hp hf2 HF3
  obtain ⟨Ab, cb, Af, cf, bs, fs, hFb, _⟩ := HF4.out.ex
  obtain ⟨Ab2, cb2, Af2, cf2, bs2, fs2, hFk, _⟩ := HK4.out.ex
  have HFb := Lib.hid hFb
  have HFk := Lib.hid hFk
  have r1 := Lib.hid (rowsC_any g _ _ _ _ Ab _ cb _ w4 hFb)
  have r2 := Lib.hid (blocksC_any g _ _ _ _ Ab _ cb _ w4 hFb)
  have r3 := Lib.hid (kindC_any g _ _ _ _ Ab _ cb _ w4 hFb)
  have r4 := Lib.hid (keysC_any g _ _ _ _ Ab _ cb _ w4 hFb)
  have r5 := Lib.hid (keysC_any g2 _ _ _ _ Ab2 _ cb2 _ w4 hFk)
  clear hFb hFk
  go_wp2_with (first
    | (refine r1.out.mono ?_; rintro e w5 ⟨rfl, rfl⟩)
    | (refine r2.out.mono ?_; rintro e w5 ⟨rfl, rfl⟩)
    | (refine r3.out.mono ?_; rintro e w5 ⟨rfl, rfl⟩)
    | (refine r4.out.mono ?_; rintro e w5 ⟨rfl, rfl⟩)
    | (refine r5.out.mono ?_; rintro e w5 ⟨rfl, rfl⟩)
    | fail)
  refine (readC_any g fB15 1 2 w4 HF4.out (openR_ok ex15_bu ex15_bo) (by decide) (by decide) (by decide)).mono ?_
  intro e w5 hp
  unfold GcPost at hp
  rw [ex15_r] at hp
  obtain ⟨rs, A5, c5, rfl, hv5, ho5, ht5, he5⟩ := hp
  have hl5 : rs.length = 2 := by have := congrArg List.length hv5; simpa using this
  have hrx := ans_rdX hv5 hl5 (fun v hv => by
    simp at hv
    rcases hv with rfl | rfl
    all_goals exact ⟨(by intro x hx; cases hx), by decide, by decide, by decide⟩) ho5 (fun f hf => (ht5.1 f hf).rd)
  obtain ⟨b5, o5, hA5, hb5, hcl⟩ := hrx.at (by decide)
  subst hA5
  have hf1 : rs[1]? = some rs[1] := List.getElem?_eq_getElem (by omega)
  have hv1 : rs[1].val = (false, 9, []) := by
    have h1 : (rs.map Ci.val)[1]? = some (false, 9, []) := by rw [hv5]; rfl
    rw [List.getElem?_map, hf1] at h1
    simpa using h1
  have k1 := (hcl 1 _ hf1).2
  have e1 : rs[1].num = 9 := congrArg (fun v : Cv => v.2.1) hv1
  rw [e1] at k1
  simp only [Nat.one_mul] at k1
  have Hk1 := Lib.hid k1
  have Hb5 := Lib.hid hb5
  have HK5 := Lib.hid (HK4.out.ext he5)
  have hE5 := hE4.trans he5
  simp only [List.length_cons, List.length_nil, Nat.zero_add, Nat.reduceAdd]
  clear hv5 ho5 ht5 hl5 hrx hcl hf1 hv1 k1 e1 he5 hE4 hb5 r1 r2 r3 r4 r5 HFb HFk HF4 HK4
  go_wp2_with fail
  refine (seekC_any g2 fK15 _ 1 1 [99] _ (HK5.out.ext (hE _ _)) (openR_ok ex15_ku ex15_ko) (Rd.mark_at .u8 5 _ w5 [99] rfl rfl) (by decide)).mono ?_
  intro e w6 hp
  unfold SeekPost at hp
  rw [ex15_s1] at hp
  obtain ⟨rfl, he6⟩ := hp
  have hE56 : Ext w5 w6 := (hE _ _).trans he6
  have HK6 := Lib.hid (HK5.out.ext hE56)
  simp only
  clear he6 HK5
  go_wp2_with fail
  refine (seekC_any g2 fK15 _ 1 1 [100] _ (HK6.out.ext (hE _ _)) (openR_ok ex15_ku ex15_ko) (Rd.mark_at .u8 5 _ w6 [100] rfl rfl) (by decide)).mono ?_
  intro e w7 hp
  unfold SeekPost at hp
  rw [ex15_s2] at hp
  obtain ⟨rfl, he7⟩ := hp
  have hE57 : Ext w5 w7 := hE56.trans ((hE _ _).trans he7)
  have k7 : w7.cell? ⟨b5, o5 + 3 + 1, none⟩ = some (.int .i64 9) := (hE57.cells b5 _ Hb5.out).trans Hk1.out
  have hEf := hE5.trans hE57
  simp only
  clear he7 HK6 hE56 hE57 hE5
  go_wp2_with fail
  go_ret
  exact ⟨rfl, hEf⟩
theorem FilR.c {w : World} {g : Nat} {f : FlM} (h : FilR w g f) : ∃ Ab cb vf, ∀ q, FilC (w.drewN q) g (f.k : Int) f.ks (f.rows : Int) (f.per : Int) (.slice Ab f.bs.length cb) vf := by
  obtain ⟨Ab, cb, Af, cf, bs, fs, hF, _⟩ := h.ex
  exact ⟨Ab, cb, _, fun q => hF.grownR (Ext.toGrown ((Ext.refl w).drewN q) none) (by simp)⟩
theorem keys_bad {per : Int} {ss : List Sl} (h0 : (keysR per ss).2 ≠ 0) : (keysR per ss).1 = [] := by
  unfold keysR at h0 ⊢
  split
  · rfl
  · rename_i q
    rw [if_neg q] at h0
    exact bld_bad h0
theorem fs_key {p : Nat} {ss : List Sl} {i : Nat} (hi : i < cntC p (ss.map keyCi)) : (fileC 8 true p (ss.map keyCi)).fs.getD i [] = (bodies ss).getD (i * p) [] := by
  rw [fileC_fs hi]
  unfold frsC
  rw [List.map_map]
  rfl
theorem open_keys {per : Int} {ss : List Sl} (hu : ∀ s ∈ ss, U8 s.body) (h : (keysR per ss).2 = 0) :
    ∃ p : Nat, per = (p : Int) ∧ 1 ≤ p ∧ p ≤ 4096 ∧ ss.length ≤ 4096 ∧ riseP (bodies ss) ss.length ∧ openR (keysR per ss).1 = some (fileC 8 true p (ss.map keyCi)) ∧ U8 (keysR per ss).1 ∧ (keysR per ss).1.length ≤ 1048576 ∧ (∀ i, i < cntC p (ss.map keyCi) → (bstC 8 p (ss.map keyCi) i).2 = 0) ∧ FlB (fileC 8 true p (ss.map keyCi)) ∧ writeR (fileC 8 true p (ss.map keyCi)) = ((keysR per ss).1, 0) := by
  unfold keysR at h ⊢
  split at h
  · exact absurd h (by decide)
  rename_i hg
  have hp : perK per = true := by
    cases hp : perK per with
    | true => rfl
    | false => exact absurd (.inl hp) hg
  have hr : riseP (bodies ss) ss.length := Decidable.not_not.1 (fun q => hg (.inr q))
  have hp2 : 1 ≤ per ∧ per ≤ 4096 := of_decide_eq_true hp
  rw [if_neg hg]
  obtain ⟨p, rfl⟩ := Int.eq_ofNat_of_zero_le (show 0 ≤ per by omega)
  rw [Int.toNat_natCast] at h ⊢
  obtain ⟨h1, h2, h3⟩ := bld_good h
  have hxl : (ss.map keyCi).length = ss.length := List.length_map ..
  have hx : R64s ((ss.map keyCi).map Ci.num) := fun v hv => by
    obtain ⟨x, hx, rfl⟩ := List.mem_map.1 hv
    obtain ⟨s, _, rfl⟩ := List.mem_map.1 hx
    show R64 0
    unfold R64
    decide
  have hu8 : ∀ x ∈ ss.map keyCi, U8 x.txt := fun x hx => by
    obtain ⟨s, hs, rfl⟩ := List.mem_map.1 hx
    exact hu s hs
  have hok : FlB (fileC 8 true p (ss.map keyCi)) := fileC_ok (by decide) (by omega) h1 hx hu8 h2
  have hw : writeR (fileC 8 true p (ss.map keyCi)) = ((bldR 8 true p (ss.map keyCi)).1, 0) := by rw [← h3, ← h]
  have hfl : (fileC 8 true p (ss.map keyCi)).fs.length = cntC p (ss.map keyCi) := by show ((List.range _).map _).length = _; rw [List.length_map, List.length_range]
  have hrs : riseP (fileC 8 true p (ss.map keyCi)).fs (fileC 8 true p (ss.map keyCi)).fs.length := fun i hi => by
    rw [hfl] at hi
    rcases Nat.eq_zero_or_pos i with q | q
    · exact .inl q
    · right
      rw [fs_key hi, fs_key (show i - 1 < _ by omega)]
      have hlt := chunk_lt (n := ss.length) (by omega : 1 ≤ p) (by unfold cntC; rw [hxl]) hi
      exact rise_all hr (Nat.mul_lt_mul_of_pos_right (by omega) (by omega)) hlt
  have ho := open_file hok (by show ((!true || decide (((8 : Nat) : Int) = 8)) && kindK 8 && perK (p : Int)) = true; rw [hp]; decide) (by show ((List.range _).map _).length = _; rw [List.length_map, List.length_range]; rfl)
    hrs (fun q => Bool.noConfusion (show true = false from q)) hw
  exact ⟨p, rfl, by omega, by omega, by rw [← hxl]; exact h1, hr, ho.1, ho.2.1, ho.2.2, h2, hok, hw⟩
set_option maxHeartbeats 400000 in
theorem copyT_any (A : Option Addr) (n c : Nat) (ss : List Sl) (w : World) (hx : TxL w A n ss) (hn : n ≤ 5900000000000) :
    Calls Tryz.prog 18 #[.slice A n c] w fun e w' => ∃ A' c' ts, e = .returned (.slice A' n c') ∧ bodies ts = bodies ss ∧ OwnT w' w.heap.size A' c' ts ∧ Txts w' w.heap.size ts ∧ Ext w w' := by
  have Hl := Lib.hid hx.len
  go_enter Tryz.func18, Tryz.ntmps18
  go_wp2
  go_loopw [3, 4] (fun v i wr => ∃ (j : Nat) (A' : Option Addr) (c' : Nat) (ts : List Sl), j ≤ n ∧ i = .int .i64 j ∧ v = .slice A' j c' ∧ Hid (ts.length = j ∧ bodies ts = (bodies ss).take j ∧ OwnT wr w.heap.size A' c' ts ∧ Txts wr w.heap.size ts ∧ Ext w wr)) (fun _ i _ => n - (intOf i).toNat)
  case atStart => exact ⟨0, _, _, [], Nat.zero_le _, rfl, rfl, rfl, rfl, OwnG.made _ _ _ (Nat.le_refl _), Txts.nil .., (Ext.refl w).alloc _⟩
  case round =>
    obtain ⟨j, A', c', ts, hj, rfl, rfl, H⟩ := hrel
    by_cases hlt : j < n
    · obtain ⟨b, o, s, rfl, hf, hc, hs⟩ := (hx.ext H.out.2.2.2.2).at_ hlt
      have hbj := bodies_at hf
      obtain ⟨sA, sc, body⟩ := s
      obtain ⟨srd, _, _, _, slen⟩ := hs
      simp only at hc srd slen hbj
      have htk : (bodies ss).take (j + 1) = (bodies ss).take j ++ [body] := by
        obtain ⟨h1, h2⟩ := List.getElem?_eq_some_iff.1 hbj
        rw [List.take_succ_eq_append_getElem h1, h2]
      have Htk := Lib.hid htk
      obtain ⟨m, hm⟩ : ∃ m, m = body.length := ⟨_, rfl⟩
      rw [← hm] at hc srd slen
      have Hm := Lib.hid hm
      clear hf hbj htk hm
      go_wp2_with fail
      refine (copy_any _ _ _ _ _ srd slen).mono ?_
      rintro e w3 ⟨A3, c3, rfl, hown3, he3⟩
      go_wp2_with (at_builtin; refine wpList_pushT (w0 := w) ⟨A3, c3, body⟩ rfl _ _ rfl ((H.out.2.2.1.ext he3).ext ((Ext.refl _).alloc _)) j H.out.1 rfl rfl ((heap_alloc_new _ _).trans (by rw [Hm.out])) (by omega) (Ext.trans (H.out.2.2.2.2.trans he3) ((Ext.refl _).alloc _)) (by have := (H.out.2.2.2.2.trans he3).size; simp; omega) ?_; intro A4 c4 w4 hown4 hg4 hb4 hz4)
      rw [Hm.out, ← H.out.1] at hg4
      have HN := Lib.hid (show (ts ++ [(⟨A3, c3, body⟩ : Sl)]).length = j + 1 ∧ bodies (ts ++ [⟨A3, c3, body⟩]) = (bodies ss).take (j + 1) ∧ OwnT w4 w.heap.size A4 c4 (ts ++ [⟨A3, c3, body⟩]) ∧ Txts w4 w.heap.size (ts ++ [⟨A3, c3, body⟩]) ∧ Ext w w4 from by
        obtain ⟨e1, e2, e3, e4, e5⟩ := H.out
        refine ⟨by rw [List.length_append, e1]; rfl, by rw [Htk.out, ← e2]; unfold bodies; rw [List.map_append]; rfl, hown4, ?_, hb4⟩
        exact (((e4.ext he3).snoc (s := ⟨A3, c3, body⟩) hown3 e5.size (fun t ht p hp => e4.lt t ht p hp)).ext ((Ext.refl _).alloc _)).grown ((e3.ext he3).ext ((Ext.refl _).alloc _)) hg4)
      clear hg4 hown4
      go_wp2_with fail
      go_roundw
      case rel => exact ⟨j + 1, A4, c4, _, by omega, by go_num, rfl, HN.out⟩
      case measure => simp [intOf]; omega
    · obtain rfl : j = n := by omega
      have HN := Lib.hid (show bodies ts = bodies ss by rw [H.out.2.1, List.take_of_length_le (by rw [bodies_len, Hl.out]; exact Nat.le_refl _)])
      go_wp2
      go_ret
      exact ⟨_, _, ts, rfl, HN.out, H.out.2.2.1, H.out.2.2.2.1, H.out.2.2.2.2⟩
theorem pair_bodies {ss ts : List Sl} (hb : bodies ss = bodies ts) {j : Nat} {s t : Sl} (h1 : ss[j]? = some s) (h2 : ts[j]? = some t) : t.body = s.body := by
  have e1 := bodies_at h1
  rw [hb, bodies_at h2] at e1
  injection e1
theorem sameT_yes (A A' : Option Addr) (n c n' c' : Nat) (ss ts : List Sl) (w : World) (hx : RdL w A n ss) (hy : RdL w A' n' ts) (hb : bodies ss = bodies ts) (hn : n ≤ 140737488355328)
    (hs : ∀ s ∈ ss, Rd .u8 w s.A s.body.length s.body ∧ s.body.length ≤ 140737488355328) (ht : ∀ t ∈ ts, Rd .u8 w t.A t.body.length t.body) :
    Calls Tryz.prog 23 #[.slice A n c, .slice A' n' c'] w fun e w' => e = .returned (.bool true) ∧ ∃ q, w' = w.drewN q := by
  obtain rfl : n' = n := by rw [← hx.1, ← hy.1, ← bodies_len, ← bodies_len, hb]
  have Hb := Lib.hid hb
  clear hb
  go_enter Tryz.func23, Tryz.ntmps23
  go_wp2
  go_loopw [5] (fun i wr => ∃ j q : Nat, j ≤ n' ∧ i = .int .i64 j ∧ wr = w.drewN q) (fun i _ => n' - (intOf i).toNat)
  case atStart => exact ⟨0, 0, Nat.zero_le _, rfl, rfl⟩
  case round =>
    obtain ⟨j, q, hj, rfl, hw⟩ := hrel
    have hE : Ext w wr := by rw [hw]; exact (Ext.refl w).drewN q
    have Hw := Lib.hid hw
    clear hw
    by_cases hlt : j < n'
    · obtain ⟨b, o, s, rfl, hf, h1⟩ := (hx.ext hE).at_ hlt
      obtain ⟨b', o', t, rfl, hg, g1⟩ := (hy.ext hE).at_ hlt
      have hbb := pair_bodies Hb.out hf hg
      obtain ⟨h3, hbf⟩ := hs s (List.mem_of_getElem? hf)
      have g3 := ht t (List.mem_of_getElem? hg)
      replace h3 := h3.ext hE
      replace g3 := g3.ext hE
      rw [hbb] at g1 g3
      obtain ⟨sA, sc, body⟩ := s
      obtain ⟨tA, tc, tbody⟩ := t
      simp only at h1 h3 g1 g3 hbf
      clear hbb hf hg
      have hji : (j : Int) < (n' : Int) := by omega
      have hbf2 : body.length ≤ 281474976710656 := by omega
      go_wp2_with fail
      go_quiet ((go_at_call 33; exact Calls.quiet_of (same_yes (h3.drewN _) (g3.drewN _) hbf2)))
      go_wp2
      go_roundw
      case rel => exact ⟨j + 1, _, by omega, by go_num, by rw [Hw.out, World.drewN_drewN]⟩
      case measure => simp [intOf]; omega
    · obtain rfl : j = n' := by omega
      go_wp2
      go_ret
      exact ⟨by trivial, q, Hw.out⟩
theorem gb_head {w w1 w2 : World} {r : Option Nat} (he : Ext w w1) (hg : w1.grownBy w2 r) : w.grownBy w2 r :=
  ⟨hg.os.trans he.os, hg.tape.trans he.tape, hg.output.trans he.output, Nat.le_trans he.size hg.size, fun b hb hne => (hg.block b (Nat.lt_of_lt_of_le hb he.size) hne).trans (he.block b hb)⟩
theorem gb_tail {w w1 w2 : World} {r : Option Nat} (hg : w.grownBy w1 r) (he : Ext w1 w2) : w.grownBy w2 r :=
  ⟨he.os.trans hg.os, he.tape.trans hg.tape, he.output.trans hg.output, Nat.le_trans hg.size he.size, fun b hb hne => (he.block b (Nat.lt_of_lt_of_le hb hg.size)).trans (hg.block b hb hne)⟩
set_option maxHeartbeats 1600000 in
theorem apartG_any (A A2 A3 : Option Addr) (n c c2 c3 base : Nat) (xs : List Nat) (w0 w : World) (hx : Own .u8 5 w base A c xs) (hl : xs.length = n) (hu : U8 xs)
    (hy : Rd .u8 w A2 n xs) (hz : Rd .u8 w A3 n xs) (ne2 : ∀ a a2, A = some a → A2 = some a2 → a2.block ≠ a.block) (ne3 : ∀ a a3, A = some a → A3 = some a3 → a3.block ≠ a.block)
    (hE : Ext w0 w) (hbase : w0.heap.size ≤ base) (hbw : base ≤ w.heap.size) (hn : n + 70 ≤ 180000000000000) :
    Calls Tryz.prog 24 #[.slice A n c, .slice A2 n c2, .slice A3 n c3] w fun e w' => e = .returned (.bool true) ∧ Ext w0 w' ∧ w.grownBy w' (A.map (·.block)) := by
  have Hl := Lib.hid hl
  clear hl
  have hx1 := hx.rd' Hl.out
  go_enter Tryz.func24, Tryz.ntmps24
  go_wp2_with fail
  refine (same_yes hx1 hz (by omega)).mono ?_
  rintro e w1 ⟨rfl, q1, rfl⟩
  go_wp2_with fail
  refine (same_yes (hy.drewN q1) (hz.drewN q1) (by omega)).mono ?_
  rintro e w1 ⟨rfl, q2, rfl⟩
  go_wp2_with fail
  refine (spoil_any A n c base xs _ (hx.ext ((Ext.refl _).drewN _)) Hl.out hu (by omega)).mono ?_
  rintro e w2 ⟨rfl, hx2, hg2⟩
  go_wp2_with fail
  have hsp : (xs.map spl).length = n := by rw [List.length_map, Hl.out]
  have hE2 : Ext w0 w2 := grownBy_ext (hE.drewN _) hg2 (by
    intro g hg
    cases hA : A with
    | none => rw [hA] at hg; simp at hg
    | some a => rw [hA] at hg; simp at hg; subst hg; exact Nat.le_trans hbase (hx.block a hA).1)
  have hne : ∀ {X : Option Addr}, (∀ a a2, A = some a → X = some a2 → a2.block ≠ a.block) → 0 < n → ∀ a, X = some a → some a.block ≠ A.map (·.block) := by
    intro X hX hn a ha e
    cases hA : A with
    | none => rw [hA] at e; simp at e
    | some a1 => rw [hA] at e; simp at e; exact hX a1 a hA ha e
  have HG0 := Lib.hid (show w.grownBy w2 (A.map (·.block)) ∧ ∀ p, A = some p → some p.block = A.map (·.block) ∨ w.heap.size ≤ p.block from ⟨gb_head ((Ext.refl w).drewN _) hg2, fun p hp => .inl (by rw [hp]; rfl)⟩)
  have h0 : ∃ ys, Aside w0 w2 A A2 A3 A n c 0 base (xs.map spl) xs ys := ⟨xs.map spl, hx2, hsp, List.take_of_length_le (Nat.le_of_eq hsp), hx2.rd' hsp, (hy.drewN (q1 + q2)).grown0 hg2 (hne ne2), (hz.drewN (q1 + q2)).grown0 hg2 (hne ne3), fun _ a a1 ha ha1 => .inl (by rw [ha] at ha1; injection ha1 with h; exact h.symm), fun _ => ne2, fun _ => ne3, hE2, by have := hg2.size; simp at this; omega⟩
  clear hx2 hg2 hE2 hne hx1
  have Hb := Lib.hid hbase
  clear hbase
  go_loopw [7, 8] (fun v i wr => ∃ (j : Nat) (A' : Option Addr) (c' : Nat) (ys : List Nat), j ≤ 70 ∧ i = .int .i64 j ∧ v = .slice A' (n + j : Nat) c' ∧ Aside w0 wr A A2 A3 A' n c' j base (xs.map spl) xs ys ∧ Hid (w.grownBy wr (A.map (·.block)) ∧ ∀ p, A' = some p → some p.block = A.map (·.block) ∨ w.heap.size ≤ p.block)) (fun _ i _ => 70 - (intOf i).toNat)
  case atStart => obtain ⟨ys, h0⟩ := h0; exact ⟨0, _, _, ys, Nat.zero_le _, rfl, rfl, h0, HG0.out⟩
  case round =>
    clear h0 HG0
    obtain ⟨j, A', c', ys, hj, rfl, rfl, has, HG⟩ := hrel
    have hsz := has.size
    by_cases hlt : j < 70
    · have hm := mod256 hlt
      have Hown := Lib.hid has.own
      have Hlen := Lib.hid has.len
      have Has := Lib.hid has
      clear has
      go_wp2_with (at_builtin; refine wpList_push2 .u8 j 5 rfl _ _ 22 rfl _ 1 Tryz.underlying22 Tryz.infoU8 rfl Hown.out (n + j) Hlen.out rfl rfl rfl (by omega) (by omega) hsz ?_; intro A1 c1 w1 hown1 hw1 hz1)
      have Hn := Lib.hid (Has.out.push Hb.out hown1 hw1 hz1)
      have HG1 := Lib.hid (grown_step HG.out.1 HG.out.2 hw1)
      clear hown1 hw1 hz1
      go_wp2
      go_roundw
      case rel => exact ⟨j + 1, A1, c1, _, by omega, by go_num, rfl, Hn.out, HG1.out⟩
      case measure => simp [intOf]; omega
    · obtain rfl : j = 70 := by omega
      have hr1 := has.rd1
      have hr2 := has.rd2
      have hr3 := has.rd3
      have he := has.ext
      clear has
      go_wp2_with fail
      refine (turned_yes hr1 hr3 hu (by omega)).mono ?_
      rintro e w3 ⟨rfl, q3, rfl⟩
      go_wp2_with fail
      refine (same_yes (hr2.drewN q3) (hr3.drewN q3) (by omega)).mono ?_
      rintro e w3 ⟨rfl, q4, rfl⟩
      go_wp2_with fail
      go_ret
      exact ⟨rfl, he.drewN _, gb_tail HG.out.1 ((Ext.refl _).drewN _)⟩
theorem buildR_fine {kind per : Int} {xs : List Ci} (hx : R64s (xs.map Ci.num)) (hu : ∀ x ∈ xs, U8 x.txt) : U8 (buildR kind per xs).1 ∧ (buildR kind per xs).1.length ≤ 1048576 := by
  by_cases h : (buildR kind per xs).2 = 0
  · obtain ⟨k, p, _, _, _, _, _, _, h1, h2, _⟩ := open_built hx hu h
    exact ⟨h1, h2⟩
  · have : (buildR kind per xs).1 = [] := by
      unfold buildR at h ⊢
      split
      · rfl
      · rename_i q
        rw [if_neg q] at h
        exact bld_bad h
    rw [this]
    exact ⟨fun v hv => (by cases hv), Nat.zero_le _⟩
theorem keysR_fine {per : Int} {ss : List Sl} (hu : ∀ s ∈ ss, U8 s.body) : U8 (keysR per ss).1 ∧ (keysR per ss).1.length ≤ 1048576 := by
  by_cases h : (keysR per ss).2 = 0
  · obtain ⟨p, _, _, _, _, _, _, h1, h2, _⟩ := open_keys hu h
    exact ⟨h1, h2⟩
  · rw [keys_bad h]
    exact ⟨fun v hv => (by cases hv), Nat.zero_le _⟩
set_option maxHeartbeats 6400000 in
theorem walk_CfileBuilds (kind per : Int) (A : Option Addr) (n c : Nat) (xs : List Ci) (A2 : Option Addr) (n2 c2 : Nat) (ss : List Sl) (w : World) (hx : RdX w A n xs) (hn : n * 40 ≤ 140737488351232) (hcx : CapX xs) (hy : TxL w A2 n2 ss) (hn2 : n2 ≤ 1048576) (hlen : ∀ s ∈ ss, s.body.length ≤ 140737488351232) :
    Calls Tryz.prog 4 #[.int .i64 kind, .int .i64 per, .slice A n c, .slice A2 n2 c2] w fun e w' => e = .returned (.bool true) ∧ Ext w w' := by
  have HT := Lib.hid (fun W (hW : Ext w W) => twinRow_any A n c xs W (hx.ext hW) (by omega))
  have HCp := Lib.hid (fun W (hW : Ext w W) => copyT_any A2 n2 c2 ss W (hy.ext hW) (by omega))
  have HB := Lib.hid (fun W B' c' fs (hv : fs.map Ci.val = xs.map Ci.val) (hr : RdX W B' n fs) (hcp : CapX fs) (hnc : n ≤ c') => buildR_val hv kind per ▸ pbuild_any kind per B' n c' fs W hr hcp (by omega) hnc)
  have HF := Lib.hid (fun W (hW : Ext w W) => refBuildC_any kind per A n c xs W (hx.ext hW) hcx (by omega))
  have HK := Lib.hid (fun W B' c' ts (hv : bodies ts = bodies ss) (hr : TxL W B' n2 ts) (hl : ∀ s ∈ ts, s.body.length ≤ 140737488351232) => keysR_val hv per ▸ pkeys_any per B' n2 c' ts W hr (by omega) hl)
  have HG := Lib.hid (fun W (hW : Ext w W) => refKeys_any per A2 n2 c2 ss W (hy.ext hW) (by omega) hlen)
  obtain ⟨hu1, hl1⟩ := buildR_fine (kind := kind) (per := per) hx.nums (fun x h => (hx.all x h).u8)
  obtain ⟨hu2, hl2⟩ := keysR_fine (per := per) (fun s hs => (hy.2 s hs).u8)
  obtain ⟨⟨P, F⟩, hR⟩ : ∃ R, R = buildR kind per xs := ⟨_, rfl⟩
  obtain ⟨⟨Q, G⟩, hS⟩ : ∃ R, R = keysR per ss := ⟨_, rfl⟩
  unfold PEncPost at HB HF HK HG
  rw [← hR] at HB HF hu1 hl1
  rw [← hS] at HK HG hu2 hl2
  simp only at HB HF HK HG hu1 hl1 hu2 hl2
  obtain ⟨p, hp⟩ : ∃ p, p = P.length := ⟨_, rfl⟩
  obtain ⟨q, hq⟩ : ∃ q, q = Q.length := ⟨_, rfl⟩
  rw [← hp] at HB HF hl1
  rw [← hq] at HK HG hl2
  have Hp := Lib.hid hp.symm
  have Hq := Lib.hid hq.symm
  have Hu1 := Lib.hid hu1
  have Hu2 := Lib.hid hu2
  have Hx := Lib.hid hx
  have Hy := Lib.hid hy
  have Hlen := Lib.hid hlen
  have k1 : (F == F) = true := by simp
  have k2 : (G == G) = true := by simp
  have k3 : (F != F) = false := by simp
  have k4 : (G != G) = false := by simp
  clear hp hq hR hS hu1 hu2 hx hy hcx hlen
  go_enter Tryz.func4, Tryz.ntmps4
  go_wp2_with fail
  refine (alive15 _).mono ?_
  rintro e w1 ⟨rfl, he1⟩
  go_wp2_with fail
  refine (HT.out _ he1).mono ?_
  rintro e w2 ⟨fs, A3, c3, rfl, hv2, ho2, ht2, he2⟩
  have hE2 := he1.trans he2
  have hfl : fs.length = n := by rw [val_len12 hv2]; exact Hx.out.1
  have hc3 : n ≤ c3 := by rw [← hfl]; exact ho2.cap.1
  have Hm : Hid (RdX w2 A3 n fs) := Lib.hid (by
    rw [← hfl]
    refine ho2.rdX (fun f hf => ?_)
    have hm : f.val ∈ xs.map Ci.val := by rw [← hv2]; exact List.mem_map_of_mem hf
    obtain ⟨x, hxm, hxv⟩ := List.mem_map.1 hm
    have hin := Hx.out.all x hxm
    have e1 : x.num = f.num := congrArg (fun v => v.2.1) hxv
    have e2 : x.txt = f.txt := congrArg (fun v => v.2.2) hxv
    exact ⟨(ht2.1 f hf).rd, e2 ▸ hin.u8, e1 ▸ hin.lo, e1 ▸ hin.hi, e2 ▸ hin.len⟩)
  have Hcp : Hid (CapX fs) := Lib.hid (fun f hf => (ht2.1 f hf).cap)
  have Hv := Lib.hid hv2
  clear ho2 ht2 hfl hv2
  go_wp2_with fail
  refine (HCp.out _ hE2).mono ?_
  rintro e w3 ⟨A4, c4, ts, rfl, hb3, hown3, htx3, he3⟩
  have hE3 := hE2.trans he3
  have hl3 : ts.length = n2 := by rw [← bodies_len, hb3, bodies_len, Hy.out.len]
  have hall := bodies_all hb3 (P := fun b => U8 b ∧ b.length ≤ 140737488355328) Hy.out.all
  have hall2 := bodies_all hb3 (P := fun b => b.length ≤ 140737488351232) Hlen.out
  have Hmy := Lib.hid (TxL.of_own hown3 htx3 hl3 hall)
  have Hb3 := Lib.hid hb3
  have Hal := Lib.hid hall2
  clear hown3 htx3 hl3 hall hb3 hall2
  go_wp2_with fail
  refine (HB.out _ _ _ _ Hv.out (Hm.out.ext he3) Hcp.out hc3).mono ?_
  rintro e w4 ⟨A5, c5, rfl, ho4, he4⟩
  have Hm4 := Lib.hid ((Hm.out.ext he3).ext he4)
  go_wp2_with fail
  refine (HB.out _ _ _ _ Hv.out Hm4.out Hcp.out hc3).mono ?_
  rintro e w5 ⟨A6, c6, rfl, ho5, he5⟩
  have hE5 := (hE3.trans he4).trans he5
  go_wp2_with fail
  refine (HF.out _ hE5).mono ?_
  rintro e w6 ⟨A7, c7, rfl, ho6, he6⟩
  have hE6 := hE5.trans he6
  have he36 := (he4.trans he5).trans he6
  go_wp2_with fail
  refine (HK.out _ _ _ _ Hb3.out (Hmy.out.ext he36) Hal.out).mono ?_
  rintro e w7 ⟨A8, c8, rfl, ho7, he7⟩
  go_wp2_with fail
  refine (HK.out _ _ _ _ Hb3.out ((Hmy.out.ext he36).ext he7) Hal.out).mono ?_
  rintro e w8 ⟨A9, c9, rfl, ho8, he8⟩
  have hE8 := (hE6.trans he7).trans he8
  go_wp2_with fail
  refine (HG.out _ hE8).mono ?_
  rintro e w9 ⟨A10, c10, rfl, ho9, he9⟩
  have hE9 := hE8.trans he9
  have he69 := (he7.trans he8).trans he9
  have he39 := he36.trans he69
  have HAl := Lib.hid (fun W (hW : Ext w9 W) => alikeRow_any A3 n c3 fs A n c xs W ((Hm.out.ext (he3.trans he39)).ext hW) (Hx.out.ext (hE9.trans hW)) (by omega) (by omega))
  rw [alkR_iff.2 Hv.out] at HAl
  have HSm := Lib.hid (fun W (hW : Ext w9 W) => sameT_yes A4 A2 n2 c4 n2 c2 ts ss W ((Hmy.out.ext he39).1.ext hW) (Hy.out.1.ext (hE9.trans hW)) Hb3.out (by omega) (((Hmy.out.ext he39).ext hW).same) ((Hy.out.ext (hE9.trans hW)).rds))
  -- the rows, as they lie at the end
  have hs34 := he4.size
  have hs45 := he5.size
  have hs56 := he6.size
  have hs67 := he7.size
  have hs78 := he8.size
  have hs89 := he9.size
  have b4 := ho4.block
  have b5 := ho5.block
  have b6 := ho6.block
  have b7 := ho7.block
  have b8 := ho8.block
  have b9 := ho9.block
  have o4 := Lib.hid (((ho4.ext he5).ext he6).ext he69)
  have o5 := Lib.hid ((ho5.ext he6).ext he69)
  have o6 := Lib.hid (ho6.ext he69)
  have o7 := Lib.hid ((ho7.ext he8).ext he9)
  have o8 := Lib.hid (ho8.ext he9)
  have o9 := Lib.hid ho9
  clear ho4 ho5 ho6 ho7 ho8 ho9 he3 he4 he5 he6 he7 he8 he9 he36 he69 Hm4
  go_wp2_with fail
  refine (HAl.out _ (Ext.refl _)).mono ?_
  rintro e wa ⟨rfl, hea⟩
  go_wp2_with fail
  refine (HSm.out _ hea).mono ?_
  rintro e wb ⟨rfl, qb, rfl⟩
  have heb : Ext w9 (wa.drewN qb) := hea.drewN _
  have hzb := heb.size
  have hE3b := hE9.trans heb
  go_wp2_with fail
  refine (apartG_any A5 A6 A7 p c5 c6 c7 w3.heap.size P w3 _ (o4.out.ext heb) Hp.out Hu1.out ((o5.out.ext heb).rd' Hp.out) ((o6.out.ext heb).rd' Hp.out) (fun a a2 ha ha2 => by
    have := b4 a ha; have := b5 a2 ha2; omega) (fun a a3 ha ha3 => by
    have := b4 a ha; have := b6 a3 ha3; omega) ?_ (Nat.le_refl _) (by omega) (by omega)).mono ?_
  · exact he39.trans heb
  rintro e wc ⟨rfl, hec, hgc⟩
  have f7 := o7.out.ext heb
  have f8 := o8.out.ext heb
  have f9 := o9.out.ext heb
  have ng : ∀ a, A5 = some a → a.block < w4.heap.size := fun a ha => (b4 a ha).2
  have g7 : Own .u8 5 wc w6.heap.size A8 c8 Q := OwnU.grownR f7 hgc (fun a ha e => by
    obtain ⟨a', ha', e'⟩ := Option.map_eq_some_iff.1 e
    have := ng a' ha'; have := b7 a ha; omega)
  have g8 : Own .u8 5 wc w7.heap.size A9 c9 Q := OwnU.grownR f8 hgc (fun a ha e => by
    obtain ⟨a', ha', e'⟩ := Option.map_eq_some_iff.1 e
    have := ng a' ha'; have := b8 a ha; omega)
  have g9 : Own .u8 5 wc w8.heap.size A10 c10 Q := OwnU.grownR f9 hgc (fun a ha e => by
    obtain ⟨a', ha', e'⟩ := Option.map_eq_some_iff.1 e
    have := ng a' ha'; have := b9 a ha; omega)
  have hzc := hgc.size
  go_wp2_with fail
  refine (apart_any A8 A9 A10 q c8 c9 c10 w6.heap.size Q w3 wc g7 Hq.out Hu2.out (g8.rd' Hq.out) (g9.rd' Hq.out) (fun a a2 ha ha2 => by
    have := b7 a ha; have := b8 a2 ha2; omega) (fun a a3 ha ha3 => by
    have := b7 a ha; have := b9 a3 ha3; omega) hec (by omega) (by omega) (by omega)).mono ?_
  rintro e wd ⟨rfl, hed⟩
  go_wp2_with fail
  go_ret
  exact ⟨rfl, hE3.trans hed⟩
end Go.Proofs.YthibbgmicmfkfaaGreat
