import Derived.Test.YthibbgmicmfkfaaGreatGX12
import Derived.Deep.RegionHeld3
namespace Go.Proofs.YthibbgmicmfkfaaGreat
open Go.RowKit
set_option maxRecDepth 100000
def zR (R : List Int × Int) : List Cv × Int := if R.2 ≠ 0 then ([], R.2) else (R.1.map fun v => (false, v, []), 0)
def tR (R : List (List Nat) × Int) : List Cv × Int := if R.2 ≠ 0 then ([], R.2) else (R.1.map fun t => (false, 0, t), 0)
def codR (cd : Int) (bs : List Nat) : List Cv × Int :=
  if cd = 2 then zR (decode8 bs) else if cd = 3 then zR (decode9 bs) else if cd = 4 then tR (ddec bs) else tR (pdec bs)
def ciZ (v : Int) : Ci := ⟨false, v, none, 0, []⟩
def ciT (s : Sl) : Ci := ⟨false, 0, s.A, s.c, s.body⟩
theorem txtX_Z (w : World) (base : Nat) (vs : List Int) : TxtX w base (vs.map ciZ) := by
  refine ⟨fun x hx => ?_, ?_⟩
  · obtain ⟨v, _, rfl⟩ := List.mem_map.1 hx
    exact Own.nil ..
  · rw [List.pairwise_map]
    exact List.pairwise_of_forall fun a b p q h => by cases h
theorem txtX_T {w : World} {base : Nat} {ts : List Sl} (h : Txts w base ts) : TxtX w base (ts.map ciT) := by
  refine ⟨fun x hx => ?_, ?_⟩
  · obtain ⟨s, hs, rfl⟩ := List.mem_map.1 hx
    exact h.own s hs
  · rw [List.pairwise_map]
    exact h.apart
theorem val_Z (vs : List Int) : (vs.map ciZ).map Ci.val = vs.map fun v => (false, v, []) := by rw [List.map_map]; rfl
theorem val_T (ts : List Sl) : (ts.map ciT).map Ci.val = (bodies ts).map fun t => (false, 0, t) := by unfold bodies; rw [List.map_map, List.map_map]; rfl
theorem decode9_len12 (bs : List Nat) : (decode9 bs).1.length ≤ 4096 := by
  unfold decode9
  split
  · simp
  · split
    · simp
    · split
      · split <;> simp
      · unfold decSome
        split
        · simp
        · unfold decTail
          split
          · simp
          · split
            · simp
            · split
              · simp
              · split
                · rename_i h1 h2 _ _ _ h6 _
                  rw [above_len, secL_len (by simpa using h6)]
                  omega
                · simp
theorem decode8_len12 (bs : List Nat) : (decode8 bs).1.length ≤ 4096 := by
  have hR : ∀ m vs a, vs.length ≤ 4096 → (decR bs m vs a).1.length ≤ 4096 := by
    intro m
    induction m with
    | zero => intro vs a h; rw [decR]; split <;> simp [h]
    | succ m ih =>
      intro vs a h
      rw [decR]
      repeat' split
      all_goals first | (refine ih _ _ ?_; rw [List.length_append, List.length_replicate]; omega) | simp
  unfold decode8
  repeat' split
  all_goals first | exact hR _ _ _ (by simp) | simp
set_option maxHeartbeats 4000000 in
theorem getCoded2_any (A : Option Addr) (l c : Nat) (bs : List Nat) (w : World) (hx : Rd .u8 w A l bs) (hu : U8 bs) (hl : l ≤ 140737488351232) (hcap : l ≤ c) (hcm : c ≤ 9223372036854775807) :
    Calls Tryz.prog 120 #[.int .i64 2, .slice A l c] w (GcPost (zR (decode8 bs)) w) := by
  have HD := Lib.hid (decode_any A l c bs w hx hu (by omega) hcap hcm)
  have hlen := decode8_len12 bs
  have hR := zR.eq_1 (decode8 bs)
  obtain ⟨P, hP⟩ : ∃ P, P = decode8 bs := ⟨_, rfl⟩
  rw [← hP] at HD hlen hR
  obtain ⟨vs, er⟩ := P
  simp only at hlen hR
  obtain ⟨n, hn⟩ : ∃ n, n = vs.length := ⟨_, rfl⟩
  rw [← hn] at hlen
  have Hn := Lib.hid hn
  rw [← hP]
  clear hx hu hP hn
  by_cases he : er = 0
  · subst he
    have HR := Lib.hid (hR.trans (if_neg (fun h => h rfl)))
    clear hR
    go_enter Tryz.func120, Tryz.ntmps120
    go_wp2_with fail
    refine HD.out.mono ?_
    rintro e w1 ⟨A1, c1, rfl, ho, he1⟩
    simp only [← Hn.out]
    have Hr := Lib.hid (ho.rd' Hn.out.symm)
    have hz1 := he1.size
    go_wp2_with fail
    go_loopw [9, 48] (fun v i wr => ∃ (j : Nat) (A' : Option Addr) (c' : Nat), j ≤ n ∧ i = .int .i64 (j : Int) ∧ v = .slice A' j c' ∧ OwnX wr w1.heap.size A' c' ((vs.take j).map ciZ) ∧ Below w1.heap.size w1 wr) (fun _ i _ => n - (intOf i).toNat)
    case atStart => exact ⟨0, none, 0, Nat.zero_le _, rfl, rfl, OwnX.nil _ _, Ext.refl _⟩
    case round =>
      obtain ⟨j, A', c', hj, rfl, rfl, hown, hb⟩ := hrel
      have hz := hb.size
      by_cases hlt : j < n
      · obtain ⟨bb, o, rfl, hbb, hcell⟩ := (Hr.out.ext hb).atZ hlt
        have h2 : j < vs.length := by rw [← Hn.out]; exact hlt
        have ht : (vs.take (j + 1)).map ciZ = (vs.take j).map ciZ ++ [ciZ (vs.getD j 0)] := by rw [List.take_succ_eq_append_getElem h2, List.map_append]; simp [List.getD, h2]
        have hfl : ((vs.take j).map ciZ).length = j := by rw [List.length_map, List.length_take]; omega
        obtain ⟨x, hx⟩ : ∃ x, x = vs.getD j 0 := ⟨_, rfl⟩
        rw [← hx] at hcell ht
        have Ht := Lib.hid ht
        have Hfl := Lib.hid hfl
        clear hx ht hfl h2
        go_wp2_with (at_builtin; refine wpList_pushX (w0 := w1) (base := w1.heap.size) ⟨false, x, none, 0, []⟩ rfl _ _ rfl (hown.ext ((Ext.refl _).alloc _)) j Hfl.out rfl rfl ?_ (by omega) (Ext.trans hb ((Ext.refl _).alloc _)) (by simp; omega) ?_; (focus (show _ = some (Obj.cells #[.bool false, .int .i64 x, .slice none 0 0] 61 _); exact heap_at (by simp))); intro A3 c3 w3 hO3 _ hE3 hz3)
        go_roundw
        case rel => exact ⟨j + 1, A3, c3, hlt, by go_num, rfl, by rw [Ht.out]; exact hO3, hE3⟩
        case measure => simp [intOf]; omega
      · obtain rfl : j = n := by omega
        rw [List.take_of_length_le (Nat.le_of_eq Hn.out.symm)] at hown
        go_wp2_with fail
        go_loopw [9, 60] (fun v i wr' => v = .slice A' j c' ∧ i = .int .i64 0 ∧ wr' = wr) (fun _ _ _ => 0)
        case atStart => exact ⟨rfl, rfl, rfl⟩
        case round =>
          obtain ⟨rfl, rfl, rfl⟩ := hrel
          go_wp2
          go_ret2
          rw [HR.out]
          have hvl : (vs.map fun v => ((false, v, []) : Cv)).length = j := by rw [List.length_map, ← Hn.out]
          exact ⟨vs.map ciZ, A', c', by simp only; rw [hvl]; rfl, val_Z vs, hown.mono hz1, txtX_Z _ _ _, he1.trans hb⟩
  · have heb : (er == 0) = false := beq_eq_false_iff_ne.2 he
    have HR := Lib.hid (hR.trans (if_pos he))
    clear hR he
    go_enter Tryz.func120, Tryz.ntmps120
    go_wp2_with fail
    refine HD.out.mono ?_
    rintro e w1 ⟨A1, c1, rfl, ho, he1⟩
    simp only [← Hn.out]
    go_wp2_with fail
    go_ret2
    exact GcPost.bad _ HR.out he1
set_option maxHeartbeats 4000000 in
theorem getCoded3_any (A : Option Addr) (l c : Nat) (bs : List Nat) (w : World) (hx : Rd .u8 w A l bs) (hu : U8 bs) (hl : l ≤ 140737488351232) (hcap : l ≤ c) (hcm : c ≤ 9223372036854775807) :
    Calls Tryz.prog 120 #[.int .i64 3, .slice A l c] w (GcPost (zR (decode9 bs)) w) := by
  have HD := Lib.hid (pdecode_any A l c bs w hx hu (by omega) hcap hcm)
  have hlen := decode9_len12 bs
  have hR := zR.eq_1 (decode9 bs)
  obtain ⟨P, hP⟩ : ∃ P, P = decode9 bs := ⟨_, rfl⟩
  rw [← hP] at HD hlen hR
  obtain ⟨vs, er⟩ := P
  simp only at hlen hR
  obtain ⟨n, hn⟩ : ∃ n, n = vs.length := ⟨_, rfl⟩
  rw [← hn] at hlen
  have Hn := Lib.hid hn
  rw [← hP]
  clear hx hu hP hn
  by_cases he : er = 0
  · subst he
    have HR := Lib.hid (hR.trans (if_neg (fun h => h rfl)))
    clear hR
    go_enter Tryz.func120, Tryz.ntmps120
    go_wp2_with fail
    refine HD.out.mono ?_
    rintro e w1 ⟨A1, c1, rfl, ho, he1⟩
    simp only [← Hn.out]
    have Hr := Lib.hid (ho.rd' Hn.out.symm)
    have hz1 := he1.size
    go_wp2_with fail
    go_loopw [9, 48] (fun v i wr => ∃ (j : Nat) (A' : Option Addr) (c' : Nat), j ≤ n ∧ i = .int .i64 (j : Int) ∧ v = .slice A' j c' ∧ OwnX wr w1.heap.size A' c' ((vs.take j).map ciZ) ∧ Below w1.heap.size w1 wr) (fun _ i _ => n - (intOf i).toNat)
    case atStart => exact ⟨0, none, 0, Nat.zero_le _, rfl, rfl, OwnX.nil _ _, Ext.refl _⟩
    case round =>
      obtain ⟨j, A', c', hj, rfl, rfl, hown, hb⟩ := hrel
      have hz := hb.size
      by_cases hlt : j < n
      · obtain ⟨bb, o, rfl, hbb, hcell⟩ := (Hr.out.ext hb).atZ hlt
        have h2 : j < vs.length := by rw [← Hn.out]; exact hlt
        have ht : (vs.take (j + 1)).map ciZ = (vs.take j).map ciZ ++ [ciZ (vs.getD j 0)] := by rw [List.take_succ_eq_append_getElem h2, List.map_append]; simp [List.getD, h2]
        have hfl : ((vs.take j).map ciZ).length = j := by rw [List.length_map, List.length_take]; omega
        obtain ⟨x, hx⟩ : ∃ x, x = vs.getD j 0 := ⟨_, rfl⟩
        rw [← hx] at hcell ht
        have Ht := Lib.hid ht
        have Hfl := Lib.hid hfl
        clear hx ht hfl h2
        go_wp2_with (at_builtin; refine wpList_pushX (w0 := w1) (base := w1.heap.size) ⟨false, x, none, 0, []⟩ rfl _ _ rfl (hown.ext ((Ext.refl _).alloc _)) j Hfl.out rfl rfl ?_ (by omega) (Ext.trans hb ((Ext.refl _).alloc _)) (by simp; omega) ?_; (focus (show _ = some (Obj.cells #[.bool false, .int .i64 x, .slice none 0 0] 61 _); exact heap_at (by simp))); intro A3 c3 w3 hO3 _ hE3 hz3)
        go_roundw
        case rel => exact ⟨j + 1, A3, c3, hlt, by go_num, rfl, by rw [Ht.out]; exact hO3, hE3⟩
        case measure => simp [intOf]; omega
      · obtain rfl : j = n := by omega
        rw [List.take_of_length_le (Nat.le_of_eq Hn.out.symm)] at hown
        go_wp2_with fail
        go_loopw [9, 60] (fun v i wr' => v = .slice A' j c' ∧ i = .int .i64 0 ∧ wr' = wr) (fun _ _ _ => 0)
        case atStart => exact ⟨rfl, rfl, rfl⟩
        case round =>
          obtain ⟨rfl, rfl, rfl⟩ := hrel
          go_wp2
          go_ret2
          rw [HR.out]
          have hvl : (vs.map fun v => ((false, v, []) : Cv)).length = j := by rw [List.length_map, ← Hn.out]
          exact ⟨vs.map ciZ, A', c', by simp only; rw [hvl]; rfl, val_Z vs, hown.mono hz1, txtX_Z _ _ _, he1.trans hb⟩
  · have heb : (er == 0) = false := beq_eq_false_iff_ne.2 he
    have HR := Lib.hid (hR.trans (if_pos he))
    clear hR he
    go_enter Tryz.func120, Tryz.ntmps120
    go_wp2_with fail
    refine HD.out.mono ?_
    rintro e w1 ⟨A1, c1, rfl, ho, he1⟩
    simp only [← Hn.out]
    go_wp2_with fail
    go_ret2
    exact GcPost.bad _ HR.out he1
set_option maxHeartbeats 4000000 in
theorem getCoded4_any (A : Option Addr) (l c : Nat) (bs : List Nat) (w : World) (hx : Rd .u8 w A l bs) (hu : U8 bs) (hl : l ≤ 140737488351232) (hcap : l ≤ c) (hcm : c ≤ 9223372036854775807) (hlen : (ddec bs).2 = 0 → (ddec bs).1.length ≤ 4096) :
    Calls Tryz.prog 120 #[.int .i64 4, .slice A l c] w (GcPost (tR (ddec bs)) w) := by
  have HD := Lib.hid (ddecode_any A l c bs w hx hu (by omega) hcap hcm)
  have hR := tR.eq_1 (ddec bs)
  obtain ⟨P, hP⟩ : ∃ P, P = ddec bs := ⟨_, rfl⟩
  rw [← hP] at HD hlen hR
  obtain ⟨L, er⟩ := P
  simp only at hlen hR
  rw [← hP]
  clear hx hu hP
  by_cases he : er = 0
  · subst he
    replace hlen := hlen rfl
    have HR := Lib.hid (hR.trans (if_neg (fun h => h rfl)))
    clear hR
    go_enter Tryz.func120, Tryz.ntmps120
    go_wp2_with fail
    refine HD.out.mono ?_
    rintro e w1 ⟨A1, c1, ts, rfl, hbo, ho, htx, he1⟩
    simp only at hbo
    obtain ⟨n, hn⟩ : ∃ n, n = ts.length := ⟨_, rfl⟩
    have hr := OwnG.rdL ho
    rw [← hn] at hr
    have hn4 : n ≤ 4096 := by rw [hn, ← bodies_len, hbo]; exact hlen
    have Hr := Lib.hid hr
    have Hn := Lib.hid hn
    have Hbo := Lib.hid hbo
    have hz1 := he1.size
    simp only [← Hn.out]
    clear hr hn hbo ho
    go_wp2_with fail
    go_loopw [9, 48] (fun v i wr' => v = .slice none 0 0 ∧ i = .int .i64 0 ∧ w1 = wr') (fun _ _ _ => 0)
    case atStart => exact ⟨rfl, rfl, rfl⟩
    case round =>
      obtain ⟨rfl, rfl, rfl⟩ := hrel
      go_wp2_with fail
      go_loopw [9, 60] (fun v i wr' => ∃ (j : Nat) (A' : Option Addr) (c' : Nat), j ≤ n ∧ i = .int .i64 (j : Int) ∧ v = .slice A' j c' ∧ OwnX wr' w1.heap.size A' c' ((ts.take j).map ciT) ∧ Below w1.heap.size w1 wr') (fun _ i _ => n - (intOf i).toNat)
      case atStart => exact ⟨0, none, 0, Nat.zero_le _, rfl, rfl, OwnX.nil _ _, Ext.refl _⟩
      case round =>
        obtain ⟨j, A', c', hj, rfl, rfl, hown, hb⟩ := hrel
        have hz := hb.size
        by_cases hlt : j < n
        · have h2 : j < ts.length := by rw [← Hn.out]; exact hlt
          obtain ⟨bb, o, rfl, hbb, hcs⟩ := (Hr.out.ext hb).2 (by omega)
          have hcell := hcs j ts[j] (List.getElem?_eq_getElem h2)
          have ht : (ts.take (j + 1)).map ciT = (ts.take j).map ciT ++ [ciT ts[j]] := by rw [List.take_succ_eq_append_getElem h2, List.map_append]; rfl
          have hfl : ((ts.take j).map ciT).length = j := by rw [List.length_map, List.length_take]; omega
          obtain ⟨x, hx⟩ : ∃ x, x = ts[j] := ⟨_, rfl⟩
          rw [← hx] at hcell ht
          obtain ⟨xA, xc, xb⟩ := x
          obtain ⟨q, hq⟩ : ∃ q, q = xb.length := ⟨_, rfl⟩
          have hcell2 : wr.cell? ⟨bb, o + j, none⟩ = some (Value.slice xA q xc) := by rw [hq]; exact hcell
          have Ht := Lib.hid ht
          have Hfl := Lib.hid hfl
          have Hq := Lib.hid hq
          clear hx ht hfl h2 hcell hcs hq
          go_wp2_with (at_builtin; refine wpList_pushX (w0 := w1) (base := w1.heap.size) ⟨false, 0, xA, xc, xb⟩ rfl _ _ rfl (hown.ext ((Ext.refl _).alloc _)) j Hfl.out rfl rfl ?_ (by omega) (Ext.trans hb ((Ext.refl _).alloc _)) (by simp; omega) ?_; (focus (rw [← Hq.out]; exact heap_at (by simp))); intro A3 c3 w3 hO3 _ hE3 hz3)
          go_roundw
          case rel => exact ⟨j + 1, A3, c3, hlt, by go_num, rfl, by rw [Ht.out]; exact hO3, hE3⟩
          case measure => simp [intOf]; omega
        · obtain rfl : j = n := by omega
          rw [List.take_of_length_le (Nat.le_of_eq Hn.out.symm)] at hown
          go_wp2
          go_ret2
          rw [HR.out]
          have hvl : (L.map fun t => ((false, 0, t) : Cv)).length = j := by rw [List.length_map, ← Hbo.out, bodies_len, ← Hn.out]
          exact ⟨ts.map ciT, A', c', by simp only; rw [hvl]; rfl, by rw [← Hbo.out]; exact val_T ts, hown.mono hz1, (txtX_T htx).ext hb, he1.trans hb⟩
  · have heb : (er == 0) = false := beq_eq_false_iff_ne.2 he
    have HR := Lib.hid (hR.trans (if_pos he))
    clear hR he hlen
    go_enter Tryz.func120, Tryz.ntmps120
    go_wp2_with fail
    refine HD.out.mono ?_
    rintro e w1 ⟨A1, c1, ts, rfl, _, _, _, he1⟩
    go_wp2_with fail
    go_ret2
    exact GcPost.bad _ HR.out he1
set_option maxHeartbeats 4000000 in
theorem getCoded5_any (A : Option Addr) (l c : Nat) (bs : List Nat) (w : World) (hx : Rd .u8 w A l bs) (hu : U8 bs) (hl : l ≤ 140737488351232) (hcap : l ≤ c) (hcm : c ≤ 9223372036854775807) (hlen : (pdec bs).2 = 0 → (pdec bs).1.length ≤ 4096) :
    Calls Tryz.prog 120 #[.int .i64 5, .slice A l c] w (GcPost (tR (pdec bs)) w) := by
  have HD := Lib.hid (pdecode11_any A l c bs w hx hu (by omega) hcap hcm)
  have hR := tR.eq_1 (pdec bs)
  obtain ⟨P, hP⟩ : ∃ P, P = pdec bs := ⟨_, rfl⟩
  rw [← hP] at HD hlen hR
  obtain ⟨L, er⟩ := P
  simp only at hlen hR
  rw [← hP]
  clear hx hu hP
  by_cases he : er = 0
  · subst he
    replace hlen := hlen rfl
    have HR := Lib.hid (hR.trans (if_neg (fun h => h rfl)))
    clear hR
    go_enter Tryz.func120, Tryz.ntmps120
    go_wp2_with fail
    refine HD.out.mono ?_
    rintro e w1 ⟨A1, c1, ts, rfl, hbo, ho, htx, he1⟩
    simp only at hbo
    obtain ⟨n, hn⟩ : ∃ n, n = ts.length := ⟨_, rfl⟩
    have hr := OwnG.rdL ho
    rw [← hn] at hr
    have hn4 : n ≤ 4096 := by rw [hn, ← bodies_len, hbo]; exact hlen
    have Hr := Lib.hid hr
    have Hn := Lib.hid hn
    have Hbo := Lib.hid hbo
    have hz1 := he1.size
    simp only [← Hn.out]
    clear hr hn hbo ho
    go_wp2_with fail
    go_loopw [9, 48] (fun v i wr' => v = .slice none 0 0 ∧ i = .int .i64 0 ∧ w1 = wr') (fun _ _ _ => 0)
    case atStart => exact ⟨rfl, rfl, rfl⟩
    case round =>
      obtain ⟨rfl, rfl, rfl⟩ := hrel
      go_wp2_with fail
      go_loopw [9, 60] (fun v i wr' => ∃ (j : Nat) (A' : Option Addr) (c' : Nat), j ≤ n ∧ i = .int .i64 (j : Int) ∧ v = .slice A' j c' ∧ OwnX wr' w1.heap.size A' c' ((ts.take j).map ciT) ∧ Below w1.heap.size w1 wr') (fun _ i _ => n - (intOf i).toNat)
      case atStart => exact ⟨0, none, 0, Nat.zero_le _, rfl, rfl, OwnX.nil _ _, Ext.refl _⟩
      case round =>
        obtain ⟨j, A', c', hj, rfl, rfl, hown, hb⟩ := hrel
        have hz := hb.size
        by_cases hlt : j < n
        · have h2 : j < ts.length := by rw [← Hn.out]; exact hlt
          obtain ⟨bb, o, rfl, hbb, hcs⟩ := (Hr.out.ext hb).2 (by omega)
          have hcell := hcs j ts[j] (List.getElem?_eq_getElem h2)
          have ht : (ts.take (j + 1)).map ciT = (ts.take j).map ciT ++ [ciT ts[j]] := by rw [List.take_succ_eq_append_getElem h2, List.map_append]; rfl
          have hfl : ((ts.take j).map ciT).length = j := by rw [List.length_map, List.length_take]; omega
          obtain ⟨x, hx⟩ : ∃ x, x = ts[j] := ⟨_, rfl⟩
          rw [← hx] at hcell ht
          obtain ⟨xA, xc, xb⟩ := x
          obtain ⟨q, hq⟩ : ∃ q, q = xb.length := ⟨_, rfl⟩
          have hcell2 : wr.cell? ⟨bb, o + j, none⟩ = some (Value.slice xA q xc) := by rw [hq]; exact hcell
          have Ht := Lib.hid ht
          have Hfl := Lib.hid hfl
          have Hq := Lib.hid hq
          clear hx ht hfl h2 hcell hcs hq
          go_wp2_with (at_builtin; refine wpList_pushX (w0 := w1) (base := w1.heap.size) ⟨false, 0, xA, xc, xb⟩ rfl _ _ rfl (hown.ext ((Ext.refl _).alloc _)) j Hfl.out rfl rfl ?_ (by omega) (Ext.trans hb ((Ext.refl _).alloc _)) (by simp; omega) ?_; (focus (rw [← Hq.out]; exact heap_at (by simp))); intro A3 c3 w3 hO3 _ hE3 hz3)
          go_roundw
          case rel => exact ⟨j + 1, A3, c3, hlt, by go_num, rfl, by rw [Ht.out]; exact hO3, hE3⟩
          case measure => simp [intOf]; omega
        · obtain rfl : j = n := by omega
          rw [List.take_of_length_le (Nat.le_of_eq Hn.out.symm)] at hown
          go_wp2
          go_ret2
          rw [HR.out]
          have hvl : (L.map fun t => ((false, 0, t) : Cv)).length = j := by rw [List.length_map, ← Hbo.out, bodies_len, ← Hn.out]
          exact ⟨ts.map ciT, A', c', by simp only; rw [hvl]; rfl, by rw [← Hbo.out]; exact val_T ts, hown.mono hz1, (txtX_T htx).ext hb, he1.trans hb⟩
  · have heb : (er == 0) = false := beq_eq_false_iff_ne.2 he
    have HR := Lib.hid (hR.trans (if_pos he))
    clear hR he hlen
    go_enter Tryz.func120, Tryz.ntmps120
    go_wp2_with fail
    refine HD.out.mono ?_
    rintro e w1 ⟨A1, c1, ts, rfl, _, _, _, he1⟩
    go_wp2_with fail
    go_ret2
    exact GcPost.bad _ HR.out he1
theorem getCoded_any (cd : Int) (hcd : 2 ≤ cd ∧ cd ≤ 5) (A : Option Addr) (l c : Nat) (bs : List Nat) (w : World) (hx : Rd .u8 w A l bs) (hu : U8 bs) (hl : l ≤ 140737488351232) (hcap : l ≤ c) (hcm : c ≤ 9223372036854775807) :
    Calls Tryz.prog 120 #[.int .i64 cd, .slice A l c] w (GcPost (codR cd bs) w) := by
  rcases (show cd = 2 ∨ cd = 3 ∨ cd = 4 ∨ cd = 5 by omega) with rfl | rfl | rfl | rfl
  · exact getCoded2_any A l c bs w hx hu hl hcap hcm
  · exact getCoded3_any A l c bs w hx hu hl hcap hcm
  · exact getCoded4_any A l c bs w hx hu hl hcap hcm (fun h => (ddec_ok hu (ss := (ddec bs).1) (by rw [← h])).2.1)
  · exact getCoded5_any A l c bs w hx hu hl hcap hcm (fun h => (pdec_ok hu (ss := (pdec bs).1) (by rw [← h])).2.1)
def valuesR (k cd : Int) (bs : List Nat) (n : Nat) : List Cv × Int :=
  if cd = 1 then gplR k bs n else if (codR cd bs).2 ≠ 0 then ([], (codR cd bs).2) else if (codR cd bs).1.length ≠ n then ([], 5) else ((codR cd bs).1, 0)
set_option maxHeartbeats 2000000 in
theorem getValues_any (k cd : Int) (hcd : 1 ≤ cd ∧ cd ≤ 5) (A : Option Addr) (l c n : Nat) (bs : List Nat) (w : World) (hx : Rd .u8 w A l bs) (hu : U8 bs) (hl : l ≤ 140737488351232) (hn : n ≤ 4096) (hcap : l ≤ c) (hcm : c ≤ 9223372036854775807) :
    Calls Tryz.prog 79 #[.int .i64 k, .int .i64 cd, .slice A l c, .int .i64 (n : Int)] w (GcPost (valuesR k cd bs n) w) := by
  have hR := valuesR.eq_1 k cd bs n
  by_cases h1 : cd = 1
  · subst h1
    have HR := Lib.hid (hR.trans (if_pos rfl))
    have HP := Lib.hid (getPlain_any k A l c n bs w hx hu (by omega) hn hcap hcm)
    obtain ⟨R, hRR⟩ : ∃ R, R = gplR k bs n := ⟨_, rfl⟩
    rw [← hRR] at HP HR
    clear hR hx hu hRR
    go_enter Tryz.func79, Tryz.ntmps79
    go_wp2_with fail
    refine HP.out.mono ?_
    rintro e w1 ⟨fs, A1, c1, rfl, hv, ho, ht, he⟩
    go_wp2_with fail
    go_ret2
    rw [HR.out]
    exact ⟨fs, A1, c1, rfl, hv, ho, ht, he⟩
  · replace hR := hR.trans (if_neg h1)
    have h1b : (cd == 1) = false := beq_eq_false_iff_ne.2 h1
    have HC := Lib.hid (getCoded_any cd (by omega) A l c bs w hx hu hl hcap hcm)
    obtain ⟨R, hRR⟩ : ∃ R, R = codR cd bs := ⟨_, rfl⟩
    rw [← hRR] at HC hR
    obtain ⟨L, er⟩ := R
    simp only at hR
    clear hx hu hRR h1
    by_cases he : er = 0
    · subst he
      replace hR := hR.trans (if_neg (fun h => h rfl))
      obtain ⟨m, hm⟩ : ∃ m, m = L.length := ⟨_, rfl⟩
      rw [← hm] at hR
      have Hm := Lib.hid hm
      by_cases hmn : m = n
      · have HR := Lib.hid (hR.trans (if_neg (fun h => h hmn)))
        have hb : ((m : Int) != (n : Int)) = false := by rw [hmn]; simp
        clear hR hm
        go_enter Tryz.func79, Tryz.ntmps79
        go_wp2_with fail
        refine HC.out.mono ?_
        rintro e w1 ⟨fs, A1, c1, rfl, hv, ho, ht, he⟩
        simp only [← Hm.out]
        go_wp2_with fail
        go_ret2
        rw [HR.out]
        exact ⟨fs, A1, c1, by simp only; rw [← Hm.out, hmn]; rfl, hv, ho, ht, he⟩
      · have HR := Lib.hid (hR.trans (if_pos hmn))
        have hb : ((m : Int) == (n : Int)) = false := beq_eq_false_iff_ne.2 (by omega)
        clear hR hm hmn
        go_enter Tryz.func79, Tryz.ntmps79
        go_wp2_with fail
        refine HC.out.mono ?_
        rintro e w1 ⟨fs, A1, c1, rfl, hv, ho, ht, he⟩
        simp only [← Hm.out]
        go_wp2_with fail
        go_ret2
        exact GcPost.bad _ HR.out he
    · have heb : (er == 0) = false := beq_eq_false_iff_ne.2 he
      have HR := Lib.hid (hR.trans (if_pos he))
      clear hR he
      go_enter Tryz.func79, Tryz.ntmps79
      go_wp2_with fail
      refine HC.out.mono ?_
      rintro e w1 ⟨fs, A1, c1, rfl, hv, ho, ht, he⟩
      go_wp2_with fail
      go_ret2
      exact GcPost.bad _ HR.out he
theorem wp_storeX {w : World} {o : Oper} {a : Act} {K : Act → World → Prop} {Q : Exit → Act → World → Prop} (f : Ci) (x y : Operand) (ho : o.op = .store 61 x y)
    {base c : Nat} {A : Option Addr} {fs : List Ci} (hown : OwnX w base A c fs) {j : Nat} (hj : j < fs.length) {g o' : Nat} (hA : A = some ⟨g, 0, none⟩) (ho' : o' = j * 3)
    (hx : a.eval x = .pointer (some ⟨g, o', none⟩)) (hy : a.eval y = .agg #[.bool f.nul, .int .i64 f.num, .slice f.A f.txt.length f.c])
    (h : ∀ w', OwnX w' base A c (fs.set j f) → w.grownBy w' (some g) → K (a.put o.dst undef) w') : Oper.wp Tryz.prog o a w K Q := by
  obtain ⟨g', hA', _, _, _, _, ht, hs⟩ := hown.store hj
  rw [hA] at hA'
  injection hA' with hA'
  injection hA' with e1
  subst e1 ho'
  obtain ⟨h1, h2⟩ := hs f
  exact wp_store_mid 61 x y ho g (j * 3) #[.bool f.nul, .int .i64 f.num, .slice f.A f.txt.length f.c] hx hy ht (by kernel_rfl) (by simp [Value.oneCell']) (h _ h1 h2)
theorem wpList_storeX {w : World} {ops : Array Oper} {rest : List Oper} {o : Oper} {a : Act} {Q : Exit → Act → World → Prop} (f : Ci) (hgd : o.guard = none) (x y : Operand) (ho : o.op = .store 61 x y)
    {base c : Nat} {A : Option Addr} {fs : List Ci} (hown : OwnX w base A c fs) {j : Nat} (hj : j < fs.length) {g o' : Nat} (hA : A = some ⟨g, 0, none⟩) (ho' : o' = j * 3)
    (hx : a.eval x = .pointer (some ⟨g, o', none⟩)) (hy : a.eval y = .agg #[.bool f.nul, .int .i64 f.num, .slice f.A f.txt.length f.c])
    (h : ∀ w', OwnX w' base A c (fs.set j f) → w.grownBy w' (some g) → wpList Tryz.prog ops Q rest (a.put o.dst undef) w') : wpList Tryz.prog ops Q (o :: rest) a w :=
  wpList_plain hgd fun _ hK => wp_storeX f x y ho hown hj hA ho' hx hy fun w' h1 h2 => hK _ _ (h w' h1 h2)
def wN : List Nat → List Cv → List Cv
  | [], _ => []
  | u :: r, vs => if u = 1 then (true, 0, []) :: wN r vs else match vs with
    | [] => []
    | v :: s => v :: wN r s
def Ci.null : Ci := ⟨true, 0, Option.none, 0, []⟩
theorem Tryz.elemX : Tryz.prog.elem 25 = 61 := by kernel_rfl
theorem run_sizeX (w : World) : (sizeOf (Tryz.prog.elem 25)).run Tryz.prog w = .ok 3 w := by
  obtain ⟨i, hi0, hz, hsz, hbs⟩ := info_parts Tryz.infoCell
  rw [Tryz.elemX]
  simp [sizeOf, typeInfo, hi0, hsz]
theorem Tryz.underX : Tryz.prog.underlying 25 = some (.slice (Tryz.prog.elem 25)) := by kernel_rfl
def offX (A : Option Addr) (k m : Nat) : Option Addr := if m = k then A else A.map (·.add (k * 3))
theorem RdX.offX {w : World} {A : Option Addr} {n k m : Nat} {xs : List Ci} (h : RdX w A n xs) (hk : k ≤ n) (hm : n ≤ m) : RdX w (offX A k m) (n - k) (xs.drop k) := by
  refine ⟨by rw [List.length_drop, h.1], fun hn => ?_⟩
  obtain ⟨b, o, rfl, hb, hc⟩ := h.2 (by omega)
  refine ⟨b, o + k * 3, by unfold Go.Proofs.YthibbgmicmfkfaaGreat.offX; rw [if_neg (by omega)]; simp [Addr.add], hb, fun j x hj => ?_⟩
  rw [List.getElem?_drop] at hj
  have := hc (k + j) x hj
  rw [show o + k * 3 + j * 3 = o + (k + j) * 3 by omega]
  exact this
theorem run_fromX (A : Option Addr) (n c k : Nat) (hk : k ≤ n) : ∀ W : World, (Instr.slice 25 (.slice A n c) (some (.int .i64 (k : Int))) none none).run Tryz.prog W = .ok (.slice (offX A k c) (n - k : Nat) (c - k : Nat)) W := by
  intro W
  rw [run_slice_l W _ A n c Tryz.underX .i64 k (by omega) (by omega), run_sizeX]
  simp only [Result.andThen, sliced, Int.toNat_natCast]
  rfl
theorem xcells_set0 : ∀ (xs : List Ci) (j : Nat) (x : Ci) (b : Bool), xs[j]? = some x → (xcells xs).set (j * 3) (.bool b) = xcells (xs.set j ⟨b, x.num, x.A, x.c, x.txt⟩)
  | [], j, x, b, h => by simp at h
  | y :: r, 0, x, b, h => by
    simp at h
    subst h
    rfl
  | y :: r, j + 1, x, b, h => by
    have ih := xcells_set0 r j x b (by simpa using h)
    have hc : ∀ (z : Ci) (zs : List Ci), xcells (z :: zs) = z.cells ++ xcells zs := fun z zs => by simp [xcells]
    rw [List.set_cons_succ, hc, hc, ← ih, List.set_append_right _ _ (by show 3 ≤ _; omega)]
    congr 2
    show (j + 1) * 3 - 3 = j * 3
    omega
theorem OwnX.setNul {w : World} {base c : Nat} {xs : List Ci} {g : Nat} (h : OwnX w base (some ⟨g, 0, none⟩) c xs) {j : Nat} {x : Ci} (hj : xs[j]? = some x) (b : Bool) :
    w.cell? ⟨g, j * 3, none⟩ = some (.bool x.nul) ∧ w.frozen? ⟨g, j * 3, none⟩ = false ∧ OwnX (w.setCell ⟨g, j * 3, none⟩ (.bool b)) base (some ⟨g, 0, none⟩) c (xs.set j ⟨b, x.num, x.A, x.c, x.txt⟩) ∧ w.grownBy (w.setCell ⟨g, j * 3, none⟩ (.bool b)) (some g) := by
  have h0 := h
  unfold OwnX at h0
  have hjl : j < xs.length := (List.getElem?_eq_some_iff.1 hj).1
  obtain ⟨a1, b1⟩ := World.ownsRow.stored h0 (j * 3) (.bool b)
  refine ⟨?_, World.ownsRow.frozenAt h0 _, ?_, b1⟩
  · rw [World.ownsRow.cellAt h0 _ (by omega)]
    exact (xcells_at hj 0 (by omega)).trans rfl
  · unfold OwnX
    rw [List.length_set, ← xcells_set0 xs j x b hj]
    exact a1
theorem set_mid {T : Type} {don : List T} {j m : Nat} {z y : T} (h : don.length = j) : (don ++ List.replicate (m + 1) z).set j y = (don ++ [y]) ++ List.replicate m z := by
  rw [List.set_append_right _ _ (by omega), h, Nat.sub_self, List.replicate_succ, List.set_cons_zero, List.append_assoc]
  rfl
theorem TxtX.null {w : World} {base : Nat} {don ys : List Ci} (h : TxtX w base (don ++ ys)) : TxtX w base ((don ++ [Ci.null]) ++ ys) := by
  refine ⟨fun x hx => ?_, ?_⟩
  · rcases List.mem_append.1 hx with h1 | h1
    · rcases List.mem_append.1 h1 with h2 | h2
      · exact h.1 x (List.mem_append_left _ h2)
      · rw [List.mem_singleton.1 h2]
        exact Own.nil ..
    · exact h.1 x (List.mem_append_right _ h1)
  · have hp := h.2
    rw [List.pairwise_append] at hp ⊢
    refine ⟨?_, hp.2.1, fun x hx y hy => ?_⟩
    · rw [List.pairwise_append]
      refine ⟨hp.1, by simp, fun x hx y hy p q hp' hq => ?_⟩
      rw [List.mem_singleton.1 hy] at hq
      cases hq
    · rcases List.mem_append.1 hx with h2 | h2
      · exact hp.2.2 x h2 y hy
      · intro p q hp' hq
        rw [List.mem_singleton.1 h2] at hp'
        cases hp'
theorem wN_null {u : Nat} {r : List Nat} {vs : List Cv} (h : u = 1) : wN (u :: r) vs = (true, 0, []) :: wN r vs := by cases vs <;> simp [wN, h]
theorem wN_val {u : Nat} {r : List Nat} {v : Cv} {s : List Cv} (h : ¬ u = 1) : wN (u :: r) (v :: s) = v :: wN r s := by simp [wN, h]
set_option maxHeartbeats 3200000 in
theorem withNulls_any (A : Option Addr) (n c : Nat) (us : List Nat) (B : Option Addr) (m d base : Nat) (ys : List Ci) (w : World) (hx : Rd .u64 w A n us) (hu : ∀ u ∈ us, u < 2) (hy : RdX w B m ys) (ht : TxtX w base ys) (hb : base ≤ w.heap.size) (hcnt : us.count 0 = m) (hn : n ≤ 4096) (hd : m ≤ d) (hdm : d ≤ 9223372036854775807) :
    Calls Tryz.prog 81 #[.slice A n c, .slice B m d] w fun e w' => ∃ fs c', e = .returned (.slice (some ⟨w.heap.size, 0, none⟩) n c') ∧ fs.length = n ∧ fs.map Ci.val = wN us (ys.map Ci.val) ∧ OwnX w' w.heap.size (some ⟨w.heap.size, 0, none⟩) c' fs ∧ TxtX w' base fs ∧ Ext w w' := by
  have Hl := Lib.hid hx.len
  have Hx := Lib.hid hx
  have Hu := Lib.hid hu
  have H0 := Lib.hid (show ((us.drop 0).count 0 = m - 0) by simpa using hcnt)
  have HR0 := Lib.hid (show ([] : List Ci).map Ci.val ++ wN (us.drop 0) ((ys.drop 0).map Ci.val) = wN us (ys.map Ci.val) from by simp)
  have Hy := Lib.hid (show RdX w B (m - 0) (ys.drop 0) from by simpa using hy)
  have Ht := Lib.hid (show TxtX w base ([] ++ ys.drop 0) from by simpa using ht)
  obtain ⟨R, hR⟩ : ∃ R, R = wN us (ys.map Ci.val) := ⟨_, rfl⟩
  rw [← hR] at HR0 ⊢
  have Hb := Lib.hid hb
  clear hx hu hcnt hy ht hR hb
  go_enter Tryz.func81, Tryz.ntmps81
  go_wp2_with (refine wpList_mkX rfl (.tmp 8) (.tmp 8) rfl .i64 .i64 n rfl rfl rfl rfl (by omega) ?_; intro w2 hown2 he2)
  obtain ⟨g, hg⟩ : ∃ g, g = w.heap.size := ⟨_, rfl⟩
  rw [← hg] at hown2 ⊢
  have Hg := Lib.hid hg
  have H2 := Lib.hid (show OwnX w2 g (some ⟨g, 0, none⟩) n ([] ++ List.replicate (n - 0) Ci.none) from hown2)
  have HE2 := Lib.hid he2
  clear hg hown2 he2
  go_loopw [1, 6, 12] (fun vv _ i wr => ∃ (j k : Nat) (B' : Option Addr) (d' : Nat) (don : List Ci), j ≤ n ∧ k ≤ m ∧ i = .int .i64 j ∧ vv = .slice B' (m - k : Nat) d' ∧ m - k ≤ d' ∧ d' ≤ 9223372036854775807 ∧ Hid (RdX w B' (m - k) (ys.drop k)) ∧ Hid (don.length = j) ∧ Hid ((us.drop j).count 0 = m - k) ∧ Hid (don.map Ci.val ++ wN (us.drop j) ((ys.drop k).map Ci.val) = R) ∧ Hid (OwnX wr g (some ⟨g, 0, none⟩) n (don ++ List.replicate (n - j) Ci.none)) ∧ Hid (TxtX w base (don ++ ys.drop k)) ∧ Hid (Ext w wr)) (fun _ _ i _ => n - (intOf i).toNat)
  case atStart => exact ⟨0, 0, B, d, [], Nat.zero_le _, Nat.zero_le _, rfl, rfl, by omega, hdm, Hy.out, rfl, H0.out, HR0.out, H2.out, Ht.out, HE2.out⟩
  case round =>
    clear H0 HR0 Hy Ht H2 HE2
    obtain ⟨j, k, B', d', don, hj, hk, rfl, rfl, hd1, hd2, HY, HD, HC, HR, HO, HT, HE⟩ := hrel
    by_cases hlt : j < n
    · obtain ⟨b, o, hA, hbl, hc⟩ := (Hx.out.ext HE.out).at_ hlt
      subst hA
      have hjl : j < us.length := by rw [Hl.out]; exact hlt
      have hd0 : us.drop j = us[j] :: us.drop (j + 1) := List.drop_eq_getElem_cons hjl
      have hgd : us.getD j 0 = us[j] := by simp [List.getD_eq_getElem?_getD, List.getElem?_eq_getElem hjl]
      rw [hgd] at hc
      have hu2 : us[j] < 2 := Hu.out _ (List.getElem_mem hjl)
      obtain ⟨u, hue⟩ : ∃ u, u = us[j] := ⟨_, rfl⟩
      rw [← hue] at hc hd0 hu2
      have Hd0 := Lib.hid hd0
      have hrep : n - j = (n - (j + 1)) + 1 := by omega
      have hown := HO.out
      rw [hrep] at hown
      clear hd0 hgd hue hjl
      by_cases hu1 : u = 1
      · subst hu1
        have hnone : (don ++ List.replicate (n - (j + 1) + 1) Ci.none)[j]? = some Ci.none := by
          rw [List.getElem?_append_right (by rw [HD.out]; exact Nat.le_refl _), HD.out, Nat.sub_self]; rfl
        obtain ⟨q1, q2, q3, q4⟩ := hown.setNul hnone true
        have q5 := set_mid (m := n - (j + 1)) (z := Ci.none) (y := Ci.null) HD.out
        have HO2 : Hid (OwnX (wr.setCell ⟨g, j * 3, none⟩ (.bool true)) g (some ⟨g, 0, none⟩) n ((don ++ [Ci.null]) ++ List.replicate (n - (j + 1)) Ci.none)) := Lib.hid (by rw [← q5]; exact q3)
        have HE3 : Hid (Ext w (wr.setCell ⟨g, j * 3, none⟩ (.bool true))) := Lib.hid (Below.grown HE.out q4 HE.out.size (fun g' hg' => by injection hg' with hg'; have := Hg.out; omega))
        have HR3 : Hid ((don ++ [Ci.null]).map Ci.val ++ wN (us.drop (j + 1)) ((ys.drop k).map Ci.val) = R) := Lib.hid (by
          rw [← HR.out, Hd0.out, wN_null rfl, List.map_append, List.append_assoc]; rfl)
        have HC3 : Hid ((us.drop (j + 1)).count 0 = m - k) := Lib.hid (by rw [← HC.out, Hd0.out]; simp)
        have HT3 := Lib.hid HT.out.null
        have HD3 : Hid ((don ++ [Ci.null]).length = j + 1) := Lib.hid (by rw [List.length_append, HD.out]; rfl)
        clear hown hnone q3 q4 q5
        go_wp2_with fail
        go_roundw
        case rel => exact ⟨j + 1, k, B', d', don ++ [Ci.null], by omega, hk, by go_num, rfl, hd1, hd2, HY.out, HD3.out, HC3.out, HR3.out, HO2.out, HT3.out, HE3.out⟩
        case measure => simp [intOf]; omega
      · obtain rfl : u = 0 := by omega
        have hmk : 0 < m - k := by
          have := HC.out
          rw [Hd0.out, List.count_cons] at this
          simp at this
          omega
        obtain ⟨b2, o2, y, hB, hbl2, hyj, y0, y1, y2, yin⟩ := (HY.out.ext HE.out).at_ hmk
        have HYo := Lib.hid (HY.out.offX (k := 1) (m := d') (by omega) hd1)
        have hsl := run_fromX B' (m - k) d' 1 (by omega)
        rw [hB] at hsl HYo
        have hdk : ys.drop k = y :: ys.drop (k + 1) := by
          have h1 : (ys.drop k)[0]? = some y := hyj
          rw [List.getElem?_drop, Nat.add_zero] at h1
          obtain ⟨h2, h3⟩ := List.getElem?_eq_some_iff.1 h1
          rw [List.drop_eq_getElem_cons h2, h3]
        simp only [Nat.zero_mul, Nat.add_zero] at y0 y1 y2
        have Hdk := Lib.hid hdk
        have q5 := set_mid (m := n - (j + 1)) (z := Ci.none) (y := y) HD.out
        have HO4 := Lib.hid hown
        have hjf : j < (don ++ List.replicate (n - (j + 1) + 1) Ci.none).length := by rw [List.length_append, List.length_replicate, HD.out]; omega
        have HR3 : Hid ((don ++ [y]).map Ci.val ++ wN (us.drop (j + 1)) ((ys.drop (k + 1)).map Ci.val) = R) := Lib.hid (by
          rw [← HR.out, Hd0.out, hdk, List.map_cons, wN_val (by decide), List.map_append, List.append_assoc]; rfl)
        have HC3 : Hid ((us.drop (j + 1)).count 0 = m - (k + 1)) := Lib.hid (by
          have := HC.out
          rw [Hd0.out, List.count_cons] at this
          simp at this
          omega)
        have HT3 : Hid (TxtX w base ((don ++ [y]) ++ ys.drop (k + 1))) := Lib.hid (by
          have := HT.out
          rw [hdk] at this
          rw [List.append_assoc]
          exact this)
        have HD3 : Hid ((don ++ [y]).length = j + 1) := Lib.hid (by rw [List.length_append, HD.out]; rfl)
        have HY3 : Hid (RdX w (offX (some ⟨b2, o2, none⟩) 1 d') (m - (k + 1)) (ys.drop (k + 1))) := Lib.hid (by
          have := HYo.out
          rw [List.drop_drop] at this
          rw [show m - (k + 1) = m - k - 1 by omega]
          exact this)
        have Hq5 := Lib.hid q5
        have i1 : (0 : Int) < ((m - k : Nat) : Int) := by omega
        have Hmk := Lib.hid hmk
        subst hB
        clear hown hdk q5 HYo hyj yin hmk
        obtain ⟨yn, yi, yA, yc, yt⟩ := y
        simp only at y0 y1 y2
        go_wp2_with (refine wpList_storeX ⟨yn, yi, yA, yc, yt⟩ rfl (.tmp 29) (.tmp 28) rfl HO4.out hjf rfl (by first | rfl | omega) rfl rfl ?_; intro w5 hown5 hg5)
        have HE3 : Hid (Ext w w5) := Lib.hid (Below.grown HE.out hg5 HE.out.size (fun g' hg' => by injection hg' with hg'; have := Hg.out; omega))
        have HO3 : Hid (OwnX w5 g (some ⟨g, 0, none⟩) n ((don ++ [⟨yn, yi, yA, yc, yt⟩]) ++ List.replicate (n - (j + 1)) Ci.none)) := Lib.hid (by rw [← Hq5.out]; exact hown5)
        clear hown5 hg5
        go_roundw
        case rel => exact ⟨j + 1, k + 1, _, d' - 1, don ++ [(⟨yn, yi, yA, yc, yt⟩ : Ci)], by omega, by have := Hmk.out; omega, by go_num, by first | rfl | go_num | (congr 1; omega), by omega, by omega, HY3.out, HD3.out, HC3.out, HR3.out, HO3.out, HT3.out, HE3.out⟩
        case measure => simp [intOf]; omega
    · obtain rfl : j = n := by omega
      have hr := HR.out
      rw [List.drop_of_length_le (Nat.le_of_eq Hl.out)] at hr
      have hkm : m - k = 0 := by rw [← HC.out, List.drop_of_length_le (Nat.le_of_eq Hl.out)]; rfl
      have HRg := Lib.hid (show don.map Ci.val = R by rw [← hr]; simp [wN])
      have HO5 := Lib.hid (show OwnX wr g (some ⟨g, 0, none⟩) j don by have := HO.out; rw [Nat.sub_self, List.replicate_zero, List.append_nil] at this; exact this)
      have HT5 : Hid (TxtX w base don) := Lib.hid (by
        refine ⟨fun x hx => HT.out.1 x (List.mem_append_left _ hx), ?_⟩
        have := HT.out.2
        rw [List.pairwise_append] at this
        exact this.1)
      clear hr hkm
      go_wp2_with fail
      go_ret
      exact ⟨don, j, by rw [← Hg.out]; rfl, HD.out, HRg.out, by rw [← Hg.out]; exact HO5.out, HT5.out.ext HE.out, HE.out⟩
theorem flat_r64 {l : Option Int} {rs : List (Int × Int)} (h : GoodR l rs) : R64s (flat rs) := by
  intro v hv
  obtain ⟨q, hq, hv⟩ := List.mem_flatten.1 hv
  obtain ⟨r, hr, rfl⟩ := List.mem_map.1 hq
  obtain ⟨_, rfl⟩ := List.mem_replicate.1 hv
  exact (h.mem r hr).2
theorem back8 {bs : List Nat} (hb : U8 bs) (h : (decode8 bs).2 = 0) : encode8 (decode8 bs).1 = (bs, 0) ∧ R64s (decode8 bs).1 := by
  rcases hd : decode8 bs with ⟨zs, e⟩
  rw [hd] at h
  simp only at h
  subst h
  obtain ⟨rs, h1, h2, h3, h4, h5⟩ := decode8_only hb hd
  refine ⟨?_, by show R64s zs; rw [h2]; exact flat_r64 h1⟩
  show encode8 zs = (bs, 0)
  unfold encode8
  rw [if_neg (by omega), ← h5, h3]
set_option maxHeartbeats 3200000 in
theorem refPencode_any (A : Option Addr) (n c : Nat) (vs : List Int) (w : World) (hx : RdG shZ w A n vs) (hv : R64s vs) :
    Calls Tryz.prog 198 #[.slice A n c] w (Enc9Post vs w) := by
  have hl := hx.len
  unfold Enc9Post
  by_cases hbig : 4096 < n
  · rw [show encode9 vs = ([], 4) by unfold encode9; rw [if_pos (by omega)]]
    clear hl
    go_enter Tryz.func198, Tryz.ntmps198
    go_wp2_with fail
    go_ret2
    exact ⟨none, 0, rfl, Own.nil _ _ _ _, Ext.refl w⟩
  · have hd4 : decide ((4096 : Int) < (n : Int)) = false := decide_eq_false (by omega)
    rw [show encode9 vs = (encP vs, 0) by unfold encode9; rw [if_neg (by omega)]]
    rcases Nat.eq_zero_or_pos n with h0 | hp
    · subst h0
      have hP : encP vs = vput 0 := by unfold encP; rw [if_pos hl]
      rw [hP]
      have HV := Lib.hid hP
      clear hl hP
      go_enter Tryz.func198, Tryz.ntmps198
      go_wp2_with fail
      refine (refPut_any 0 _ (by omega)).mono ?_
      rintro e w2 ⟨A2, c2, rfl, hown2, he2⟩
      go_wp2_with fail
      go_ret2
      exact ⟨A2, c2, rfl, hown2, he2⟩
    · have hP : encP vs = vput n ++ (vput (foldS (lo vs)).toNat ++ ([wid vs] ++ packB (wid vs) (dst (lo vs) vs))) := by unfold encP; rw [if_neg (by omega), hl]
      rw [hP]
      have hlm := hv _ (lo_mem (show 0 < vs.length by omega))
      have hle := lo_le (xs := vs)
      have hw64 := wid_le hv (show 0 < vs.length by omega)
      obtain ⟨hpE, hpL⟩ := pack_dst hv (show 0 < vs.length by omega) (by omega)
      have hpl := packB_len9 (wid vs) (dst (lo vs) vs)
      rw [dst_len, hl] at hpl
      have hdu := dst_u64 hv hlm
      have hdl := (dst_len (lo vs) vs).trans hl
      obtain ⟨f0, f1⟩ := fold_range hlm
      obtain ⟨u, hu⟩ : ∃ u : Nat, foldS (lo vs) = (u : Int) := ⟨(foldS (lo vs)).toNat, by omega⟩
      rw [hu, Int.toNat_natCast]
      have hMin : Hid (∀ W, Ext w W → Calls Tryz.prog 211 #[.slice A n c] W fun e w' => e = .returned (.int .i64 (lo vs)) ∧ W = w') := Lib.hid fun W hW => pleast_any A n c vs W (hx.ext hW) hp (by omega)
      have hDst : Hid (∀ j, j < n → R64 (vs.getD j 0) ∧ lo vs ≤ vs.getD j 0 ∧ (dst (lo vs) vs).getD j 0 = (vs.getD j 0 - lo vs).toNat) := Lib.hid fun j hj => ⟨hv _ (mem_getD (by omega)), hle _ (mem_getD (by omega)), dst_at (by omega)⟩
      have hLm := Lib.hid hlm
      have hPk : Hid (∀ (B : Option Addr) (cb : Nat) W, Rd .u64 W B n (dst (lo vs) vs) → Calls Tryz.prog 165 #[.int .i64 (wid vs : Nat), .slice B n cb] W fun e w' => ∃ A' c', e = .returned (.tuple #[.slice A' (packB (wid vs) (dst (lo vs) vs)).length c', .int .i64 0]) ∧ Own .u8 5 w' W.heap.size A' c' (packB (wid vs) (dst (lo vs) vs)) ∧ Ext W w') := Lib.hid fun B cb W h => by
        have := refPack_any B n cb (wid vs) (dst (lo vs) vs) W h hdu (by omega)
        unfold PackPost at this
        rw [hpE, hpL] at this
        exact this
      have hWd : Hid (∀ (B : Option Addr) (cb : Nat) W, Rd .u64 W B n (dst (lo vs) vs) → Calls Tryz.prog 84 #[.slice B n cb] W fun e w' => e = .returned (.int .i64 (wid vs : Nat)) ∧ W = w') := Lib.hid fun B cb W h => refWidth_any B n cb (dst (lo vs) vs) W h hdu (by omega)
      have hFo : Hid (∀ W, Calls Tryz.prog 196 #[.int .i64 (lo vs)] W fun e w' => e = .returned (.int .u64 (u : Int)) ∧ W = w') := Lib.hid fun W => by rw [← hu]; exact refFold_any _ W hlm.1 hlm.2
      obtain ⟨l, hle'⟩ : ∃ l, l = lo vs := ⟨_, rfl⟩
      obtain ⟨d, hde⟩ : ∃ d, d = wid vs := ⟨_, rfl⟩
      obtain ⟨D, hDe⟩ : ∃ D, D = dst (lo vs) vs := ⟨_, rfl⟩
      rw [← hDe, ← hde] at hPk hpl
      rw [← hDe] at hDst hWd hdl
      rw [← hde] at hWd hw64
      rw [← hDe, ← hde]
      rw [← hle'] at hMin hDst hFo hLm
      obtain ⟨Q, hQ⟩ : ∃ Q, Q = packB d D := ⟨_, rfl⟩
      rw [← hQ] at hPk hpl ⊢
      obtain ⟨q, hq⟩ : ∃ q, q = Q.length := ⟨_, rfl⟩
      rw [← hq] at hPk hpl
      have Hq := Lib.hid hq.symm
      have Hdl := Lib.hid hdl
      have hdn : d * n ≤ 64 * 4096 := Nat.mul_le_mul hw64 (by omega)
      have hq4 : q ≤ 40000 := by rw [hpl]; omega
      have hvn := vsize_le (u := n) (by omega)
      have hvu := vsize_le (u := u) (by omega)
      rw [← vput_len] at hvn hvu
      obtain ⟨V1, hV1⟩ : ∃ V, V = vput n := ⟨_, rfl⟩
      obtain ⟨V2, hV2⟩ : ∃ V, V = vput u := ⟨_, rfl⟩
      have HV1 := Lib.hid hV1
      have HV2 := Lib.hid hV2
      rw [← hV1] at hvn ⊢
      rw [← hV2] at hvu ⊢
      obtain ⟨L, hL⟩ : ∃ L, L = V1 ++ (V2 ++ ([d] ++ Q)) := ⟨_, rfl⟩
      rw [← hL]
      have HLe := Lib.hid hL
      have hn4 : n ≤ 4096 := by omega
      have Hu64 := Lib.hid (show u < 18446744073709551616 by omega)
      have hd8 : IntKind.u8.wrap (d : Int) = (d : Int) := IntWalk.u8_in _ (by omega)
      have hn0 : ((n : Int) == 0) = false := by rw [beq_eq_false_iff_ne]; omega
      have hwn : IntKind.u64.wrap (n : Int) = (n : Int) := IntWalk.u64_in _ (by omega)
      clear hl hlm hle hpE hpL hdu hdl f0 f1 hu hle' hde hDe hQ hq hpl hdn hV1 hV2 hL hP hv hbig
      go_enter Tryz.func198, Tryz.ntmps198
      go_wp2_with fail
      refine (refPut_any n _ (by omega)).mono ?_
      rintro e w1 ⟨A1, c1, rfl, hown1, he1⟩
      rw [← HV1.out] at hown1 ⊢
      have hr1 := hown1.rd
      clear hown1
      go_wp2_with fail
      refine (hMin.out _ he1).mono ?_
      rintro e w2 ⟨rfl, rfl⟩
      go_wp2_with fail
      go_loopw [6, 7] (fun y i wr => ∃ (j : Nat) (A' : Option Addr) (c' : Nat), j ≤ n ∧ i = .int .i64 j ∧ y = .slice A' j c' ∧ Own .u64 69 wr w1.heap.size A' c' (D.take j) ∧ Below w1.heap.size w1 wr) (fun _ i _ => n - (intOf i).toNat)
      case atStart => exact ⟨0, _, _, Nat.zero_le _, rfl, rfl, Own.made _ _ _ (Nat.le_refl _), (Ext.refl w1).alloc _⟩
      case round =>
        obtain ⟨j, A', c', hj, rfl, rfl, hown, hb⟩ := hrel
        have hz : w1.heap.size ≤ wr.heap.size := hb.size
        by_cases hlt : j < n
        · obtain ⟨b, o, rfl, hbl, hc⟩ := ((hx.ext he1).ext hb).atZ hlt
          obtain ⟨g1, g2, g3⟩ := hDst.out j hlt
          have hw := wrap_dist g1 hLm.out g2
          obtain ⟨v, hve⟩ : ∃ v, v = vs.getD j 0 := ⟨_, rfl⟩
          obtain ⟨x, hxe⟩ : ∃ x, x = D.getD j 0 := ⟨_, rfl⟩
          rw [← hve] at hc g2 g3 hw
          rw [← hxe] at g3
          rw [show v - l = (x : Int) by omega] at hw
          have htl : (D.take j).length = j := by rw [List.length_take, Hdl.out]; omega
          have Htl := Lib.hid htl
          have Htk := Lib.hid (take_next D j (by have := Hdl.out; omega))
          rw [← hxe] at Htk
          clear htl hve hxe g1 g2 g3
          go_wp2_with (at_builtin; refine wpList_push .u64 x 69 rfl _ _ 72 rfl _ 8 Tryz.underlying72 Tryz.infoU64 rfl hown j Htl.out rfl rfl rfl (by omega) (by omega) hb hz ?_; intro A1 c1 w2 hown1 hb1 hz1)
          go_roundw
          case rel => exact ⟨j + 1, A1, c1, by omega, by go_num, rfl, by rw [Htk.out]; exact hown1, hb1⟩
          case measure => simp [intOf]; omega
        · obtain rfl : j = n := by omega
          rw [List.take_of_length_le (by have := Hdl.out; omega)] at hown
          have hr2 := hown.rd' Hdl.out
          have he2 : Ext w1 wr := hb
          clear hown hb
          go_wp2_with fail
          refine (hWd.out _ _ _ hr2).mono ?_
          rintro e w3 ⟨rfl, rfl⟩
          go_wp2_with fail
          refine (hPk.out _ _ _ hr2).mono ?_
          rintro e w3 ⟨A3, c3, rfl, hown3, he3⟩
          have hr3 := hown3.rd' Hq.out
          clear hown3
          go_wp2_with fail
          refine (hFo.out _).mono ?_
          rintro e w4 ⟨rfl, rfl⟩
          go_wp2_with fail
          refine (refPut_any u _ Hu64.out).mono ?_
          rintro e w4 ⟨A4, c4, rfl, hown4, he4⟩
          rw [← HV2.out] at hown4 ⊢
          have hr4 := hown4.rd
          clear hown4
          go_wp2_with fail
          refine (cat_any _ _ V1.length _ V2.length _ V1 V2 _ (((hr1.ext he2).ext he3).ext he4) hr4 (by omega)).mono ?_
          rintro e w5 ⟨A5, c5, rfl, hown5, he5⟩
          have hl5 : (V1 ++ V2).length = V1.length + V2.length := List.length_append
          have Hl5 := Lib.hid hl5
          have hb5 := he5.size
          clear hl5
          go_wp2_with (at_builtin; refine wpList_push (w0 := w4) (base := w4.heap.size) .u8 d 5 rfl _ _ 22 rfl _ 1 Tryz.underlying22 Tryz.infoU8 rfl hown5 (V1.length + V2.length) Hl5.out rfl rfl rfl (by omega) (by omega) he5 hb5 ?_; intro A6 c6 w6 hown6 hb6 hz6)
          have hl6 : (V1 ++ V2 ++ [d]).length = V1.length + V2.length + 1 := by rw [List.length_append, Hl5.out]; rfl
          have hr6 := hown6.rd' hl6
          have he6 : Ext w4 w6 := hb6
          clear hl6 hown6 hown5
          refine (cat_any _ _ (V1.length + V2.length + 1) _ q _ (V1 ++ V2 ++ [d]) Q _ hr6 ((hr3.ext he4).ext he6) (by omega)).mono ?_
          rintro e w7 ⟨A7, c7, rfl, hown7, he7⟩
          have hfin : V1 ++ V2 ++ [d] ++ Q = L := by rw [HLe.out]; simp
          have hlen : V1.length + V2.length + 1 + q = L.length := by rw [← hfin]; simp [Hq.out]; omega
          rw [hfin] at hown7
          rw [hlen]
          have hE7 : Ext w w7 := ((((he1.trans he2).trans he3).trans he4).trans he6).trans he7
          have hb7 := (((he1.trans he2).trans he3).trans he4).trans he6 |>.size
          clear hfin hlen
          go_wp2_with fail
          go_ret2
          exact ⟨A7, c7, rfl, hown7.mono hb7, hE7⟩
theorem dst_above (l : Int) (far : List Nat) : dst l (above l far) = far := by
  unfold dst above
  rw [List.map_map]
  conv => rhs; rw [← List.map_id far]
  refine List.map_congr_left fun x _ => ?_
  show (l + (x : Int) - l).toNat = x
  omega
theorem lo_above {l : Int} {far : List Nat} (h : 0 ∈ far) : lo (above l far) = l := by
  have h1 : l ∈ above l far := List.mem_map.2 ⟨0, h, by simp⟩
  have h2 := lo_le _ h1
  have h3 := lo_mem (List.length_pos_of_mem h1)
  obtain ⟨x, _, hx⟩ := List.mem_map.1 h3
  omega
theorem packL_ok {wd : Nat} {vs : List Nat} (h : packE wd vs = 0) : packL wd vs = packB wd vs := by unfold packL; rw [if_pos h]; rfl
theorem only9 {bs : List Nat} (hu : U8 bs) (h : (decode9 bs).2 = 0) : encode9 (decode9 bs).1 = (bs, 0) ∧ R64s (decode9 bs).1 := by
  rcases hd : decode9 bs with ⟨vs, e⟩
  rw [hd] at h
  simp only at h
  subst h
  show encode9 vs = (bs, 0) ∧ R64s vs
  unfold decode9 at hd
  rcases hg : vget bs 0 with ⟨M, a, e1⟩
  rw [hg] at hd
  simp only at hd
  by_cases h1 : e1 = 0
  · subst h1
    rw [if_neg (by simp)] at hd
    obtain ⟨p1, p2, p3, p4, p5⟩ := vget_at hu hg
    by_cases h2 : 4096 < M
    · rw [if_pos h2] at hd; injection hd with _ hd; exact absurd hd (by decide)
    rw [if_neg h2] at hd
    by_cases h3 : M = 0
    · subst h3
      rw [if_pos rfl] at hd
      by_cases h4 : a < (bs.length : Int)
      · rw [if_pos h4] at hd; injection hd with _ hd; exact absurd hd (by decide)
      · rw [if_neg h4] at hd
        injection hd with hd _
        subst hd
        refine ⟨?_, fun v hv => by cases hv⟩
        have : bs = vput 0 := by
          rw [p5, show (0 : Int).toNat = 0 from rfl, List.drop_zero, List.take_of_length_le (by omega)]
        rw [this]
        rfl
    · rw [if_neg h3] at hd
      unfold decSome at hd
      rcases hg2 : vget bs a with ⟨u, a2, e2⟩
      rw [hg2] at hd
      simp only at hd
      by_cases h4 : e2 = 0
      · subst h4
        rw [if_neg (by simp)] at hd
        obtain ⟨q1, q2, q3, q4, q5⟩ := vget_at hu hg2
        obtain ⟨k, rfl⟩ : ∃ k : Nat, a = (k : Int) := ⟨a.toNat, by omega⟩
        obtain ⟨q, rfl⟩ : ∃ q : Nat, a2 = (q : Int) := ⟨a2.toNat, by omega⟩
        rw [Int.toNat_natCast] at hd
        simp only [Int.toNat_natCast, Int.toNat_zero, List.drop_zero, Nat.sub_zero] at p5 q5
        have hle := unf_range q4
        have hfu : foldS (unfS (u : Int)) = (u : Int) := fold_unf (by omega)
        obtain ⟨l, hl⟩ : ∃ l, l = unfS (u : Int) := ⟨_, rfl⟩
        rw [← hl] at hd hle hfu
        unfold decTail at hd
        by_cases h5 : q = bs.length
        · rw [if_pos h5] at hd; injection hd with _ hd; exact absurd hd (by decide)
        rw [if_neg h5] at hd
        obtain ⟨d, hde⟩ : ∃ d, d = bs.getD q 0 := ⟨_, rfl⟩
        rw [← hde] at hd
        by_cases h6 : 64 < d
        · rw [if_pos h6] at hd; injection hd with _ hd; exact absurd hd (by decide)
        rw [if_neg h6] at hd
        by_cases h7 : secE bs q M = 0
        · rw [if_neg (by simpa using h7)] at hd
          have hF := secL_len h7
          have hUe : secL bs q M = upk d M (pk 8 (bs.drop (q + 1))) := by
            unfold secL
            rw [unp_ok h7, ← hde, Int.toNat_natCast, Int.toNat_natCast]
          have hE : unpE (pk 8 (bs.drop (q + 1))) (bs.drop (q + 1)).length (d : Int) (M : Int) = 0 := by
            rw [List.length_drop]
            unfold secE at h7
            rw [← hde] at h7
            exact h7
          obtain ⟨c1, c2⟩ := pack_unp (by omega) (by omega) (fun v hv => hu v (List.mem_of_mem_drop hv)) hE
          rw [packL_ok c1, ← hUe] at c2
          obtain ⟨F, hFe⟩ : ∃ F, F = secL bs q M := ⟨_, rfl⟩
          rw [← hFe] at hd hF c2
          by_cases h8 : onlyF l d F = true
          · rw [if_pos h8] at hd
            injection hd with hd _
            subst hd
            unfold onlyF at h8
            simp only [Bool.and_eq_true, decide_eq_true_eq] at h8
            obtain ⟨g1, g2, g3⟩ := h8
            have hz := (loN_zero (by omega)).1 g2
            have hlo := lo_above (l := l) hz
            have hM : (above l F).length = M := by rw [above_len, hF]
            refine ⟨?_, ?_⟩
            · have hw : wid (above l F) = d := by unfold wid; rw [hlo, dst_above]; omega
              unfold encode9
              rw [if_neg (by omega)]
              unfold encP
              rw [if_neg (by omega), hM, hw, hlo, dst_above, c2, hfu, Int.toNat_natCast, p5, q5]
              congr 1
              have e1 : bs.drop q = d :: bs.drop (q + 1) := by rw [hde]; exact drop_cons (by omega)
              have e2 : (bs.drop k).take (q - k) ++ bs.drop q = bs.drop k := by
                conv => rhs; rw [← List.take_append_drop (q - k) (bs.drop k)]
                rw [List.drop_drop, show k + (q - k) = q from by omega]
              rw [List.singleton_append, ← e1, e2, List.take_append_drop]
            · intro v hv
              obtain ⟨x, hx, rfl⟩ := List.mem_map.1 hv
              have := le_hiN x hx
              unfold R64 at hle ⊢
              omega
          · rw [if_neg h8] at hd; injection hd with _ hd; exact absurd hd (by decide)
        · rw [if_pos h7] at hd; injection hd with _ hd; exact absurd hd h7
      · rw [if_pos h4] at hd; injection hd with _ hd; exact absurd hd h4
  · rw [if_pos h1] at hd; injection hd with _ hd; exact absurd hd h1
def VIn (v : Cv) : Prop := U8 v.2.2 ∧ -9223372036854775808 ≤ v.2.1 ∧ v.2.1 ≤ 9223372036854775807 ∧ v.2.2.length ≤ 200
theorem pcR_in {k : Int} {bs : List Nat} {a : Int} (hu : U8 bs) (h : (pcR k bs a).2.2 = 0) : VIn (false, (pcR k bs a).1.1, (pcR k bs a).1.2) := by
  unfold pcR at h ⊢
  split at h
  · rename_i hk
    rw [if_pos hk]
    split at h
    · rename_i h2; exact absurd h h2
    · rename_i h2
      rw [if_neg h2]
      rcases hg : vget bs a with ⟨u, nx, e⟩
      rw [hg] at h2
      obtain rfl : e = 0 := by simpa using h2
      obtain ⟨_, hv1, hv2, h3, _⟩ := vget_at hu hg
      have : -9223372036854775808 ≤ unfS (u : Int) ∧ unfS (u : Int) ≤ 9223372036854775807 := by unfold unfS; split <;> omega
      exact ⟨(by intro v hv; cases hv), this.1, this.2, by simp⟩
  · rename_i hk
    rw [if_neg hk]
    have := dtx_ok (s := (dtx bs a).1) (n := (dtx bs a).2.1) hu (by simp only at h; rw [← h])
    exact ⟨this.2.2.2.2.1, (show (-9223372036854775808 : Int) ≤ 0 by decide), (show (0 : Int) ≤ 9223372036854775807 by decide), this.2.2.2.1⟩
theorem plA_in {k : Int} {bs : List Nat} (hu : U8 bs) : ∀ (n : Nat) (a : Int) (acc : List Cv), (∀ v ∈ acc, VIn v) → ∀ v ∈ (plA k bs n a acc).1, VIn v
  | 0, _, _, h => h
  | n + 1, a, acc, h => by
    unfold plA
    split
    · intro v hv; cases hv
    · rename_i q
      refine plA_in hu n _ _ (fun v hv => ?_)
      rcases List.mem_append.1 hv with h1 | h1
      · exact h v h1
      · rw [List.mem_singleton.1 h1]
        exact pcR_in hu (by simpa using q)
theorem zR_in {R : List Int × Int} (h : R.2 = 0 → R64s R.1) : ∀ v ∈ (zR R).1, VIn v := by
  unfold zR
  split
  · intro v hv; cases hv
  · rename_i q
    intro v hv
    obtain ⟨z, hz, rfl⟩ := List.mem_map.1 hv
    have := h (by simpa using q) z hz
    exact ⟨(by intro v hv; cases hv), this.1, this.2, by simp⟩
theorem tR_in {R : List (List Nat) × Int} (h : R.2 = 0 → ∀ s ∈ R.1, U8 s ∧ s.length ≤ 200) : ∀ v ∈ (tR R).1, VIn v := by
  unfold tR
  split
  · intro v hv; cases hv
  · rename_i q
    intro v hv
    obtain ⟨z, hz, rfl⟩ := List.mem_map.1 hv
    have := h (by simpa using q) z hz
    exact ⟨this.1, (show (-9223372036854775808 : Int) ≤ 0 by decide), (show (0 : Int) ≤ 9223372036854775807 by decide), this.2⟩
theorem codR_in {cd : Int} {bs : List Nat} (hu : U8 bs) : ∀ v ∈ (codR cd bs).1, VIn v := by
  unfold codR
  split
  · exact zR_in fun h => (back8 hu h).2
  · split
    · exact zR_in fun h => (only9 hu h).2
    · split
      · exact tR_in fun h => (ddec_ok hu (ss := (ddec bs).1) (by rw [← h])).2.2.2
      · exact tR_in fun h s hs => by
          have := (pdec_ok hu (ss := (pdec bs).1) (by rw [← h])).2.2 s hs
          exact ⟨this.2, this.1⟩
theorem valuesR_in {k cd : Int} {bs : List Nat} {n : Nat} (hu : U8 bs) : ∀ v ∈ (valuesR k cd bs n).1, VIn v := by
  have h0 : ∀ v ∈ ([] : List Cv), VIn v := fun v hv => by cases hv
  unfold valuesR
  split
  · unfold gplR
    split
    · exact h0
    · split
      · exact h0
      · exact plA_in hu n 0 [] h0
  · split
    · exact h0
    · split
      · exact h0
      · exact codR_in hu
theorem wN_in : ∀ (us : List Nat) (vs : List Cv), (∀ v ∈ vs, VIn v) → ∀ v ∈ wN us vs, VIn v
  | [], _, _, v, hv => by simp [wN] at hv
  | u :: r, vs, h, v, hv => by
    by_cases q : u = 1
    · rw [wN_null q] at hv
      rcases List.mem_cons.1 hv with rfl | hv
      · exact ⟨(by intro v hv; cases hv), (show (-9223372036854775808 : Int) ≤ 0 by decide), (show (0 : Int) ≤ 9223372036854775807 by decide), by simp⟩
      · exact wN_in r vs h v hv
    · cases vs with
      | nil => simp [wN, q] at hv
      | cons x s =>
        rw [wN_val q] at hv
        rcases List.mem_cons.1 hv with rfl | hv
        · exact h _ (List.mem_cons_self ..)
        · exact wN_in r s (fun y hy => h y (List.mem_cons_of_mem _ hy)) v hv
theorem ans_rdX {W : World} {base c n : Nat} {A : Option Addr} {fs : List Ci} {R : List Cv} (hv : fs.map Ci.val = R) (hn : fs.length = n) (hok : ∀ v ∈ R, VIn v) (ho : OwnX W base A c fs) (hown : ∀ f ∈ fs, Rd .u8 W f.A f.txt.length f.txt) : RdX W A n fs := by
  rw [← hn]
  refine ho.rdX (fun f hf => ?_)
  obtain ⟨h1, h2, h3, h4⟩ := hok f.val (by rw [← hv]; exact List.mem_map.2 ⟨f, hf, rfl⟩)
  have h4' : f.txt.length ≤ 200 := h4
  exact ⟨hown f hf, h1, h2, h3, by omega⟩
theorem OwnX.cap {w : World} {base c : Nat} {A : Option Addr} {xs : List Ci} (h : OwnX w base A c xs) : xs.length ≤ c ∧ c ≤ 9223372036854775807 := by
  rcases h.2 with ⟨hv, h0⟩ | ⟨g, cap, cur, hv, hg, hh, hnc, hcm, _⟩
  · injection hv with _ _ hc
    subst hc
    exact ⟨by omega, by decide⟩
  · injection hv with _ _ hc
    subst hc
    exact ⟨hnc, by simpa [maxLen] using hcm⟩
theorem rowR_ok {bs : List Nat} {a n : Nat} (h : (rowR bs a n).2 = 0) : (rowR bs a n).1.1.length = n ∧ (∀ u ∈ (rowR bs a n).1.1, u < 2) ∧ ∃ p : Nat, (rowR bs a n).1.2 = (p : Int) ∧ p ≤ bs.length := by
  unfold rowR at h ⊢
  split at h
  · omega
  · rename_i h1
    rw [if_neg h1]
    split at h
    · rename_i h2
      exact absurd h h2
    · rename_i h2
      rw [if_neg h2]
      split at h
      · omega
      · rename_i h3
        rw [if_neg h3]
        have h2' : unpE (pk 8 ((bs.drop a).take ((n + 7) / 8))) ((n + 7) / 8) 1 n = 0 := by simpa using h2
        refine ⟨by have := unp_len12 h2'; simpa using this, fun u hu => ?_, a + (n + 7) / 8, rfl, by omega⟩
        dsimp only at hu
        rw [unp_ok h2'] at hu
        exact upk_wd _ _ _ u hu
theorem nullR_ok {bs : List Nat} {a n : Nat} (ha : a ≤ bs.length) (h : (nullR bs a n).2 = 0) : (nullR bs a n).1.1.length = n ∧ (∀ u ∈ (nullR bs a n).1.1, u < 2) ∧ ∃ p : Nat, (nullR bs a n).1.2 = (p : Int) ∧ p ≤ bs.length := by
  unfold nullR at h ⊢
  split at h
  · omega
  · rename_i h1
    rw [if_neg h1]
    split at h
    · rename_i h2
      rw [if_pos h2]
      exact ⟨List.length_replicate, fun u hu => by rw [(List.mem_replicate.1 hu).2]; decide, a + 1, rfl, by omega⟩
    · rename_i h2
      rw [if_neg h2]
      split at h
      · rename_i h3
        rw [if_pos h3]
        exact rowR_ok h
      · omega
theorem plA_len {k : Int} {bs : List Nat} : ∀ (n : Nat) (a : Int) (acc : List Cv), (plA k bs n a acc).2.2 = 0 → (plA k bs n a acc).1.length = acc.length + n
  | 0, a, acc, _ => rfl
  | n + 1, a, acc, h => by
    unfold plA at h ⊢
    split at h
    · rename_i q
      exact absurd h q
    · rename_i q
      rw [if_neg q, plA_len n _ _ h, List.length_append, List.length_singleton]
      omega
theorem valuesR_len {k cd : Int} {bs : List Nat} {n : Nat} (h : (valuesR k cd bs n).2 = 0) : (valuesR k cd bs n).1.length = n := by
  unfold valuesR at h ⊢
  split at h
  · rename_i h1
    rw [if_pos h1]
    unfold gplR at h ⊢
    split at h
    · rename_i q
      exact absurd h q
    · rename_i q
      rw [if_neg q]
      split at h
      · omega
      · rename_i q2
        rw [if_neg q2]
        have := plA_len n 0 [] (by simpa using q)
        simpa using this
  · rename_i h1
    rw [if_neg h1]
    split at h
    · rename_i q
      exact absurd h q
    · rename_i q
      rw [if_neg q]
      split at h
      · omega
      · rename_i q2
        rw [if_neg q2]
        simpa using q2
theorem codecs_range {k v : Int} (h : v ∈ codecs k) : 1 ≤ v ∧ v ≤ 5 := by
  unfold codecs at h
  split at h
  · simp at h; omega
  · simp at h; omega
def getB (k : Int) (bs : List Nat) : List Cv × Int :=
  if bs.length = 0 then ([], 2) else if ¬ ((bs.getD 0 0 : Nat) : Int) ∈ codecs k then ([], 120)
  else if (vget bs 1).2.2 ≠ 0 then ([], (vget bs 1).2.2)
  else if 4096 < (vget bs 1).1 then ([], 4)
  else if (nullR bs (vget bs 1).2.1.toNat (vget bs 1).1).2 ≠ 0 then ([], (nullR bs (vget bs 1).2.1.toNat (vget bs 1).1).2)
  else if (valuesR k (bs.getD 0 0 : Nat) (bs.drop (nullR bs (vget bs 1).2.1.toNat (vget bs 1).1).1.2.toNat) ((nullR bs (vget bs 1).2.1.toNat (vget bs 1).1).1.1.count 0)).2 ≠ 0 then ([], (valuesR k (bs.getD 0 0 : Nat) (bs.drop (nullR bs (vget bs 1).2.1.toNat (vget bs 1).1).1.2.toNat) ((nullR bs (vget bs 1).2.1.toNat (vget bs 1).1).1.1.count 0)).2)
  else (wN (nullR bs (vget bs 1).2.1.toNat (vget bs 1).1).1.1 (valuesR k (bs.getD 0 0 : Nat) (bs.drop (nullR bs (vget bs 1).2.1.toNat (vget bs 1).1).1.2.toNat) ((nullR bs (vget bs 1).2.1.toNat (vget bs 1).1).1.1.count 0)).1, 0)
set_option maxHeartbeats 3200000 in
theorem get12_any (k : Int) (A : Option Addr) (m c : Nat) (bs : List Nat) (w : World) (hx : Rd .u8 w A m bs) (hu : U8 bs) (hm : m ≤ 65000) (hc : m ≤ c) (hcm : c ≤ 9223372036854775807) :
    Calls Tryz.prog 41 #[.int .i64 k, .slice A m c] w (GcPost (getB k bs) w) := by
  have hl := hx.len
  have hR := getB.eq_1 k bs
  obtain ⟨R, hRR⟩ : ∃ R, R = getB k bs := ⟨_, rfl⟩
  rw [← hRR] at hR ⊢
  clear hRR
  rw [hl] at hR
  by_cases h0 : m = 0
  · rw [if_pos h0] at hR
    have HR := Lib.hid hR
    clear hR hx hl
    subst h0
    go_enter Tryz.func41, Tryz.ntmps41
    go_wp2_with fail
    go_ret2
    exact GcPost.bad _ HR.out (Ext.refl w)
  rw [if_neg h0] at hR
  have hm0 : 0 < m := by omega
  have hb0 : ((m : Int) == 0) = false := by simp [h0]
  obtain ⟨b, o, hA, hbl, hc0⟩ := hx.at_ hm0
  rw [Nat.add_zero] at hc0
  obtain ⟨cd, hcd⟩ : ∃ cd, cd = bs.getD 0 0 := ⟨_, rfl⟩
  rw [← hcd] at hR hc0
  have hcd8 : cd < 256 := by rw [hcd]; exact hu.at_ 0
  have HF := Lib.hid (fun W => isFor_any k (cd : Int) W)
  subst hA
  clear hcd
  by_cases hf : ((cd : Nat) : Int) ∈ codecs k
  rotate_left
  · rw [if_pos hf] at hR
    have HR := Lib.hid hR
    rw [decide_eq_false hf] at HF
    clear hR hx hl hf h0 hu
    go_enter Tryz.func41, Tryz.ntmps41
    go_wp2_with fail
    refine (HF.out _).mono ?_
    rintro e w1 ⟨rfl, he1⟩
    go_wp2_with fail
    go_ret2
    exact GcPost.bad _ HR.out he1
  rw [if_neg (fun q => q hf)] at hR
  have hcr := codecs_range hf
  rw [decide_eq_true hf] at HF
  have HG := Lib.hid (fun W (hW : Ext w W) => get_any (some ⟨b, o, none⟩) m c 1 bs W (hx.ext hW) hu (by omega) hc hcm)
  unfold GetPost at HG
  have hva := fun v n => vget_at (bs := bs) (a := 1) (n := n) (v := v) hu
  obtain ⟨⟨u, a, er⟩, hv⟩ : ∃ V, V = vget bs 1 := ⟨_, rfl⟩
  rw [← hv] at HG hR hva
  simp only at HG hR
  clear hv hf
  by_cases he : er = 0
  rotate_left
  · rw [if_pos he] at hR
    have HR := Lib.hid hR
    have hb1 : (er != 0) = true := by simp [he]
    clear hR hx hl h0 hu hva he
    go_enter Tryz.func41, Tryz.ntmps41
    go_wp2_with fail
    refine (HF.out _).mono ?_
    rintro e w1 ⟨rfl, he1⟩
    go_wp2_with fail
    refine (HG.out _ he1).mono ?_
    rintro e w2 ⟨rfl, rfl⟩
    go_wp2_with fail
    go_ret2
    exact GcPost.bad _ HR.out he1
  subst he
  rw [if_neg (fun q => q rfl)] at hR
  obtain ⟨v1, v2, v3, v4, _⟩ := hva u a rfl
  rw [hl] at v3
  obtain ⟨a, rfl⟩ := Int.eq_ofNat_of_zero_le (show 0 ≤ a by omega)
  rw [Int.toNat_natCast] at hR
  have ham : a ≤ m := by omega
  clear hva v1 v2 v3
  by_cases hbig : 4096 < u
  · rw [if_pos hbig] at hR
    have HR := Lib.hid hR
    have hb2 : decide ((4096 : Int) < (u : Int)) = true := decide_eq_true (by omega)
    clear hR hx hl h0 hu
    go_enter Tryz.func41, Tryz.ntmps41
    go_wp2_with fail
    refine (HF.out _).mono ?_
    rintro e w1 ⟨rfl, he1⟩
    go_wp2_with fail
    refine (HG.out _ he1).mono ?_
    rintro e w2 ⟨rfl, rfl⟩
    go_wp2_with fail
    go_ret2
    exact GcPost.bad _ HR.out he1
  rw [if_neg hbig] at hR
  have hb2 : decide ((4096 : Int) < (u : Int)) = false := decide_eq_false (by omega)
  have hu4 : u ≤ 4096 := by omega
  have HN := Lib.hid (fun W (hW : Ext w W) => getNulls_any (some ⟨b, o, none⟩) m c a u bs W (hx.ext hW) hu (by omega) hc hcm ham hu4)
  have hno := nullR_ok (bs := bs) (a := a) (n := u) (by omega)
  unfold NulPost at HN
  obtain ⟨⟨⟨us, p⟩, en⟩, hN⟩ : ∃ V, V = nullR bs a u := ⟨_, rfl⟩
  rw [← hN] at HN hR hno
  simp only at HN hR hno
  clear hN hbig
  by_cases hen : en = 0
  rotate_left
  · rw [if_pos hen] at hR
    have HR := Lib.hid hR
    have hb1 : (en != 0) = true := by simp [hen]
    clear hR hx hl h0 hu hno hen
    go_enter Tryz.func41, Tryz.ntmps41
    go_wp2_with fail
    refine (HF.out _).mono ?_
    rintro e w1 ⟨rfl, he1⟩
    go_wp2_with fail
    refine (HG.out _ he1).mono ?_
    rintro e w2 ⟨rfl, rfl⟩
    go_wp2_with fail
    refine (HN.out _ he1).mono ?_
    rintro e w3 ⟨A3, c3, rfl, _, he3⟩
    go_wp2_with fail
    go_ret2
    exact GcPost.bad _ HR.out (he1.trans he3)
  subst hen
  rw [if_neg (fun q => q rfl)] at hR
  obtain ⟨n1, n2, p, rfl, n3⟩ := hno rfl
  rw [hl] at n3
  rw [Int.toNat_natCast] at hR
  rw [n1] at HN
  have HM : Hid (∀ W A3 c3, Rd .u64 W A3 u us → Calls Tryz.prog 80 #[.slice A3 u c3, .int .u64 0] W fun e w' => e = .returned (.int .i64 (us.count 0 : Nat)) ∧ W = w') := Lib.hid (fun W A3 c3 h3 => howMany_any A3 u c3 us 0 W h3 (by omega))
  have hz : us.count 0 ≤ u := by rw [← n1]; exact List.count_le_length
  obtain ⟨z, hze⟩ : ∃ z, z = us.count 0 := ⟨_, rfl⟩
  rw [← hze] at HM hR hz
  have HV := Lib.hid (fun W (hW : Ext w W) => getValues_any k (cd : Int) hcr (offA (some ⟨b, o, none⟩) p c) (m - p) (c - p) z (bs.drop p) W ((hx.ext hW).offA n3 hc) (fun v hv => hu v (List.mem_of_mem_drop hv)) (by omega) (by omega) (by omega) (by omega))
  have hvi := valuesR_in (k := k) (cd := (cd : Int)) (n := z) (bs := bs.drop p) (fun v hv => hu v (List.mem_of_mem_drop hv))
  have hvl := valuesR_len (k := k) (cd := (cd : Int)) (bs := bs.drop p) (n := z)
  obtain ⟨⟨vs, ev⟩, hV⟩ : ∃ V, V = valuesR k (cd : Int) (bs.drop p) z := ⟨_, rfl⟩
  unfold GcPost at HV
  rw [← hV] at HV hR hvl hvi
  simp only at HV hR hvl hvi
  have HSl := run_from (some ⟨b, o, none⟩) m c p n3
  have Hn1 := Lib.hid n1
  have Hn2 := Lib.hid n2
  have Hze := Lib.hid hze
  have HR := Lib.hid hR
  have Hvl := Lib.hid hvl
  have Hvi := Lib.hid hvi
  clear hV hx hl h0 hu hR hno n1 n2 hze hvl hvi
  go_enter Tryz.func41, Tryz.ntmps41
  go_wp2_with fail
  refine (HF.out _).mono ?_
  rintro e w1 ⟨rfl, he1⟩
  go_wp2_with fail
  refine (HG.out _ he1).mono ?_
  rintro e w2 ⟨rfl, rfl⟩
  go_wp2_with fail
  refine (HN.out _ he1).mono ?_
  rintro e w3 ⟨A3, c3, rfl, hown3, he3⟩
  have HE3 := Lib.hid (he1.trans he3)
  have HU3 := Lib.hid (hown3.rd' Hn1.out)
  clear hown3 he3 he1
  go_wp2_with fail
  go_region_held3 (fun _ => True) (exact trivial)
    (first
      | (go_at_call 80; (with_reducible refine (HM.out _ _ _ (Rd.ext HU3.out ?_)).mono ?_); (focus ((repeat (first | exact Ext.refl _ |  apply Ext.drew | apply Ext.alloc | fail)); done)); rintro e w4 ⟨rfl, rfl⟩)
      | (go_at_call 79; (with_reducible refine (HV.out _ (Ext.trans HE3.out ?_)).mono ?_); (focus ((repeat (first | exact Ext.refl _ |  apply Ext.drew | apply Ext.alloc | fail)); done)); rintro e w5 ⟨fs, A5, c5, rfl, hv5, ho5, ht5, he5⟩)
      | fail)
  have hE35 : Ext w3 w5 := by (repeat (first | exact Ext.refl _ | (with_reducible refine Ext.trans ?_ he5) |  apply Ext.drew | apply Ext.alloc | fail))
  have ho5' : OwnX w5 w3.heap.size A5 c5 fs := ho5
  have ht5' : TxtX w5 w3.heap.size fs := ht5
  by_cases hev : ev = 0
  · subst hev
    have hR := HR.out
    rw [if_neg (fun q => q rfl)] at hR
    have hvz := Hvl.out rfl
    have hfl : fs.length = z := by rw [← hvz, ← hv5, List.length_map]
    have hrx := ans_rdX hv5 hfl Hvi.out ho5' (fun f hf => (ht5'.1 f hf).rd)
    have hcap := ho5'.cap
    rw [hfl] at hcap
    have hW := withNulls_any A3 u c3 us A5 z c5 w3.heap.size fs w5 (HU3.out.ext hE35) Hn2.out hrx ht5' hE35.size Hze.out.symm hu4 hcap.1 hcap.2
    rw [hv5] at hW
    have HRg := Lib.hid hR
    rw [hvz]
    clear hR he5 ho5 ht5 hcap hrx
    go_wp2_with fail
    refine hW.mono ?_
    rintro e w6 ⟨gs, c6, rfl, hgl, hgv, hgo, hgt, he6⟩
    go_wp2_with fail
    go_ret2
    rw [HRg.out]
    refine ⟨gs, _, c6, ?_, hgv, hgo.mono (HE3.out.trans hE35).size, hgt.mono HE3.out.size, (HE3.out.trans hE35).trans he6⟩
    rw [← hgv, List.length_map, hgl]
    rfl
  · have hR := HR.out
    rw [if_pos hev] at hR
    have HRb := Lib.hid hR
    have hb3 : (ev != 0) = true := by simp [hev]
    clear hR hev he5 ho5 ht5
    go_wp2_with fail
    go_ret2
    exact GcPost.bad _ HRb.out (HE3.out.trans hE35)
end Go.Proofs.YthibbgmicmfkfaaGreat
