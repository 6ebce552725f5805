import Derived.Test.YthibbgmicmfkfaaGreatGY8
import Derived.OneCell
namespace Go.Proofs.YthibbgmicmfkfaaGreat
open Go.RowKit
set_option maxRecDepth 100000
theorem Tryz.infoRun : (Tryz.prog.info? 196).map (fun i => (i.zero, i.size, i.bytes)) = some (some (.agg #[.int .i64 0, .int .i64 0]), 2, 16) := by kernel_rfl
theorem OwnG.ne_block {T : Type} {s : Shape T} {e t : TypeId} {w : World} {base c g : Nat} {A : Option Addr} {xs : List T} {cs : Array Value} {fr : Nat × Nat} (h : OwnG s e w base A c xs) (hg : w.heap[g]? = some (.cells cs t fr)) (hne : t ≠ e) : ∀ a, A = some a → a.block ≠ g := by
  rintro a rfl hag
  rcases h.2 with ⟨hv, _⟩ | ⟨g', cap, cur, hv, _, hh, _⟩
  · injection hv with hA; cases hA
  · injection hv with hA
    injection hA with hA
    subst hA
    simp only at hag
    subst hag
    rw [hh] at hg
    injection hg with hg
    injection hg with _ h2 _
    exact hne h2.symm
theorem grown_setCellG (w : World) (g i : Nat) (v : Value) : w.grownBy (w.setCell ⟨g, i, none⟩ v) (some g) :=
  ⟨rfl, rfl, rfl, by simp [World.setCell], fun k _ hne => heap_setCell_other w ⟨g, i, none⟩ k v (fun e => hne (by rw [e]))⟩
def GathPost (g base : Nat) (rs : List (Int × Int)) (w0 : World) (e : Ending) (w' : World) : Prop :=
  ∃ A' c', e = .returned (.tuple #[]) ∧ w'.heap[g]? = some (.cells #[.slice A' rs.length c'] 220) ∧ OwnG shR 196 w' base A' c' rs ∧ Below base w0 w'
theorem gath_store {g base n c1 : Nat} {A A1 : Option Addr} {c : Nat} {rs rs' : List (Int × Int)} {w0 W w1 : World} (hg : W.heap[g]? = some (.cells #[.slice A n c] 220)) (hgb : base ≤ g) (hown : OwnG shR 196 W base A c rs)
    (hgr : W.grownBy w1 (Value.slice A n c).ownBlock) (hown1 : OwnG shR 196 w1 base A1 c1 rs') (hb : Below base w0 w1) :
    w1.cell? ⟨g, 0, none⟩ = some (.slice A n c) ∧ w1.frozen? ⟨g, 0, none⟩ = false ∧ (w1.setCell ⟨g, 0, none⟩ (.slice A1 rs'.length c1)).heap[g]? = some (.cells #[.slice A1 rs'.length c1] 220) ∧
      OwnG shR 196 (w1.setCell ⟨g, 0, none⟩ (.slice A1 rs'.length c1)) base A1 c1 rs' ∧ Below base w0 (w1.setCell ⟨g, 0, none⟩ (.slice A1 rs'.length c1)) := by
  have hgl : g < W.heap.size := (Array.getElem?_eq_some_iff.1 hg).1
  have h1 : w1.heap[g]? = some (.cells #[.slice A n c] 220) := by
    rw [hgr.block g hgl ?_]
    · exact hg
    · cases A with
      | none => simp [Value.ownBlock]
      | some a =>
        have := hown.ne_block hg (by decide) a rfl
        simp [Value.ownBlock]
        exact fun e => this e.symm
  refine ⟨by rw [cell_of_row w1 g 0 _ _ (0, 0) h1]; rfl, ?_, one_setCell h1, ?_, Below.setCell hb hgb _⟩
  · simp [World.frozen?, h1]
  · refine hown1.grown (grown_setCellG w1 g 0 _) fun a ha e => ?_
    have := hown1.ne_block h1 (by decide) a ha
    simp at e
    exact this e
set_option maxHeartbeats 1600000 in
theorem gather_any (g base : Nat) (A : Option Addr) (c : Nat) (rs : List (Int × Int)) (v : Int) (w : World) (hg : w.heap[g]? = some (.cells #[.slice A rs.length c] 220)) (hgb : base ≤ g) (hown : OwnG shR 196 w base A c rs) (hn : rs.length ≤ 4096) (hc : ∀ r ∈ rs, 0 ≤ r.2 ∧ r.2 ≤ 4096) :
    Calls Tryz.prog 202 #[.pointer (some ⟨g, 0, none⟩), .int .i64 v] w (GathPost g base (gat rs v) w) := by
  have hgl : g < w.heap.size := (Array.getElem?_eq_some_iff.1 hg).1
  have hg0 : w.cell? ⟨g, 0, none⟩ = some (.slice A rs.length c) := by rw [cell_of_row w g 0 _ _ (0, 0) hg]; rfl
  have hX : ∀ o, Ext w (w.alloc o) := fun o => (Ext.refl w).alloc o
  rcases snoc_or rs with rfl | ⟨a, ⟨u, k⟩, rfl⟩
  · have hG := Lib.hid hg
    have hO := Lib.hid hown
    clear hg hown
    go_enter Tryz.func202, Tryz.ntmps202
    go_wp2_with (at_builtin; refine wpList_pushG (w0 := w) (base := base) shR (v, 1) 196 rfl _ _ 191 rfl _ 16 Tryz.underlying191 Tryz.infoRun rfl (by decide) (hO.out.ext (hX _)) 0 rfl rfl rfl (heap_alloc_new _ _) (by omega) (by omega) (Below.alloc (Below.refl _ _) (by omega) _) (by simp; omega) ?_; intro A1 c1 w1 hown1 hgr hb1 hz1; obtain ⟨q1, q2, q3, q4, q5⟩ := gath_store (((hX _).block g hgl).trans hG.out) hgb (hO.out.ext (hX _)) hgr hown1 hb1; have Q3 := Lib.hid q3; have Q4 := Lib.hid q4; have Q5 := Lib.hid q5; clear q3 q4 q5 hown1 hgr hb1)
    go_end0
    exact ⟨A1, c1, rfl, Q3.out, Q4.out, Q5.out⟩
  · have hlen : (a ++ [(u, k)]).length = a.length + 1 := by simp
    rw [hlen] at hg hg0 hn
    obtain ⟨b, x, rfl, hbb, hbl, hxj, hcell, hfr, hst⟩ := hown.at_ (j := a.length) (by simp)
    rw [List.getElem?_append_right (Nat.le_refl _), Nat.sub_self] at hxj
    simp at hxj
    subst hxj
    have hc0 := hcell 0 _ rfl
    have hc1 := hcell 1 _ rfl
    rw [show a.length * shR.sz + 0 = a.length * 2 from rfl] at hc0
    rw [show a.length * shR.sz + 1 = a.length * 2 + 1 from rfl] at hc1
    have hf1 := hfr (a.length * 2 + 1)
    have hk := hc (u, k) (by simp)
    simp only at hk hc0 hc1
    by_cases huv : u = v
    · subst huv
      rw [gat_same]
      obtain ⟨h1, h2⟩ := hst 1 (u, k + 1) (.int .i64 (k + 1)) (by decide) rfl
      rw [show a.length * shR.sz + 1 = a.length * 2 + 1 from rfl] at h1 h2
      rw [List.set_append_right _ _ (Nat.le_refl _), Nat.sub_self, List.set_cons_zero] at h1
      have hgn : (w.setCell ⟨b, a.length * 2 + 1, none⟩ (.int .i64 (k + 1))).heap[g]? = some (.cells #[.slice (some ⟨b, 0, none⟩) (a.length + 1) c] 220) := by
        rw [heap_setCell_other w ⟨b, a.length * 2 + 1, none⟩ g _ (fun e => hown.ne_block hg (by decide) _ rfl e.symm)]; exact hg
      have hBn : Below base w (w.setCell ⟨b, a.length * 2 + 1, none⟩ (.int .i64 (k + 1))) := Below.setCell (Below.refl _ _) hbb _
      have H1 := Lib.hid h1
      have Hgn := Lib.hid hgn
      have HBn := Lib.hid hBn
      clear h1 h2 hgn hBn hst hcell hfr hown hg hc hlen
      go_enter Tryz.func202, Tryz.ntmps202
      go_wp2_with fail
      go_end0
      refine ⟨some ⟨b, 0, none⟩, c, rfl, ?_, H1.out, HBn.out⟩
      rw [show (a ++ [(u, k + 1)]).length = a.length + 1 from by simp]
      exact Hgn.out
    · rw [gat_new huv]
      have hG := Lib.hid hg
      have hO := Lib.hid hown
      have Hlen := Lib.hid hlen
      have hne : (u == v) = false := by simpa using huv
      have HL2 := Lib.hid (show (a ++ [(u, k)] ++ [(v, 1)]).length = a.length + 1 + 1 by simp)
      clear hg hown hst hcell hfr hc hlen
      go_enter Tryz.func202, Tryz.ntmps202
      go_wp2_with (at_builtin; refine wpList_pushG (w0 := w) (base := base) shR (v, 1) 196 rfl _ _ 191 rfl _ 16 Tryz.underlying191 Tryz.infoRun rfl (by decide) (hO.out.ext (hX _)) (a.length + 1) Hlen.out rfl rfl (heap_alloc_new _ _) (by omega) (by omega) (Below.alloc (Below.refl _ _) (by omega) _) (by simp; omega) ?_; intro A1 c1 w1 hown1 hgr hb1 hz1; obtain ⟨q1, q2, q3, q4, q5⟩ := gath_store (((hX _).block g hgl).trans hG.out) hgb (hO.out.ext (hX _)) hgr hown1 hb1; rw [HL2.out] at q3 q4 q5; have Q3 := Lib.hid q3; have Q4 := Lib.hid q4; have Q5 := Lib.hid q5; clear q3 q4 q5 hown1 hgr hb1)
      go_end0
      exact ⟨A1, c1, rfl, by rw [HL2.out]; exact Q3.out, Q4.out, Q5.out⟩
def SplitPost (vs : List Int) (w : World) (e : Ending) (w' : World) : Prop :=
  ∃ A' c', e = .returned (.tuple #[.slice A' (split8 vs).1.length c', .int .i64 (split8 vs).2]) ∧ OwnG shR 196 w' w.heap.size A' c' (split8 vs).1 ∧ Ext w w'
theorem rsp_len {vs : List Int} (h : R64s vs) : (rsp vs).length ≤ vs.length ∧ ∀ r ∈ rsp vs, 0 ≤ r.2 ∧ r.2 ≤ vs.length := by
  have hg := rsp_good h
  obtain ⟨h1, h2⟩ := flat_len_le hg
  rw [rsp_flat h] at h1 h2
  exact ⟨h1, fun r hr => ⟨by have := (hg.mem r hr).1; omega, h2 r hr⟩⟩
theorem R64s.take {vs : List Int} (h : R64s vs) (j : Nat) : R64s (vs.take j) := fun v hv => h v (List.mem_of_mem_take hv)
theorem rsp_take {vs : List Int} {j : Nat} (h : j < vs.length) : rsp (vs.take (j + 1)) = gat (rsp (vs.take j)) (vs.getD j 0) := by
  rw [take_nextG vs j (x := vs.getD j 0) (by rw [List.getD, List.getElem?_eq_getElem h]; rfl), rsp_snoc]
set_option maxHeartbeats 1600000 in
theorem split_any (A : Option Addr) (n c : Nat) (vs : List Int) (w : World) (hx : RdG shZ w A n vs) (hv : R64s vs) :
    Calls Tryz.prog 173 #[.slice A n c] w (SplitPost vs w) := by
  have hl := hx.len
  by_cases hbig : 4096 < n
  · have hs : split8 vs = ([], 4) := by unfold split8; rw [if_pos (by omega)]
    unfold SplitPost
    rw [hs]
    have Hl := Lib.hid hl
    clear hl
    go_enter Tryz.func173, Tryz.ntmps173
    go_wp2
    go_ret2
    exact ⟨none, 0, rfl, OwnG.nil _ _ _ _, Ext.refl w⟩
  · have hs : split8 vs = (rsp vs, 0) := by unfold split8; rw [if_neg (by omega)]
    unfold SplitPost
    rw [hs]
    have Hl := Lib.hid hl
    clear hl hs
    go_enter Tryz.func173, Tryz.ntmps173
    go_wp2
    go_loopw [11] (fun i wr => ∃ (j : Nat) (A' : Option Addr) (c' : Nat), j ≤ n ∧ i = .int .i64 j ∧ wr.heap[w.heap.size]? = some (.cells #[.slice A' (rsp (vs.take j)).length c'] 220) ∧ OwnG shR 196 wr w.heap.size A' c' (rsp (vs.take j)) ∧ Below w.heap.size w wr) (fun i _ => n - (intOf i).toNat)
    case atStart => exact ⟨0, none, 0, Nat.zero_le _, rfl, heap_alloc_new _ _, OwnG.nil _ _ _ _, (Ext.refl w).alloc _⟩
    case round =>
      obtain ⟨j, A', c', hj, rfl, hg, hown, hb⟩ := hrel
      by_cases hlt : j < n
      · obtain ⟨b, o, rfl, hbl, hc⟩ := (hx.ext hb).atZ hlt
        obtain ⟨v, hve⟩ : ∃ v, v = vs.getD j 0 := ⟨_, rfl⟩
        have HT := Lib.hid (rsp_take (vs := vs) (j := j) (by have := Hl.out; omega))
        rw [← hve] at hc HT
        clear hve
        obtain ⟨r1, r2⟩ := rsp_len (hv.take j)
        rw [List.length_take] at r1 r2
        have R2 := Lib.hid r2
        have Hg := Lib.hid hg
        have Hown := Lib.hid hown
        clear r2 hg hown
        go_wp2_with fail
        refine (gather_any _ w.heap.size A' c' _ _ _ Hg.out (Nat.le_refl _) Hown.out (by omega) (fun r hr => by have := R2.out r hr; omega)).mono ?_
        rintro e w1 ⟨A1, c1, rfl, hg1, hown1, hb1⟩
        rw [← HT.out] at hg1 hown1
        go_wp2_with fail
        go_roundw
        case rel => exact ⟨j + 1, A1, c1, by omega, by go_num, hg1, hown1, Below.trans hb hb1⟩
        case measure => simp [intOf]; omega
      · obtain rfl : j = n := by omega
        rw [List.take_of_length_le (by have := Hl.out; omega)] at hg hown
        have hg0 : wr.cell? ⟨w.heap.size, 0, none⟩ = some (.slice A' (rsp vs).length c') := by rw [cell_of_row wr w.heap.size 0 _ _ (0, 0) hg]; rfl
        go_wp2_with fail
        go_ret2
        exact ⟨A', c', rfl, hown, hb⟩
theorem rsp_run {vs : List Int} {j m : Nat} {v : Int} (hm : 1 ≤ m) (hjm : j + m ≤ vs.length) (h : ∀ t, t < m → vs.getD (j + t) 0 = v) (hb : lastV none (rsp (vs.take j)) ≠ some v) :
    rsp (vs.take (j + m)) = rsp (vs.take j) ++ [(v, (m : Int))] := by
  obtain ⟨q, rfl⟩ : ∃ q, m = q + 1 := ⟨m - 1, by omega⟩
  have e : vs.take (j + (q + 1)) = vs.take j ++ List.replicate (q + 1) v := by
    rw [List.take_add]
    congr 1
    apply List.ext_getElem
    · simp; omega
    · intro t h1 h2
      have ht : t < q + 1 := by simpa using h2
      have := h t ht
      rw [List.getElem_replicate, List.getElem_take, List.getElem_drop, ← this]
      simp [List.getD, show j + t < vs.length from by omega]
  rw [e, rsp, List.foldl_append]
  exact foldl_rep hb q
theorem Below.chain {B : Nat} {a b d : World} (h : Below B a b) (hB : B ≤ b.heap.size) (k : Ext b d) : Below B a d := Below.trans h (Below.mono k hB)
set_option maxHeartbeats 3200000 in
theorem refSplit_any (A : Option Addr) (n c : Nat) (vs : List Int) (w : World) (hx : RdG shZ w A n vs) (_hv : R64s vs) :
    Calls Tryz.prog 210 #[.slice A n c] w (SplitPost vs w) := by
  have hl := hx.len
  by_cases hbig : 4096 < n
  · have hs : split8 vs = ([], 4) := by unfold split8; rw [if_pos (by omega)]
    unfold SplitPost
    rw [hs]
    have Hl := Lib.hid hl
    clear hl
    go_enter Tryz.func210, Tryz.ntmps210
    go_wp2
    go_ret2
    exact ⟨none, 0, rfl, OwnG.nil _ _ _ _, Ext.refl w⟩
  · have hs : split8 vs = (rsp vs, 0) := by unfold split8; rw [if_neg (by omega)]
    unfold SplitPost
    rw [hs]
    have Hl := Lib.hid hl
    clear hl hs
    go_enter Tryz.func210, Tryz.ntmps210
    go_wp2
    go_loopw [4, 5] (fun v i wr => ∃ (j m : Nat) (A' : Option Addr) (c' : Nat), j ≤ n ∧ m ≤ j ∧ i = .int .i64 j ∧ v = .slice A' m c' ∧ m = (rsp (vs.take j)).length ∧ OwnG shR 196 wr w.heap.size A' c' (rsp (vs.take j)) ∧ Hid (j < n → lastV none (rsp (vs.take j)) ≠ some (vs.getD j 0)) ∧ Below w.heap.size w wr) (fun _ i _ => n - (intOf i).toNat)
    case atStart => exact ⟨0, 0, _, _, Nat.zero_le _, Nat.le_refl _, rfl, rfl, rfl, OwnG.made _ _ _ (Nat.le_refl _), Lib.hid (fun _ => by simp [rsp, lastV]), (Ext.refl w).alloc _⟩
    case round =>
      obtain ⟨j, m, A', c', hj, hmj, rfl, rfl, hm, hown, hlast, hb⟩ := hrel
      have hz := hb.size
      by_cases hlt : j < n
      · obtain ⟨b, o, hA, hbl, hc⟩ := (hx.ext hb).atZ hlt
        have HX := Lib.hid (hx.ext hb)
        obtain ⟨v, hve⟩ : ∃ v, v = vs.getD j 0 := ⟨_, rfl⟩
        have Hve := Lib.hid hve
        have Hm := Lib.hid hm
        have Hown := Lib.hid hown
        have HL := Lib.hid (hlast.out hlt)
        rw [← hve] at hc HL
        subst hA
        clear hve hm hown hlast
        go_wp2_with fail
        go_loopw [6] (fun k wr2 => ∃ (t q : Nat), 1 ≤ t ∧ j + t ≤ n ∧ k = .int .i64 t ∧ wr2 = wr.drewN q ∧ Hid (∀ u, u < t → vs.getD (j + u) 0 = v)) (fun k _ => n - (intOf k).toNat)
        case atStart => exact ⟨1, 0, Nat.le_refl _, by omega, rfl, rfl, Lib.hid (fun u hu => by have h0 : u = 0 := (by omega); subst h0; exact Hve.out.symm)⟩
        case round =>
          obtain ⟨t, q, ht1, htn, rfl, rfl, hs⟩ := hrel
          by_cases hend : j + t < n
          · have h1 : ((j : Int) + (t : Int)) < (n : Int) := by omega
            obtain ⟨b2, o2, hA2, hbl2, hc2⟩ := HX.out.atZ hend
            injection hA2 with hA2
            injection hA2 with hb2 ho2
            subst hb2
            subst ho2
            obtain ⟨x, hxe⟩ : ∃ x, x = vs.getD (j + t) 0 := ⟨_, rfl⟩
            have Hxe := Lib.hid hxe
            rw [← hxe] at hc2
            clear hxe
            have hc3 : (wr.drewN q).cell? ⟨b, o + (j + t), none⟩ = some (.int .i64 x) := hc2
            have hc4 : (wr.drewN q).cell? ⟨b, o + j, none⟩ = some (.int .i64 v) := hc
            by_cases hxv : x = v
            · have hne : (x == v) = true := by simpa using hxv
              have HN := Lib.hid (show ∀ u, u < t + 1 → vs.getD (j + u) 0 = v from fun u hu => by
                by_cases h : u < t
                · exact hs.out u h
                · obtain rfl : u = t := by omega
                  rw [← Hxe.out]; exact hxv)
              clear hs hxv
              go_wp2_with fail
              go_quiet (fail)
              go_wp2_with fail
              go_roundw
              case rel => exact ⟨t + 1, _, by omega, by omega, by go_num, rfl, HN⟩
              case measure => simp [intOf]; omega
            · have HR := Lib.hid (rsp_run (vs := vs) (j := j) (m := t) (v := v) ht1 (by have := Hl.out; omega) hs.out HL.out)
              have hw1 : (wr.drewN q).heap.size = wr.heap.size := rfl
              have HF := Lib.hid (show lastV none (rsp (vs.take (j + t))) = some v by rw [HR.out, lastV_snoc])
              have hne : (x == v) = false := by simpa using hxv
              have HST : Hid (j + t < n → lastV none (rsp (vs.take (j + t))) ≠ some (vs.getD (j + t) 0)) := Lib.hid (fun _ => by rw [HF.out, ← Hxe.out]; intro e; injection e with e; exact hxv e.symm)
              have hc4 : (wr.drewN q).cell? ⟨b, o + j, none⟩ = some (.int .i64 v) := hc
              clear hs
              go_wp2_with fail
              go_quiet (fail)
              go_wp2_with (at_builtin; refine wpList_pushG (w0 := w) (base := w.heap.size) shR (v, (t : Int)) 196 rfl _ _ 191 rfl _ 16 Tryz.underlying191 Tryz.infoRun rfl (by decide) (Hown.out.ext ((Ext.of_drewN wr _).alloc _)) m Hm.out.symm rfl rfl (heap_alloc_new _ _) (by omega) (by omega) (Below.chain hb hz ((Ext.of_drewN wr _).alloc _)) (by simp; omega) ?_; intro A1 c1 w1 hown1 _ hb1 hz1; rw [← HR.out] at hown1; have Hown1 := Lib.hid hown1; clear hown1)
              go_roundw
              case rel => exact ⟨j + t, m + 1, A1, c1, by omega, by omega, by go_num, rfl, by rw [HR.out, List.length_append, ← Hm.out]; rfl, Hown1.out, HST, hb1⟩
              case measure => simp [intOf]; omega
          · have HR := Lib.hid (rsp_run (vs := vs) (j := j) (m := t) (v := v) ht1 (by have := Hl.out; omega) hs.out HL.out)
            have hw1 : (wr.drewN q).heap.size = wr.heap.size := rfl
            have HF := Lib.hid (show lastV none (rsp (vs.take (j + t))) = some v by rw [HR.out, lastV_snoc])
            have hge : decide ((j : Int) + (t : Int) < (n : Int)) = false := decide_eq_false (by omega)
            have HST : Hid (j + t < n → lastV none (rsp (vs.take (j + t))) ≠ some (vs.getD (j + t) 0)) := Lib.hid (fun h => absurd h hend)
            have hc4 : (wr.drewN q).cell? ⟨b, o + j, none⟩ = some (.int .i64 v) := hc
            clear hs
            go_wp2_with fail
            go_quiet (fail)
            go_wp2_with (at_builtin; refine wpList_pushG (w0 := w) (base := w.heap.size) shR (v, (t : Int)) 196 rfl _ _ 191 rfl _ 16 Tryz.underlying191 Tryz.infoRun rfl (by decide) (Hown.out.ext ((Ext.of_drewN wr _).alloc _)) m Hm.out.symm rfl rfl (heap_alloc_new _ _) (by omega) (by omega) (Below.chain hb hz ((Ext.of_drewN wr _).alloc _)) (by simp; omega) ?_; intro A1 c1 w1 hown1 _ hb1 hz1; rw [← HR.out] at hown1; have Hown1 := Lib.hid hown1; clear hown1)
            go_roundw
            case rel => exact ⟨j + t, m + 1, A1, c1, by omega, by omega, by go_num, rfl, by rw [HR.out, List.length_append, ← Hm.out]; rfl, Hown1.out, HST, hb1⟩
            case measure => simp [intOf]; omega
      · obtain rfl : j = n := by omega
        rw [List.take_of_length_le (by have := Hl.out; omega)] at hm hown
        subst hm
        go_wp2_with fail
        go_ret2
        exact ⟨A', c', rfl, hown, hb⟩
def EncPost (vs : List Int) (w : World) (e : Ending) (w' : World) : Prop :=
  ∃ A' c', e = .returned (.tuple #[.slice A' (encode8 vs).1.length c', .int .i64 (encode8 vs).2]) ∧ Own .u8 5 w' w.heap.size A' c' (encode8 vs).1 ∧ Ext w w'
theorem encL_le : ∀ {rs : List (Int × Int)}, (∀ r ∈ rs, R64 r.1 ∧ 0 ≤ r.2 ∧ r.2 ≤ 4096) → (encL rs).length ≤ rs.length * 20 := by
  intro rs
  induction rs with
  | nil => intro _; exact Nat.le_refl _
  | cons r rs ih =>
    intro h
    have h1 := ih (fun q hq => h q (by simp [hq]))
    obtain ⟨h2, h3, h4⟩ := h r (by simp)
    obtain ⟨f0, f1⟩ := fold_range h2
    have a1 := vsize_le (u := (foldS r.1).toNat) (by omega)
    have a2 := vsize_le (u := r.2.toNat) (by omega)
    rw [encL_cons, List.length_append, List.length_append, vput_len, vput_len, List.length_cons]
    omega
theorem encL_take {rs : List (Int × Int)} {j : Nat} (h : j < rs.length) : encL (rs.take (j + 1)) = encL (rs.take j) ++ vput (foldS (rs.getD j (0, 0)).1).toNat ++ vput (rs.getD j (0, 0)).2.toNat := by
  rw [take_nextG rs j (x := rs.getD j (0, 0)) (by rw [List.getD, List.getElem?_eq_getElem h]; rfl), encL_snoc]
theorem rsp_each {vs : List Int} (h : R64s vs) (hl : vs.length ≤ 4096) : ∀ r ∈ rsp vs, R64 r.1 ∧ 0 ≤ r.2 ∧ r.2 ≤ 4096 := fun r hr => by
  have h1 := (rsp_good h).mem r hr
  have h2 := (rsp_len h).2 r hr
  exact ⟨h1.2, by omega, by omega⟩
theorem mem_getD {T : Type} {xs : List T} {j : Nat} {d : T} (h : j < xs.length) : xs.getD j d ∈ xs := by
  rw [List.getD, List.getElem?_eq_getElem h]; exact List.getElem_mem h
set_option maxHeartbeats 3200000 in
theorem encode_any (A : Option Addr) (n c : Nat) (vs : List Int) (w : World) (hx : RdG shZ w A n vs) (hv : R64s vs) :
    Calls Tryz.prog 142 #[.slice A n c] w (EncPost vs w) := by
  have Hl := Lib.hid hx.len
  by_cases hbig : 4096 < n
  · have hs : split8 vs = ([], 4) := by unfold split8; rw [if_pos (by have := Hl.out; omega)]
    have hs2 : encode8 vs = ([], 4) := by unfold encode8; rw [if_pos (by have := Hl.out; omega)]
    unfold EncPost
    rw [hs2]
    have Hs := Lib.hid hs
    clear hs hs2
    go_enter Tryz.func142, Tryz.ntmps142
    go_wp2_with fail
    refine (split_any A n c vs w hx hv).mono ?_
    rintro e w1 ⟨A1, c1, rfl, hown, he1⟩
    rw [Hs.out] at hown ⊢
    go_wp2_with fail
    go_ret2
    exact ⟨none, 0, rfl, Own.nil _ _ _ _, he1⟩
  · have hs : split8 vs = (rsp vs, 0) := by unfold split8; rw [if_neg (by have := Hl.out; omega)]
    have hs2 : encode8 vs = (encR (rsp vs), 0) := by unfold encode8; rw [if_neg (by have := Hl.out; omega)]
    have hea := rsp_each hv (by have := Hl.out; omega)
    have hr4 : (rsp vs).length ≤ 4096 := Nat.le_trans (rsp_len hv).1 (by have := Hl.out; omega)
    obtain ⟨rs, hrs⟩ : ∃ rs, rs = rsp vs := ⟨_, rfl⟩
    unfold EncPost
    rw [hs2, ← hrs]
    rw [← hrs] at hs hea hr4
    obtain ⟨m, hm⟩ : ∃ m, m = rs.length := ⟨_, rfl⟩
    obtain ⟨P, hP⟩ : ∃ P, P = vput m := ⟨_, rfl⟩
    have hPl : P.length ≤ 10 := by rw [hP, vput_len]; exact vsize_le (by omega)
    have hR : encR rs = P ++ encL rs := by unfold encR; rw [← hm, ← hP]
    rw [hR]
    rw [← hm] at hr4
    have Hm := Lib.hid hm
    have Hs := Lib.hid hs
    have HP := Lib.hid hP
    have Hea := Lib.hid hea
    clear hs hs2 hrs hm hP hR hea
    go_enter Tryz.func142, Tryz.ntmps142
    go_wp2_with fail
    refine (split_any A n c vs w hx hv).mono ?_
    rintro e w1 ⟨A1, c1, rfl, hown, he1⟩
    rw [Hs.out] at hown ⊢
    simp only at hown ⊢
    rw [← Hm.out]
    have hrd := hown.rd' Hm.out.symm
    have hz1 := he1.size
    clear hown
    go_wp2_with fail
    refine (put_any m _ (by omega)).mono ?_
    rintro e w2 ⟨A2, c2, rfl, hown2, he2⟩
    rw [← HP.out] at hown2 ⊢
    have hz2 := he2.size
    go_wp2_with fail
    go_loopw [6, 22] (fun v i wr => ∃ (j L : Nat) (A' : Option Addr) (c' : Nat), j ≤ m ∧ i = .int .i64 j ∧ v = .slice A' L c' ∧ L = (P ++ encL (rs.take j)).length ∧ L ≤ 10 + j * 20 ∧ Own .u8 5 wr w1.heap.size A' c' (P ++ encL (rs.take j)) ∧ Below w1.heap.size w1 wr) (fun _ i _ => m - (intOf i).toNat)
    case atStart => exact ⟨0, P.length, A2, c2, Nat.zero_le _, rfl, rfl, by simp [encL], by omega, by simpa [encL] using hown2, he2⟩
    case round =>
      obtain ⟨j, L, A', c', hj, rfl, rfl, hL, hLb, hown3, hb⟩ := hrel
      have hz : w1.heap.size ≤ wr.heap.size := hb.size
      by_cases hlt : j < m
      · obtain ⟨b, o, hA, hbl, hc0, hc1⟩ := hrd.atR hlt
        have hq := Hea.out _ (mem_getD (d := (0, 0)) (show j < rs.length by have := Hm.out; omega))
        have hT := encL_take (rs := rs) (j := j) (by have := Hm.out; omega)
        obtain ⟨⟨v, k0⟩, hqe⟩ : ∃ q, q = rs.getD j (0, 0) := ⟨_, rfl⟩
        rw [← hqe] at hq hT hc0 hc1
        simp only at hq hT hc0 hc1
        obtain ⟨hv1, hk1, hk2⟩ := hq
        obtain ⟨f0, f1⟩ := fold_range hv1
        obtain ⟨u, hu⟩ : ∃ u : Nat, foldS v = (u : Int) := ⟨(foldS v).toNat, by omega⟩
        obtain ⟨k, rfl⟩ : ∃ k : Nat, k0 = (k : Int) := ⟨k0.toNat, by omega⟩
        rw [hu] at f0 f1 hT
        simp only [Int.toNat_natCast] at hT
        have hul := vsize_le (u := u) (by omega)
        have hkl := vsize_le (u := k) (by omega)
        rw [← vput_len] at hul hkl
        obtain ⟨V, hV⟩ : ∃ V, V = vput u := ⟨_, rfl⟩
        obtain ⟨V2, hV2⟩ : ∃ V2, V2 = vput k := ⟨_, rfl⟩
        rw [← hV] at hul hT
        rw [← hV2] at hkl hT
        have HV := Lib.hid hV
        have HV2 := Lib.hid hV2
        have HU := Lib.hid hu
        have HT := Lib.hid hT
        have HL := Lib.hid hL
        have HC1 := Lib.hid hc1
        have hwc0 : wr.cell? ⟨b, o + j * 2, none⟩ = some (.int .i64 v) := (Below.cell hb (p := ⟨b, o + j * 2, none⟩) hbl).trans hc0
        have hv0 := hv1.1
        have hv2 := hv1.2
        subst hA
        clear hqe hT hu hV hV2 hL hc0 hc1 hv1
        go_wp2_with fail
        refine (fold_any v _ hv0 hv2).mono ?_
        rintro e w3 ⟨rfl, rfl⟩
        rw [HU.out]
        go_wp2_with fail
        refine (put_any u _ (by omega)).mono ?_
        rintro e w3 ⟨A3, c3, rfl, hown4, he3⟩
        rw [← HV.out] at hown4 ⊢
        have hz3 := he3.size
        go_wp2_with (at_builtin; refine wpList_pushes (w0 := w1) (base := w1.heap.size) .u8 5 rfl _ _ 22 rfl _ 1 Tryz.underlying22 Tryz.infoU8 rfl (hown3.ext he3) L HL.out.symm rfl rfl hown4.rd (by omega) (by omega) (Below.chain hb hz he3) (by omega) ?_; intro A4 c4 w4 hown5 hb4 hz4; have hwc1 : w4.cell? ⟨b, o + j * 2 + 1, none⟩ = some (.int .i64 (k : Int)) := (Below.cell hb4 (p := ⟨b, o + j * 2 + 1, none⟩) hbl).trans HC1.out)
        refine (put_any k _ (by omega)).mono ?_
        rintro e w5 ⟨A5, c5, rfl, hown6, he5⟩
        rw [← HV2.out] at hown6 ⊢
        have hz5 := he5.size
        have hl4 : (P ++ encL (rs.take j) ++ V).length = L + V.length := by rw [List.length_append, HL.out]
        have HL4 := Lib.hid hl4
        clear hl4
        go_wp2_with (at_builtin; refine wpList_pushes (w0 := w1) (base := w1.heap.size) .u8 5 rfl _ _ 22 rfl _ 1 Tryz.underlying22 Tryz.infoU8 rfl (hown5.ext he5) (L + V.length) HL4.out rfl rfl hown6.rd (by omega) (by omega) (Below.chain hb4 hz4 he5) (by omega) ?_; intro A6 c6 w6 hown7 hb6 hz6)
        go_roundw
        case rel =>
          have e1 : P ++ encL (rs.take j) ++ V ++ V2 = P ++ encL (rs.take (j + 1)) := by rw [HT.out]; simp
          rw [e1] at hown7
          exact ⟨j + 1, L + V.length + V2.length, A6, c6, by omega, by go_num, by simp, by rw [← e1, List.length_append, HL4.out], by omega, hown7, hb6⟩
        case measure => simp [intOf]; omega
      · obtain rfl : j = m := by omega
        rw [List.take_of_length_le (by have := Hm.out; omega)] at hL hown3
        subst hL
        go_wp2_with fail
        go_ret2
        exact ⟨A', c', rfl, hown3.mono hz1, he1.trans hb⟩
set_option maxHeartbeats 3200000 in
theorem refEncode_any (A : Option Addr) (n c : Nat) (vs : List Int) (w : World) (hx : RdG shZ w A n vs) (hv : R64s vs) :
    Calls Tryz.prog 197 #[.slice A n c] w (EncPost vs w) := by
  have Hl := Lib.hid hx.len
  by_cases hbig : 4096 < n
  · have hs : split8 vs = ([], 4) := by unfold split8; rw [if_pos (by have := Hl.out; omega)]
    have hs2 : encode8 vs = ([], 4) := by unfold encode8; rw [if_pos (by have := Hl.out; omega)]
    unfold EncPost
    rw [hs2]
    have Hs := Lib.hid hs
    clear hs hs2
    go_enter Tryz.func197, Tryz.ntmps197
    go_wp2_with fail
    refine (refSplit_any A n c vs w hx hv).mono ?_
    rintro e w1 ⟨A1, c1, rfl, hown, he1⟩
    rw [Hs.out] at hown ⊢
    go_wp2_with fail
    go_ret2
    exact ⟨none, 0, rfl, Own.nil _ _ _ _, he1⟩
  · have hs : split8 vs = (rsp vs, 0) := by unfold split8; rw [if_neg (by have := Hl.out; omega)]
    have hs2 : encode8 vs = (encR (rsp vs), 0) := by unfold encode8; rw [if_neg (by have := Hl.out; omega)]
    have hea := rsp_each hv (by have := Hl.out; omega)
    have hr4 : (rsp vs).length ≤ 4096 := Nat.le_trans (rsp_len hv).1 (by have := Hl.out; omega)
    obtain ⟨rs, hrs⟩ : ∃ rs, rs = rsp vs := ⟨_, rfl⟩
    unfold EncPost
    rw [hs2, ← hrs]
    rw [← hrs] at hs hea hr4
    obtain ⟨m, hm⟩ : ∃ m, m = rs.length := ⟨_, rfl⟩
    obtain ⟨P, hP⟩ : ∃ P, P = vput m := ⟨_, rfl⟩
    have hPl : P.length ≤ 10 := by rw [hP, vput_len]; exact vsize_le (by omega)
    have hR : encR rs = P ++ encL rs := by unfold encR; rw [← hm, ← hP]
    rw [hR]
    rw [← hm] at hr4
    have Hm := Lib.hid hm
    have Hs := Lib.hid hs
    have HP := Lib.hid hP
    have Hea := Lib.hid hea
    clear hs hs2 hrs hm hP hR hea
    go_enter Tryz.func197, Tryz.ntmps197
    go_wp2_with fail
    refine (refSplit_any A n c vs w hx hv).mono ?_
    rintro e w1 ⟨A1, c1, rfl, hown, he1⟩
    rw [Hs.out] at hown ⊢
    simp only at hown ⊢
    rw [← Hm.out]
    have hrd := hown.rd' Hm.out.symm
    have hz1 := he1.size
    clear hown
    go_wp2_with fail
    refine (refPut_any m _ (by omega)).mono ?_
    rintro e w2 ⟨A2, c2, rfl, hown2, he2⟩
    rw [← HP.out] at hown2 ⊢
    have hz2 := he2.size
    go_wp2_with fail
    go_loopw [6, 7] (fun v i wr => ∃ (j L : Nat) (A' : Option Addr) (c' : Nat), j ≤ m ∧ i = .int .i64 j ∧ v = .slice A' L c' ∧ L = (P ++ encL (rs.take j)).length ∧ L ≤ 10 + j * 20 ∧ Own .u8 5 wr w1.heap.size A' c' (P ++ encL (rs.take j)) ∧ Below w1.heap.size w1 wr) (fun _ i _ => m - (intOf i).toNat)
    case atStart => exact ⟨0, P.length, A2, c2, Nat.zero_le _, rfl, rfl, by simp [encL], by omega, by simpa [encL] using hown2, he2⟩
    case round =>
      obtain ⟨j, L, A', c', hj, rfl, rfl, hL, hLb, hown3, hb⟩ := hrel
      have hz : w1.heap.size ≤ wr.heap.size := hb.size
      by_cases hlt : j < m
      · obtain ⟨b, o, hA, hbl, hc0, hc1⟩ := hrd.atR hlt
        have hq := Hea.out _ (mem_getD (d := (0, 0)) (show j < rs.length by have := Hm.out; omega))
        have hT := encL_take (rs := rs) (j := j) (by have := Hm.out; omega)
        obtain ⟨⟨v, k0⟩, hqe⟩ : ∃ q, q = rs.getD j (0, 0) := ⟨_, rfl⟩
        rw [← hqe] at hq hT hc0 hc1
        simp only at hq hT hc0 hc1
        obtain ⟨hv1, hk1, hk2⟩ := hq
        obtain ⟨f0, f1⟩ := fold_range hv1
        obtain ⟨u, hu⟩ : ∃ u : Nat, foldS v = (u : Int) := ⟨(foldS v).toNat, by omega⟩
        obtain ⟨k, rfl⟩ : ∃ k : Nat, k0 = (k : Int) := ⟨k0.toNat, by omega⟩
        rw [hu] at f0 f1 hT
        simp only [Int.toNat_natCast] at hT
        have hul := vsize_le (u := u) (by omega)
        have hkl := vsize_le (u := k) (by omega)
        rw [← vput_len] at hul hkl
        obtain ⟨V, hV⟩ : ∃ V, V = vput u := ⟨_, rfl⟩
        obtain ⟨V2, hV2⟩ : ∃ V2, V2 = vput k := ⟨_, rfl⟩
        rw [← hV] at hul hT
        rw [← hV2] at hkl hT
        have HV := Lib.hid hV
        have HV2 := Lib.hid hV2
        have HU := Lib.hid hu
        have HT := Lib.hid hT
        have HL := Lib.hid hL
        have HC1 := Lib.hid hc1
        have hwc0 : wr.cell? ⟨b, o + j * 2, none⟩ = some (.int .i64 v) := (Below.cell hb (p := ⟨b, o + j * 2, none⟩) hbl).trans hc0
        have hv0 := hv1.1
        have hv2 := hv1.2
        subst hA
        clear hqe hT hu hV hV2 hL hc0 hc1 hv1
        go_wp2_with fail
        refine (refFold_any v _ hv0 hv2).mono ?_
        rintro e w3 ⟨rfl, rfl⟩
        rw [HU.out]
        go_wp2_with fail
        refine (refPut_any u _ (by omega)).mono ?_
        rintro e w3 ⟨A3, c3, rfl, hown4, he3⟩
        rw [← HV.out] at hown4 ⊢
        have hz3 := he3.size
        have hrd3 := (hown3.rd' HL.out.symm).ext he3
        go_wp2_with fail
        refine (cat_any _ _ L _ V.length _ _ _ _ hrd3 hown4.rd (by omega)).mono ?_
        rintro e w4 ⟨A4, c4, rfl, hown5, he4⟩
        have hb4 : Below w1.heap.size w1 w4 := Below.chain hb hz (he3.trans he4)
        have hz4 := he4.size
        have hwc1 : w4.cell? ⟨b, o + j * 2 + 1, none⟩ = some (.int .i64 (k : Int)) := (Below.cell hb4 (p := ⟨b, o + j * 2 + 1, none⟩) hbl).trans HC1.out
        go_wp2_with fail
        refine (refPut_any k _ (by omega)).mono ?_
        rintro e w5 ⟨A5, c5, rfl, hown6, he5⟩
        rw [← HV2.out] at hown6 ⊢
        have hz5 := he5.size
        have hl4 : (P ++ encL (rs.take j) ++ V).length = L + V.length := by rw [List.length_append, HL.out]
        have HL4 := Lib.hid hl4
        clear hl4
        have hrd5 := (hown5.rd' HL4.out).ext he5
        go_wp2_with fail
        refine (cat_any _ _ (L + V.length) _ V2.length _ _ _ _ hrd5 hown6.rd (by omega)).mono ?_
        rintro e w6 ⟨A6, c6, rfl, hown7, he6⟩
        have hb6 : Below w1.heap.size w1 w6 := Below.chain hb4 (by omega) (he5.trans he6)
        have hown8 := hown7.mono (show w1.heap.size ≤ w5.heap.size by omega)
        clear hown7
        go_wp2_with fail
        go_roundw
        case rel =>
          have e1 : P ++ encL (rs.take j) ++ V ++ V2 = P ++ encL (rs.take (j + 1)) := by rw [HT.out]; simp
          rw [e1] at hown8
          exact ⟨j + 1, L + V.length + V2.length, A6, c6, by omega, by go_num, by simp, by rw [← e1, List.length_append, HL4.out], by omega, hown8, hb6⟩
        case measure => simp [intOf]; omega
      · obtain rfl : j = m := by omega
        rw [List.take_of_length_le (by have := Hm.out; omega)] at hL hown3
        subst hL
        go_wp2_with fail
        go_ret2
        exact ⟨A', c', rfl, hown3.mono hz1, he1.trans hb⟩
set_option maxHeartbeats 1600000 in
theorem pencode_any (A : Option Addr) (n c : Nat) (ss : List Sl) (w : World) (hx : TxL w A n ss) (hn : n ≤ 140737488355328) :
    Calls Tryz.prog 147 #[.slice A n c] w (PEncPost (pencR (bodies ss)) w) := by
  have Hl := Lib.hid hx.len
  have hbl : (bodies ss).length = n := by rw [bodies_len, Hl.out]
  have HL := Lib.hid (containsLong11_any A n c ss w hx.rd hn)
  by_cases hbig : 4096 < n
  · have HR := Lib.hid (pencR_bad (ss := bodies ss) (.inl (by rw [hbl]; exact hbig)))
    clear hbl HL
    go_enter Tryz.func147, Tryz.ntmps147
    go_wp2
    go_ret2
    exact PEncPost.bad _ HR.out (Ext.refl w)
  · cases hany : anyLong (bodies ss) with
    | true =>
      have HR := Lib.hid (pencR_bad (.inr hany))
      rw [hany] at HL
      clear hbl hany
      go_enter Tryz.func147, Tryz.ntmps147
      go_wp2_with fail
      refine HL.out.mono ?_
      rintro e w1 ⟨rfl, rfl⟩
      go_wp2
      go_ret2
      exact PEncPost.bad _ HR.out (Ext.refl _)
    | false =>
      have HR := Lib.hid (pencR_good (by rw [hbl]; omega) hany)
      have hlong := anyLong_no hany
      have Hvl := Lib.hid (penc_len (by rw [hbl]; omega) hlong)
      have Hlong := Lib.hid hlong
      rw [hany] at HL
      obtain ⟨V, hV⟩ : ∃ V, V = penc (bodies ss) := ⟨_, rfl⟩
      rw [← hV] at HR Hvl
      have HV := Lib.hid hV
      have Hbl := Lib.hid hbl
      clear hV hbl hany hlong
      go_enter Tryz.func147, Tryz.ntmps147
      go_wp2_with fail
      refine HL.out.mono ?_
      rintro e w1 ⟨rfl, rfl⟩
      go_wp2_with fail
      refine (put_any n _ (by omega)).mono ?_
      rintro e w2 ⟨A2, c2, rfl, hown2, he2⟩
      have HP0 := Lib.hid (show vput n ++ pencA ((bodies ss).take 0) ((bodies ss).drop 0) = V by rw [HV.out, penc, Hbl.out]; rfl)
      go_wp2_with fail
      go_loopw [4, 5, 6, 7, 21] (fun v _ _ _ i wr => ∃ (j : Nat) (P : List Nat) (A' : Option Addr) (c' : Nat), j ≤ n ∧ i = .int .i64 j ∧ v = .slice A' P.length c' ∧ Hid (P ++ pencA ((bodies ss).take j) ((bodies ss).drop j) = V) ∧ Own .u8 5 wr w1.heap.size A' c' P ∧ Ext w1 wr) (fun _ _ _ _ i _ => n - (intOf i).toNat)
      case atStart => exact ⟨0, _, A2, c2, Nat.zero_le _, rfl, rfl, HP0.out, hown2, he2⟩
      case round =>
        clear HP0 hown2 he2
        obtain ⟨j, P, A', c', hj, rfl, rfl, HP, hown, he⟩ := hrel
        by_cases hlt : j < n
        · obtain ⟨b, o, s, rfl, hf, hc, _⟩ := (hx.ext he).at_ hlt
          have hs := hx.each s (List.mem_of_getElem? hf)
          have hbj := bodies_at hf
          have hst := pencA_step hbj
          have hah := ahead_take (ss := bodies ss) (j := j) (by rw [Hbl.out]; exact hj)
          have hsl : s.body.length ≤ 200 := Hlong.out _ (List.mem_of_getElem? hbj)
          obtain ⟨sA, sc, body⟩ := s
          simp only at hc hs hsl hst
          obtain ⟨srd, su8, scap, stop, slen⟩ := hs
          simp only at srd su8 scap stop slen
          obtain ⟨k, hk⟩ : ∃ k, k = cp (ahead ((bodies ss).take j)) body := ⟨_, rfl⟩
          have hkb : k ≤ body.length := by rw [hk]; exact (cp_le _ _).2
          have hN : (P ++ vput k ++ vput (body.length - k) ++ body.drop k) ++ pencA ((bodies ss).take (j + 1)) ((bodies ss).drop (j + 1)) = V := by
            rw [← HP.out, hst, ptext, ← hk]
            simp
          have hPl : P.length ≤ 1000000 := by have := Hvl.out; rw [← HP.out, List.length_append] at this; omega
          have HN := Lib.hid hN
          have Hk := Lib.hid hk
          clear hN hst hbj hk HP
          obtain ⟨m, hm⟩ : ∃ m, m = body.length := ⟨_, rfl⟩
          rw [← hm] at hc srd scap hsl hkb HN slen
          have Hm := Lib.hid hm
          clear hm
          have sl9 := run_from sA m sc k hkb
          have sh9 := srd.offA hkb scap
          obtain ⟨A9, hA9⟩ : ∃ A9, A9 = offA sA k sc := ⟨_, rfl⟩
          rw [← hA9] at sl9 sh9
          have Hsl9 := Lib.hid sl9
          have Hsh9 := Lib.hid sh9
          clear sl9 sh9 hA9
          have hmk : (m : Int) - (k : Int) = ((m - k : Nat) : Int) := by omega
          have hk200 : k ≤ 200 := by omega
          have hmk200 : m - k ≤ 200 := by omega
          have Hkb := Lib.hid hkb
          clear hkb
          by_cases hw16 : j % 16 = 0
          · have hd : decide (j % 16 = 0) = true := decide_eq_true hw16
            have hk0 : k = 0 := by rw [Hk.out, hah, if_pos hw16]; rfl
            have Hk0 := Lib.hid hk0
            clear hk0
            go_wp2_with fail
            refine (isWhole_any j _ (by omega)).mono ?_
            rintro e w3 ⟨rfl, rfl⟩
            rw [hd]
            go_wp2_with fail
            rw [show Value.int .i64 0 = Value.int .i64 (k : Int) by rw [Hk0.out]; rfl, show Value.int .u64 0 = Value.int .u64 (k : Int) by rw [Hk0.out]; rfl]
            refine (put_any k _ (by omega)).mono ?_
            rintro e w4 ⟨A4, c4, rfl, hown4, he4⟩
            have sl9 := Hsl9.out
            have hown3 := hown.ext he4
            have hE4 := he.trans he4
            have hv1 := vput_le (u := k) (by omega)
            go_wp2_with (at_builtin; refine wpList_pushes .u8 5 rfl _ _ 22 rfl _ 1 Tryz.underlying22 Tryz.infoU8 rfl hown3 P.length rfl rfl rfl hown4.rd (by omega) (by omega) hE4 hE4.size ?_; intro A5 c5 w5 hown5 hb5 hz5)
            refine (put_any (m - k) _ (by omega)).mono ?_
            rintro e w6 ⟨A6, c6, rfl, hown6, he6⟩
            have hown7 := hown5.ext he6
            have hE6 := Ext.trans hb5 he6
            have hv2 := vput_le (u := m - k) (by omega)
            have hL5 : (P ++ vput k).length = P.length + (vput k).length := List.length_append
            have hL7 : (P ++ vput k ++ vput (m - k)).length = P.length + (vput k).length + (vput (m - k)).length := by rw [List.length_append, List.length_append]
            go_wp2_with (first
              | (at_builtin; refine wpList_pushes .u8 5 rfl _ _ 22 rfl _ 1 Tryz.underlying22 Tryz.infoU8 rfl hown7 _ hL5 rfl rfl hown6.rd (by omega) (by omega) hE6 hE6.size ?_; intro A7 c7 w7 hown8 hb7 hz7)
              | (at_builtin; refine wpList_pushes  .u8 5 rfl _ _ 22 rfl _ 1 Tryz.underlying22 Tryz.infoU8 rfl hown8 _ hL7 rfl rfl (Hsh9.out.ext hb7) (by omega) (by omega) hb7 hz7 ?_; intro A8 c8 w8 hown9 hb8 hz8)
              | fail)
            rw [show Value.int .i64 (k : Int) = Value.int .i64 0 by rw [Hk0.out]; rfl]
            go_roundw
            case rel => exact ⟨j + 1, _, A8, c8, by omega, by go_num, by rw [List.length_append, List.length_append, List.length_append, List.length_drop, ← Hm.out], HN.out, hown9, hb8⟩
            case measure => simp [intOf]; omega
          · have hd : decide (j % 16 = 0) = false := decide_eq_false hw16
            obtain ⟨q, rfl⟩ : ∃ q, j = q + 1 := ⟨j - 1, by omega⟩
            obtain ⟨b', o', s', e', hf', hc', _⟩ := (hx.ext he).at_ (j := q) (by omega)
            have hs' := hx.each s' (List.mem_of_getElem? hf')
            injection e' with e'
            injection e' with e1 e2
            subst e1 e2
            have hk1 : k = cp s'.body body := by rw [Hk.out, hah, if_neg hw16, Nat.add_sub_cancel, bodies_get hf']
            obtain ⟨sA', sc', body'⟩ := s'
            simp only at hc' hs' hk1
            have Hk1 := Lib.hid hk1
            clear hk1 hf'
            go_wp2_with fail
            refine (isWhole_any (q + 1) _ (by omega)).mono ?_
            rintro e w3 ⟨rfl, rfl⟩
            rw [hd]
            go_wp2_with fail
            refine (palike_any _ _ _ _ _ _ _ _ _ (hs'.rd.ext he) (srd.ext he) hs'.len slen).mono ?_
            rintro e w3 ⟨rfl, q3, rfl⟩
            rw [← Hk1.out]
            go_wp2_with fail
            refine (put_any k _ (by omega)).mono ?_
            rintro e w4 ⟨A4, c4, rfl, hown4, he4⟩
            have sl9 := Hsl9.out
            have hown3 := (hown.ext (Ext.of_drewN _ q3)).ext he4
            have hE4 := (he.drewN q3).trans he4
            have hv1 := vput_le (u := k) (by omega)
            go_wp2_with (at_builtin; refine wpList_pushes .u8 5 rfl _ _ 22 rfl _ 1 Tryz.underlying22 Tryz.infoU8 rfl hown3 P.length rfl rfl rfl hown4.rd (by omega) (by omega) hE4 hE4.size ?_; intro A5 c5 w5 hown5 hb5 hz5)
            refine (put_any (m - k) _ (by omega)).mono ?_
            rintro e w6 ⟨A6, c6, rfl, hown6, he6⟩
            have hown7 := hown5.ext he6
            have hE6 := Ext.trans hb5 he6
            have hv2 := vput_le (u := m - k) (by omega)
            have hL5 : (P ++ vput k).length = P.length + (vput k).length := List.length_append
            have hL7 : (P ++ vput k ++ vput (m - k)).length = P.length + (vput k).length + (vput (m - k)).length := by rw [List.length_append, List.length_append]
            go_wp2_with (first
              | (at_builtin; refine wpList_pushes .u8 5 rfl _ _ 22 rfl _ 1 Tryz.underlying22 Tryz.infoU8 rfl hown7 _ hL5 rfl rfl hown6.rd (by omega) (by omega) hE6 hE6.size ?_; intro A7 c7 w7 hown8 hb7 hz7)
              | (at_builtin; refine wpList_pushes  .u8 5 rfl _ _ 22 rfl _ 1 Tryz.underlying22 Tryz.infoU8 rfl hown8 _ hL7 rfl rfl (Hsh9.out.ext hb7) (by omega) (by omega) hb7 hz7 ?_; intro A8 c8 w8 hown9 hb8 hz8)
              | fail)
            go_roundw
            case rel => exact ⟨q + 1 + 1, _, A8, c8, by omega, by go_num, by rw [List.length_append, List.length_append, List.length_append, List.length_drop, ← Hm.out], HN.out, hown9, hb8⟩
            case measure => simp [intOf]; omega
        · obtain rfl : j = n := by omega
          have hfin := Lib.hid (show P = V by rw [← HP.out, List.drop_of_length_le (by rw [Hbl.out]; exact Nat.le_refl _)]; simp [pencA])
          go_wp2
          go_ret2
          exact PEncPost.good _ HR.out (by rw [hfin.out]) (by rw [← hfin.out]; exact hown) he
theorem PEncPost.back {R : List Nat × Int} {w W w' : World} {e : Ending} (hE : Ext w W) (h : PEncPost R W e w') : PEncPost R w e w' := by
  obtain ⟨A', c', h1, h2, h3⟩ := h
  exact ⟨A', c', h1, h2.mono hE.size, hE.trans h3⟩
def valR (k cd : Int) (xs : List Ci) : List Nat × Int :=
  if cd = 2 then encode8 (xs.map Ci.num) else if cd = 3 then encode9 (xs.map Ci.num) else if cd = 4 then dencR (xs.map Ci.txt) else if cd = 5 then pencR (xs.map Ci.txt) else (plainL k xs, 0)
theorem bodies_sl (xs : List Ci) : bodies (xs.map Ci.sb) = xs.map Ci.txt := by unfold bodies; rw [List.map_map]; rfl
theorem RdX.nums {w : World} {A : Option Addr} {n : Nat} {xs : List Ci} (h : RdX w A n xs) : R64s (xs.map Ci.num) := by
  intro v hv
  obtain ⟨x, hx, rfl⟩ := List.mem_map.1 hv
  obtain ⟨j, hj, e⟩ := List.getElem_of_mem hx
  obtain ⟨_, _, y, _, _, hy, _, _, _, hin⟩ := h.at_ (j := j) (by rw [← h.1]; exact hj)
  rw [List.getElem?_eq_getElem hj, e] at hy
  rw [Option.some.inj hy]
  exact ⟨hin.lo, hin.hi⟩
set_option maxHeartbeats 2000000 in
theorem putValues_any (k cd : Int) (A : Option Addr) (n c : Nat) (xs : List Ci) (w : World) (hx : RdX w A n xs) (hc : CapX xs) (hn : n ≤ 4096) (h200 : ∀ x ∈ xs, x.txt.length ≤ 200) :
    Calls Tryz.prog 107 #[.int .i64 k, .int .i64 cd, .slice A n c] w (PEncPost (valR k cd xs) w) := by
  have HN := Lib.hid (fun W (hW : Ext w W) => toNumbers_any A n c xs W (hx.ext hW) (by omega))
  have HT := Lib.hid (fun W (hW : Ext w W) => toTexts_any A n c xs W (hx.ext hW) (by omega))
  have HP := Lib.hid (fun W (hW : Ext w W) => putPlain_any k A n c xs W (hx.ext hW) hn h200)
  have Hl := Lib.hid (show (xs.map Ci.num).length = n by rw [List.length_map]; exact hx.1)
  have HX := Lib.hid hx
  have HC := Lib.hid hc
  have Hn := Lib.hid hn
  clear hx hc hn h200
  by_cases h2 : cd = 2
  · subst h2
    have HV := Lib.hid (show valR k 2 xs = encode8 (xs.map Ci.num) from rfl)
    go_enter Tryz.func107, Tryz.ntmps107
    go_wp2_with fail
    refine (HN.out _ (Ext.refl _)).mono ?_
    rintro e w1 ⟨A1, c1, rfl, ho, he⟩
    have hr := ho.rd' Hl.out
    go_wp2_with fail
    refine (encode_any A1 n c1 _ w1 hr HX.out.nums).mono ?_
    rintro e w2 ⟨A2, c2, rfl, ho2, he2⟩
    go_wp2_with fail
    go_ret2
    rw [HV.out]
    exact PEncPost.back he ⟨A2, c2, rfl, ho2, he2⟩
  by_cases h3 : cd = 3
  · subst h3
    have HV := Lib.hid (show valR k 3 xs = encode9 (xs.map Ci.num) from rfl)
    go_enter Tryz.func107, Tryz.ntmps107
    go_wp2_with fail
    refine (HN.out _ (Ext.refl _)).mono ?_
    rintro e w1 ⟨A1, c1, rfl, ho, he⟩
    have hr := ho.rd' Hl.out
    go_wp2_with fail
    refine (p9encode_any A1 n c1 _ w1 hr HX.out.nums).mono ?_
    rintro e w2 ⟨A2, c2, rfl, ho2, he2⟩
    go_wp2_with fail
    go_ret2
    rw [HV.out]
    exact PEncPost.back he ⟨A2, c2, rfl, ho2, he2⟩
  by_cases h4 : cd = 4
  · subst h4
    have HV := Lib.hid (show valR k 4 xs = dencR (xs.map Ci.txt) from rfl)
    go_enter Tryz.func107, Tryz.ntmps107
    go_wp2_with fail
    refine (HT.out _ (Ext.refl _)).mono ?_
    rintro e w1 ⟨A1, c1, rfl, ho, he⟩
    have hr := HX.out.txl HC.out ho HX.out.1 he
    go_wp2_with fail
    refine (dencode_any A1 n c1 _ w1 hr (by have := Hn.out; omega)).mono ?_
    rintro e w2 ⟨A2, c2, rfl, ho2, he2⟩
    go_wp2_with fail
    go_ret2
    rw [HV.out, ← bodies_sl]
    exact PEncPost.back he ⟨A2, c2, rfl, ho2, he2⟩
  by_cases h5 : cd = 5
  · subst h5
    have HV := Lib.hid (show valR k 5 xs = pencR (xs.map Ci.txt) from rfl)
    go_enter Tryz.func107, Tryz.ntmps107
    go_wp2_with fail
    refine (HT.out _ (Ext.refl _)).mono ?_
    rintro e w1 ⟨A1, c1, rfl, ho, he⟩
    have hr := HX.out.txl HC.out ho HX.out.1 he
    go_wp2_with fail
    refine (pencode_any A1 n c1 _ w1 hr (by have := Hn.out; omega)).mono ?_
    rintro e w2 ⟨A2, c2, rfl, ho2, he2⟩
    go_wp2_with fail
    go_ret2
    rw [HV.out, ← bodies_sl]
    exact PEncPost.back he ⟨A2, c2, rfl, ho2, he2⟩
  have HV := Lib.hid (show valR k cd xs = (plainL k xs, 0) by unfold valR; rw [if_neg h2, if_neg h3, if_neg h4, if_neg h5])
  have b2 : (cd == 2) = false := beq_eq_false_iff_ne.2 h2
  have b3 : (cd == 3) = false := beq_eq_false_iff_ne.2 h3
  have b4 : (cd == 4) = false := beq_eq_false_iff_ne.2 h4
  have b5 : (cd == 5) = false := beq_eq_false_iff_ne.2 h5
  clear h2 h3 h4 h5
  go_enter Tryz.func107, Tryz.ntmps107
  go_wp2_with fail
  refine (HP.out _ (Ext.refl _)).mono ?_
  rintro e w1 ⟨A1, c1, rfl, ho, he⟩
  go_wp2_with fail
  go_ret2
  rw [HV.out]
  exact ⟨A1, c1, rfl, ho, he⟩
theorem e8_len12 {vs : List Int} (h : R64s vs) : (encode8 vs).1.length ≤ 100000 := by
  unfold encode8
  split
  · simp
  · show (encR (rsp vs)).length ≤ _
    have h1 := encL_le (rsp_each h (by omega))
    have h2 := (rsp_len h).1
    have h3 := vsize_le (u := (rsp vs).length) (by omega)
    rw [encR_len, vput_len]
    omega
theorem e9_len12 {vs : List Int} (h : R64s vs) : (encode9 vs).1.length ≤ 40000 := by
  unfold encode9
  split
  · simp
  · have h4 : vs.length ≤ 4096 := by omega
    show (encP vs).length ≤ _
    unfold encP
    split
    · rw [vput_len]; have := vsize_le (u := 0) (by omega); omega
    · rename_i hn
      have h1 := wid_le h (by omega)
      have h2 := fold_range (h _ (lo_mem (show 0 < vs.length by omega)))
      have a1 := vsize_le (u := vs.length) (by omega)
      have a2 := vsize_le (u := (foldS (lo vs)).toNat) (by omega)
      have a3 : wid vs * vs.length ≤ 64 * 4096 := Nat.mul_le_mul h1 h4
      rw [List.length_append, List.length_append, List.length_append, vput_len, vput_len, packB_len9, dst_len]
      simp only [List.length_singleton]
      omega
theorem few12 {ss : List (List Nat)} (h : ¬ (4096 < ss.length ∨ anyLong ss = true)) : ss.length ≤ 4096 ∧ anyLong ss = false := by
  constructor
  · rcases Nat.lt_or_ge 4096 ss.length with q | q
    · exact absurd (.inl q) h
    · exact q
  · cases q : anyLong ss with
    | true => exact absurd (.inr q) h
    | false => rfl
theorem ed_len12 (ss : List (List Nat)) : (dencR ss).1.length ≤ 1000000 := by
  by_cases h : 4096 < ss.length ∨ anyLong ss = true
  · rw [dencR_bad h]; simp
  · obtain ⟨h1, h2⟩ := few12 h
    rw [dencR_good h1 h2]
    exact denc_len h1 h2
theorem ep_len12 (ss : List (List Nat)) : (pencR ss).1.length ≤ 1000000 := by
  by_cases h : 4096 < ss.length ∨ anyLong ss = true
  · rw [pencR_bad h]; simp
  · obtain ⟨h1, h2⟩ := few12 h
    rw [pencR_good h1 h2]
    exact penc_len h1 (anyLong_no h2)
theorem plainL_len (k : Int) : ∀ (xs : List Ci), R64s (xs.map Ci.num) → (∀ x ∈ xs, x.txt.length ≤ 200) → (plainL k xs).length ≤ 210 * xs.length
  | [], _, _ => by simp [plainL]
  | x :: xs, h, h2 => by
    have ih := plainL_len k xs (fun v hv => h v (List.mem_cons_of_mem _ hv)) (fun y hy => h2 y (List.mem_cons_of_mem _ hy))
    have hx := h x.num (List.mem_cons_self ..)
    have h1 := plain1_le (k := k) hx.1 hx.2 (h2 x (List.mem_cons_self ..))
    have e : plainL k (x :: xs) = plain1 k x ++ plainL k xs := by simp [plainL]
    rw [e, List.length_append, List.length_cons]
    omega
theorem valR_len (k cd : Int) {xs : List Ci} (h : R64s (xs.map Ci.num)) (h2 : ∀ x ∈ xs, x.txt.length ≤ 200) (hn : xs.length ≤ 4096) : (valR k cd xs).1.length ≤ 1000000 := by
  unfold valR
  split
  · have := e8_len12 h; omega
  · split
    · have := e9_len12 h; omega
    · split
      · exact ed_len12 _
      · split
        · exact ep_len12 _
        · have := plainL_len k xs h h2
          show (plainL k xs).length ≤ _
          omega
theorem nullsL_len {xs : List Ci} (h : xs.length ≤ 4096) : (nullsL xs).length ≤ 600 := by
  unfold nullsL
  split
  · rw [List.length_cons]
    unfold packB
    rw [upk_len, nb_len]; omega
  · simp
theorem capX_nn {xs : List Ci} (h : CapX xs) : CapX (nn xs) := fun x hx => h x (nn_mem hx)
def putR (k cd : Int) (xs : List Ci) : List Nat × Int :=
  if (valR k cd (nn xs)).2 ≠ 0 then ([], (valR k cd (nn xs)).2) else ([cd.toNat] ++ (vput xs.length ++ (nullsL xs ++ (valR k cd (nn xs)).1)), 0)
theorem RdX.all {w : World} {A : Option Addr} {n : Nat} {xs : List Ci} (h : RdX w A n xs) : ∀ x ∈ xs, x.In w := by
  intro x hx
  obtain ⟨j, hj, e⟩ := List.getElem_of_mem hx
  obtain ⟨_, _, y, _, _, hy, _, _, _, hin⟩ := h.at_ (j := j) (by rw [← h.1]; exact hj)
  rw [List.getElem?_eq_getElem hj, e] at hy
  rw [Option.some.inj hy]
  exact hin
set_option maxHeartbeats 2000000 in
theorem bput_any (k cd : Int) (hcd : 0 ≤ cd ∧ cd ≤ 255) (A : Option Addr) (n c : Nat) (xs : List Ci) (w : World) (hx : RdX w A n xs) (hc : CapX xs) (hn : n ≤ 4096) (h200 : ∀ x ∈ xs, x.txt.length ≤ 200) :
    Calls Tryz.prog 68 #[.int .i64 k, .int .i64 cd, .slice A n c] w (PEncPost (putR k cd xs) w) := by
  obtain ⟨d, rfl⟩ : ∃ d : Nat, cd = d := ⟨cd.toNat, by omega⟩
  have hl := hx.1
  have hnl := nn_le xs
  have HN := Lib.hid (fun W (hW : Ext w W) => putNulls_any A n c xs W (hx.ext hW) hn)
  have HW := Lib.hid (fun W (hW : Ext w W) => withoutNulls_any A n c xs W (hx.ext hW) (by omega))
  have HC := Lib.hid (capX_nn hc)
  have H2 := Lib.hid (fun x (h : x ∈ nn xs) => h200 x (nn_mem h))
  have hnu := nullsL_len (xs := xs) (by omega)
  have HR := Lib.hid (show putR k d xs = if (valR k d (nn xs)).2 ≠ 0 then ([], (valR k d (nn xs)).2) else ([d] ++ (vput xs.length ++ (nullsL xs ++ (valR k d (nn xs)).1)), 0) from rfl)
  obtain ⟨q, hq⟩ : ∃ q, q = (nn xs).length := ⟨_, rfl⟩
  obtain ⟨Nl, hNl⟩ : ∃ Nl, Nl = nullsL xs := ⟨_, rfl⟩
  obtain ⟨u, hu⟩ : ∃ u, u = Nl.length := ⟨_, rfl⟩
  rw [← hNl] at HN hnu HR
  rw [← hu] at hnu
  rw [← hq] at HW hnl
  have Hq := Lib.hid hq
  have Hl := Lib.hid hl
  have Hu := Lib.hid hu
  have HI := Lib.hid hx.all
  have hPu : Hid (∀ W, Calls Tryz.prog 110 #[.int .u64 (n : Int)] W fun e w' => ∃ A' c', e = .returned (.slice A' (vput n).length c') ∧ Own .u8 5 w' W.heap.size A' c' (vput n) ∧ Ext W w') := Lib.hid (fun W => put_any n W (by omega))
  have hvs := vsize_le (u := n) (by omega)
  have Hvs := Lib.hid (show (vput n).length ≤ 10 by rw [vput_len]; exact hvs)
  have hw8 : IntKind.u8.wrap (d : Int) = (d : Int) := IntWalk.u8_in _ (by omega)
  have hw64 : IntKind.u64.wrap (n : Int) = (n : Int) := IntWalk.u64_in _ (by omega)
  clear hx hc h200 hNl hq hl hu hvs
  go_enter Tryz.func68, Tryz.ntmps68
  go_wp2_with fail
  refine (HN.out _ (Ext.refl _)).mono ?_
  rintro e w1 ⟨A1, c1, rfl, ho1, he1⟩
  simp only [← Hu.out]
  go_wp2_with fail
  refine (HW.out _ he1).mono ?_
  rintro e w2 ⟨A2, c2, rfl, ho2, he2⟩
  go_wp2_with fail
  have hr2 : RdX w2 A2 q (nn xs) := by rw [Hq.out]; exact ho2.rdX (fun x h => (HI.out x (nn_mem h)).ext (he1.trans he2))
  have hV := Lib.hid (putValues_any k d A2 q c2 (nn xs) w2 hr2 HC.out (by have := Hl.out; omega) H2.out)
  have hvl := valR_len k d hr2.nums H2.out (by rw [← Hq.out]; have := Hl.out; omega)
  obtain ⟨V, hVV⟩ : ∃ V, V = valR k d (nn xs) := ⟨_, rfl⟩
  rw [← hVV] at hV hvl HR
  obtain ⟨V1, V2⟩ := V
  simp only at hvl HR
  obtain ⟨v, hv⟩ : ∃ v, v = V1.length := ⟨_, rfl⟩
  rw [← hv] at hvl
  have Hv := Lib.hid hv
  have he12 := he1.trans he2
  clear hVV hr2 hv
  refine (hV.out).mono ?_
  rintro e w3 ⟨A3, c3, rfl, ho3, he3⟩
  simp only [← Hv.out]
  have he13 := he12.trans he3
  by_cases hz : V2 = 0
  · subst hz
    have HR2 := Lib.hid (HR.out.trans (if_neg (fun h => h rfl)))
    have hz1 := he1.size
    have hz2 := he12.size
    have hz3 := he13.size
    go_wp2_with fail
    refine (hPu.out _).mono ?_
    rintro e w4 ⟨A4, c4, rfl, ho4, he4⟩
    go_wp2_with fail
    have hfl : ([[d], vput n, Nl, V1] : List (List Nat)).flatten = [d] ++ (vput n ++ (Nl ++ V1)) := by simp
    obtain ⟨M, hM⟩ : ∃ M, M = [d] ++ (vput n ++ (Nl ++ V1)) := ⟨_, rfl⟩
    rw [← hM] at hfl
    have hMl : M.length ≤ 1000700 := by rw [hM, List.length_append, List.length_append, List.length_append, ← Hu.out, ← Hv.out]; have := Hvs.out; simp only [List.length_singleton]; omega
    have hRR : putR k d xs = (M, 0) := by rw [HR2.out, Hl.out, hM]
    have hE4 : Ext w3 w4 := ((Ext.refl w3).alloc _).trans he4
    have hss := RdSS.four 22 w4 (c := 1) (c2 := c4) (c3 := c1) (c4 := c3) rfl ((Rd.lit .u8 5 w3 [d]).ext he4) ho4.rd (((ho1.rd' Hu.out.symm).ext (he2.trans he3)).ext hE4) ((ho3.rd' Hv.out.symm).ext hE4)
    have HCc := Lib.hid (concat_any (some ⟨w4.heap.size, 0, none⟩) 4 4 [[d], vput n, Nl, V1] _ hss (by rw [hfl]; omega) (by decide))
    rw [hfl] at HCc
    clear hM hss
    refine HCc.out.mono ?_
    rintro e w5 ⟨A5, c5, rfl, ho5, he5⟩
    have hE5 : Ext w4 w5 := ((Ext.refl w4).alloc _).trans he5
    go_wp2_with fail
    go_ret2
    have hz4 := hE4.size
    exact PEncPost.good _ hRR rfl (ho5.mono (by rw [World.size_alloc]; omega)) ((he13.trans hE4).trans hE5)
  · have hzb : (V2 == 0) = false := beq_eq_false_iff_ne.2 hz
    have HR2 := Lib.hid (HR.out.trans (if_pos hz))
    clear hz
    go_wp2_with fail
    go_ret2
    exact PEncPost.bad _ HR2.out he13
def bestF (k : Int) (xs : List Ci) : List Int → Int × List Nat → (Int × List Nat) × Int
  | [], s => (s, 0)
  | cd :: cs, s => if (putR k cd xs).2 ≠ 0 then ((0, []), (putR k cd xs).2) else bestF k xs cs (if s.1 = 0 ∨ (putR k cd xs).1.length < s.2.length then (cd, (putR k cd xs).1) else s)
theorem bestF_at {k : Int} {xs : List Ci} {L : List Int} {j : Nat} {cd : Int} (h : L[j]? = some cd) (s : Int × List Nat) : bestF k xs (L.drop j) s = if (putR k cd xs).2 ≠ 0 then ((0, []), (putR k cd xs).2) else bestF k xs (L.drop (j + 1)) (if s.1 = 0 ∨ (putR k cd xs).1.length < s.2.length then (cd, (putR k cd xs).1) else s) := by
  obtain ⟨h1, h2⟩ := List.getElem?_eq_some_iff.1 h
  rw [List.drop_eq_getElem_cons h1, h2]; rfl
theorem codecs_len (k : Int) : (codecs k).length = 3 := by unfold codecs; split <;> rfl
theorem codecs_mem {k cd : Int} (h : cd ∈ codecs k) : 1 ≤ cd ∧ cd ≤ 5 := by
  unfold codecs at h
  split at h <;> simp at h <;> omega
theorem putR_len {k cd : Int} {xs : List Ci} (h : R64s (xs.map Ci.num)) (h2 : ∀ x ∈ xs, x.txt.length ≤ 200) (hn : xs.length ≤ 4096) : (putR k cd xs).1.length ≤ 1000700 := by
  unfold putR
  split
  · simp
  · have h3 := nn_le xs
    have h4 := valR_len k cd (xs := nn xs) (fun v hv => by
      obtain ⟨x, hx, rfl⟩ := List.mem_map.1 hv
      exact h _ (List.mem_map.2 ⟨x, nn_mem hx, rfl⟩)) (fun x hx => h2 x (nn_mem hx)) (by omega)
    have h5 := nullsL_len hn
    have h6 := vsize_le (u := xs.length) (by omega)
    simp only [List.length_append, vput_len, List.length_singleton]
    omega
set_option maxHeartbeats 2000000 in
theorem putBest_any (k : Int) (A : Option Addr) (n c : Nat) (xs : List Ci) (w : World) (hx : RdX w A n xs) (hc : CapX xs) (hn : n ≤ 4096) (h200 : ∀ x ∈ xs, x.txt.length ≤ 200) :
    Calls Tryz.prog 70 #[.int .i64 k, .slice A n c] w fun e w' => ∃ A' c', e = .returned (.tuple #[.int .i64 (bestF k xs (codecs k) (0, [])).1.1, .slice A' (bestF k xs (codecs k) (0, [])).1.2.length c', .int .i64 (bestF k xs (codecs k) (0, [])).2]) ∧ Own .u8 5 w' w.heap.size A' c' (bestF k xs (codecs k) (0, [])).1.2 ∧ Ext w w' := by
  have HP := Lib.hid (fun cd (h : cd ∈ codecs k) W (hW : Ext w W) => bput_any k cd (by have := codecs_mem h; omega) A n c xs W (hx.ext hW) hc hn h200)
  have HL := Lib.hid (fun cd => putR_len (k := k) (cd := cd) hx.nums h200 (by rw [hx.1]; exact hn))
  have HF := Lib.hid (codecsFor_any k w)
  obtain ⟨R, hR⟩ : ∃ R, R = bestF k xs (codecs k) (0, []) := ⟨_, rfl⟩
  rw [← hR]
  have Hs := Lib.hid (show bestF k xs ((codecs k).drop 0) (0, []) = R by rw [hR]; rfl)
  have Ha := Lib.hid (fun (j : Nat) cd (h : (codecs k)[j]? = some cd) s => bestF_at (k := k) (xs := xs) h s)
  have Hcl := Lib.hid (codecs_len k)
  clear hx hc hn h200 hR
  go_enter Tryz.func70, Tryz.ntmps70
  go_wp2_with fail
  refine HF.out.mono ?_
  rintro e w1 ⟨A1, c1, rfl, hr1, he1⟩
  have Hr1 := Lib.hid hr1
  clear hr1
  go_wp2_with fail
  go_loopw [7, 8, 16] (fun y z i wr => ∃ (j l : Nat) (b : Int) (L : List Nat) (A' : Option Addr) (c' : Nat), j ≤ 3 ∧ l ≤ 1000700 ∧ i = .int .i64 (j : Int) ∧ y = .int .i64 b ∧ z = .slice A' l c' ∧ Hid (L.length = l) ∧ Own .u8 5 wr w.heap.size A' c' L ∧ Ext w1 wr ∧ Hid (bestF k xs ((codecs k).drop j) (b, L) = R)) (fun _ _ i _ => 3 - (intOf i).toNat)
  case atStart => exact ⟨0, 0, 0, [], none, 0, by decide, by decide, rfl, rfl, rfl, Lib.hid rfl, Own.nil .., Ext.refl _, Lib.hid Hs.out⟩
  case round =>
    obtain ⟨j, l, b, L, A', c', hj, hl, rfl, rfl, rfl, HK, hO, hE, HB⟩ := hrel
    have HO := Lib.hid hO
    clear hO
    by_cases hlt : j < 3
    · obtain ⟨bb, o, rfl, hb, hcell⟩ := (Hr1.out.ext hE).atZ hlt
      have hget : (codecs k)[j]? = some ((codecs k).getD j 0) := by
        have h2 : j < (codecs k).length := by rw [Hcl.out]; exact hlt
        simp only [List.getD, List.getElem?_eq_getElem h2, Option.getD_some]
      obtain ⟨cd, hcd⟩ : ∃ cd, cd = (codecs k).getD j 0 := ⟨_, rfl⟩
      rw [← hcd] at hcell hget
      have hmem := List.mem_of_getElem? hget
      have Hp := Lib.hid (HP.out cd hmem wr (he1.trans hE))
      have hlen := HL.out cd
      have hB2 := HB.out
      rw [Ha.out j cd hget] at hB2
      obtain ⟨P, hP⟩ : ∃ P, P = putR k cd xs := ⟨_, rfl⟩
      rw [← hP] at Hp hlen hB2
      obtain ⟨P1, P2⟩ := P
      simp only at hlen hB2
      obtain ⟨p, hp⟩ : ∃ p, p = P1.length := ⟨_, rfl⟩
      rw [← hp] at hlen hB2
      rw [HK.out] at hB2
      have Hpp := Lib.hid hp
      have HB2 := Lib.hid hB2
      have hcd1 := (codecs_mem hmem).1
      clear hcd hmem hP hp hB2 hget HB
      by_cases hz : P2 = 0
      · subst hz
        have hB3 := HB2.out
        rw [if_neg (fun h => h rfl)] at hB3
        by_cases hb0 : b = 0
        · subst hb0
          rw [if_pos (.inl rfl)] at hB3
          have HB3 := Lib.hid hB3
          clear hB3
          go_wp2_with fail
          refine Hp.out.mono ?_
          rintro e w2 ⟨A2, c2, rfl, ho2, he2⟩
          simp only [← Hpp.out]
          have hE2 := (he1.trans hE).size
          go_wp2_with fail
          go_roundw
          case rel => exact ⟨j + 1, p, cd, P1, A2, c2, hlt, hlen, by go_num, rfl, rfl, Lib.hid Hpp.out.symm, ho2.mono hE2, hE.trans he2, HB3⟩
          case measure => simp [intOf]; omega
        · have hbb : (b == 0) = false := beq_eq_false_iff_ne.2 hb0
          by_cases hlt2 : p < l
          · rw [if_pos (.inr hlt2)] at hB3
            have HB3 := Lib.hid hB3
            clear hB3 hb0
            have hI : (p : Int) < (l : Int) := by omega
            go_wp2_with fail
            refine Hp.out.mono ?_
            rintro e w2 ⟨A2, c2, rfl, ho2, he2⟩
            simp only [← Hpp.out]
            have hE2 := (he1.trans hE).size
            go_wp2_with fail
            go_roundw
            case rel => exact ⟨j + 1, p, cd, P1, A2, c2, hlt, hlen, by go_num, rfl, rfl, Lib.hid Hpp.out.symm, ho2.mono hE2, hE.trans he2, HB3⟩
            case measure => simp [intOf]; omega
          · rw [if_neg (fun h => h.elim hb0 hlt2)] at hB3
            have HB3 := Lib.hid hB3
            clear hB3 hb0
            have hI : ¬ (p : Int) < (l : Int) := by omega
            go_wp2_with fail
            refine Hp.out.mono ?_
            rintro e w2 ⟨A2, c2, rfl, ho2, he2⟩
            simp only [← Hpp.out]
            go_wp2_with fail
            go_roundw
            case rel => exact ⟨j + 1, l, b, L, A', c', hlt, hl, by go_num, rfl, rfl, HK, HO.out.ext he2, hE.trans he2, HB3⟩
            case measure => simp [intOf]; omega
      · have hzb : (P2 == 0) = false := beq_eq_false_iff_ne.2 hz
        have HR2 := Lib.hid (HB2.out.symm.trans (if_pos hz))
        clear hz
        go_wp2_with fail
        refine Hp.out.mono ?_
        rintro e w2 ⟨A2, c2, rfl, ho2, he2⟩
        simp only [← Hpp.out]
        go_wp2_with fail
        go_ret3
        rw [HR2.out]
        exact ⟨none, 0, rfl, Own.nil .., (he1.trans hE).trans he2⟩
    · obtain rfl : j = 3 := by omega
      have HR2 : Hid (R = ((b, L), 0)) := Lib.hid (by
        have := HB.out
        rw [List.drop_eq_nil_of_le (by rw [Hcl.out]; decide)] at this
        exact this.symm)
      clear HB
      go_wp2
      go_ret3
      rw [HR2.out]
      exact ⟨A', c', by rw [← HK.out]; rfl, HO.out, he1.trans hE⟩
theorem encL_u8b (rs : List (Int × Int)) : U8 (encL rs) := by
  induction rs with
  | nil => intro v hv; cases hv
  | cons r rs ih =>
    rw [encL_cons]
    intro v hv
    rcases List.mem_append.1 hv with h | h
    · exact vput_u8 _ v h
    · rcases List.mem_append.1 h with h | h
      · exact vput_u8 _ v h
      · exact ih v h
theorem e8_u8b (vs : List Int) : U8 (encode8 vs).1 := by
  unfold encode8
  split
  · intro v hv; cases hv
  · intro v hv
    rcases List.mem_append.1 hv with h | h
    · exact vput_u8 _ v h
    · exact encL_u8b _ v h
theorem e9_u8b (vs : List Int) (h : R64s vs) : U8 (encode9 vs).1 := by
  unfold encode9
  split
  · intro v hv; cases hv
  · show U8 (encP vs)
    unfold encP
    split
    · exact vput_u8 _
    · rename_i hn
      have := wid_le h (by omega)
      intro v hv
      rcases List.mem_append.1 hv with h1 | h1
      · exact vput_u8 _ v h1
      · rcases List.mem_append.1 h1 with h1 | h1
        · exact vput_u8 _ v h1
        · rcases List.mem_append.1 h1 with h1 | h1
          · simp at h1; omega
          · exact packB_u8 _ _ v h1
theorem ed_u8b {ss : List (List Nat)} (h : ∀ s ∈ ss, U8 s) : U8 (dencR ss).1 := by
  unfold dencR
  split
  · intro v hv; cases hv
  · exact denc_u8 h
theorem ep_u8b {ss : List (List Nat)} (h : ∀ s ∈ ss, U8 s) : U8 (pencR ss).1 := by
  unfold pencR
  split
  · intro v hv; cases hv
  · exact penc_u8 h
theorem plainL_u8 (k : Int) (xs : List Ci) (h : ∀ x ∈ xs, U8 x.txt) : U8 (plainL k xs) := by
  intro v hv
  unfold plainL at hv
  obtain ⟨l, hl, hv⟩ := List.mem_flatten.1 hv
  obtain ⟨x, hx, rfl⟩ := List.mem_map.1 hl
  exact plain1_u8 (h x hx) v hv
theorem valR_u8 (k cd : Int) {xs : List Ci} (h : R64s (xs.map Ci.num)) (h2 : ∀ x ∈ xs, U8 x.txt) : U8 (valR k cd xs).1 := by
  have h3 : ∀ s ∈ xs.map Ci.txt, U8 s := fun s hs => by
    obtain ⟨x, hx, rfl⟩ := List.mem_map.1 hs
    exact h2 x hx
  unfold valR
  split
  · exact e8_u8b _
  · split
    · exact e9_u8b _ h
    · split
      · exact ed_u8b h3
      · split
        · exact ep_u8b h3
        · exact plainL_u8 k xs h2
theorem nullsL_u8 (xs : List Ci) : U8 (nullsL xs) := by
  unfold nullsL
  split
  · intro v hv
    rcases List.mem_cons.1 hv with h | h
    · omega
    · exact packB_u8 _ _ v h
  · intro v hv
    simp at hv; omega
theorem putR_u8 (k cd : Int) (hcd : 1 ≤ cd ∧ cd ≤ 5) {xs : List Ci} (h : R64s (xs.map Ci.num)) (h2 : ∀ x ∈ xs, U8 x.txt) : U8 (putR k cd xs).1 := by
  unfold putR
  split
  · intro v hv; cases hv
  · refine u8_append ?_ (u8_append (vput_u8 _) (u8_append (nullsL_u8 xs) (valR_u8 k cd ?_ (fun x hx => h2 x (nn_mem hx)))))
    · intro v hv
      simp at hv; omega
    · intro v hv
      obtain ⟨x, hx, rfl⟩ := List.mem_map.1 hv
      exact h _ (List.mem_map.2 ⟨x, nn_mem hx, rfl⟩)
theorem bestF_u8 (k : Int) {xs : List Ci} (h : R64s (xs.map Ci.num)) (h2 : ∀ x ∈ xs, U8 x.txt) : ∀ (L : List Int) (s : Int × List Nat), (∀ cd ∈ L, 1 ≤ cd ∧ cd ≤ 5) → U8 s.2 → U8 (bestF k xs L s).1.2
  | [], s, _, hs => hs
  | cd :: cs, s, hL, hs => by
    have h3 := putR_u8 k cd (hL cd (List.mem_cons_self ..)) h h2
    unfold bestF
    split
    · intro v hv; cases hv
    · refine bestF_u8 k h h2 cs _ (fun c hc => hL c (List.mem_cons_of_mem _ hc)) ?_
      split
      · exact h3
      · exact hs
theorem bestF_len (k : Int) {xs : List Ci} (h : R64s (xs.map Ci.num)) (h2 : ∀ x ∈ xs, x.txt.length ≤ 200) (hn : xs.length ≤ 4096) : ∀ (L : List Int) (s : Int × List Nat), s.2.length ≤ 1000700 → (bestF k xs L s).1.2.length ≤ 1000700
  | [], s, hs => hs
  | cd :: cs, s, hs => by
    have h3 := putR_len (k := k) (cd := cd) h h2 hn
    unfold bestF
    split
    · simp
    · refine bestF_len k h h2 hn cs _ ?_
      split
      · exact h3
      · exact hs
theorem chk_short {k : Int} {nul : Bool} {num : Int} {txt : List Nat} (h : chk k true nul num txt = 0) : txt.length ≤ 200 := by
  unfold chk at h
  split at h
  · omega
  · split at h
    · rw [if_pos rfl] at h
      split at h
      · omega
      · omega
    · split at h
      · split at h
        · omega
        · omega
      · split at h
        · omega
        · split at h
          · omega
          · omega
theorem chkA_all {k : Int} : ∀ {xs : List Ci}, chkA k xs = 0 → ∀ x ∈ xs, chk k true x.nul x.num x.txt = 0
  | [], _, _, h => by cases h
  | y :: ys, h, x, hx => by
    unfold chkA at h
    by_cases hy : chk k true y.nul y.num y.txt = 0
    · rw [if_neg (fun q => q hy)] at h
      rcases List.mem_cons.1 hx with rfl | hx
      · exact hy
      · exact chkA_all h x hx
    · rw [if_pos hy] at h; exact absurd h hy
theorem chkB_good {k : Int} {xs : List Ci} (h : chkB k xs = 0) : xs.length ≤ 4096 ∧ (∀ x ∈ xs, chk k true x.nul x.num x.txt = 0) ∧ ∀ x ∈ xs, x.txt.length ≤ 200 := by
  unfold chkB at h
  split at h
  · omega
  · have h2 := chkA_all h
    exact ⟨by omega, h2, fun x hx => chk_short (h2 x hx)⟩
def bencR (k cd : Int) (xs : List Ci) : List Nat × Int :=
  if kindK k = false then ([], 1) else if ¬ cd ∈ codecs k then ([], 120) else if chkB k xs ≠ 0 then ([], chkB k xs) else if (putR k cd xs).2 ≠ 0 then ([], (putR k cd xs).2) else (sealL (putR k cd xs).1, sealE (putR k cd xs).1)
def bbestR (k : Int) (xs : List Ci) : (Int × List Nat) × Int :=
  if kindK k = false then ((0, []), 1) else if chkB k xs ≠ 0 then ((0, []), chkB k xs) else if (bestF k xs (codecs k) (0, [])).2 ≠ 0 then ((0, []), (bestF k xs (codecs k) (0, [])).2)
  else if sealE (bestF k xs (codecs k) (0, [])).1.2 ≠ 0 then ((0, []), sealE (bestF k xs (codecs k) (0, [])).1.2) else (((bestF k xs (codecs k) (0, [])).1.1, sealL (bestF k xs (codecs k) (0, [])).1.2), 0)
end Go.Proofs.YthibbgmicmfkfaaGreat
