import Derived.Test.YthibbgmicmfkfaaGreatGY6
import Derived.Maps.Own
import Derived.Maps.OwnOps
import Derived.Lib.ConvBytes
import Derived.StringKeys
namespace Go.Proofs.YthibbgmicmfkfaaGreat
open Go.RowKit
set_option maxRecDepth 100000
set_option maxHeartbeats 400000 in
theorem place10_any (A : Option Addr) (n c : Nat) (ts : List Sl) (A2 : Option Addr) (n2 c2 : Nat) (t : List Nat) (w : World) (hx : RdL w A n ts) (hn : n ≤ 1000000) (hs : ∀ s ∈ ts, Rd .u8 w s.A s.body.length s.body ∧ s.body.length ≤ 140737488355328) (ha : Asc (bodies ts))
    (hy : Rd .u8 w A2 n2 t) (hn2 : n2 ≤ 140737488355328) :
    Calls Tryz.prog 220 #[.slice A n c, .slice A2 n2 c2] w fun e w' => e = .returned (.int .i64 (skN t (bodies ts))) ∧ ∃ q, w' = w.drewN q := by
  have Hl := Lib.hid hx.1
  have hk := skN_le t (bodies ts)
  rw [bodies_len, Hl.out] at hk
  obtain ⟨k, hkk⟩ : ∃ k, k = skN t (bodies ts) := ⟨_, rfl⟩
  rw [← hkk] at hk ⊢
  have Hk := Lib.hid hkk
  have Ha := Lib.hid ha
  have Hs := Lib.hid hs
  have Hy := Lib.hid hy
  clear hkk ha hs hy
  go_enter Tryz.func220, Tryz.ntmps220
  go_wp2
  go_loopw [5, 6, 7] (fun lo hi _ wr => ∃ a b q : Nat, a ≤ k ∧ k ≤ b ∧ b ≤ n ∧ lo = .int .i64 a ∧ hi = .int .i64 b ∧ wr = w.drewN q) (fun lo hi _ _ => (intOf hi).toNat - (intOf lo).toNat)
  case atStart => exact ⟨0, n, 0, Nat.zero_le _, hk, Nat.le_refl _, rfl, rfl, rfl⟩
  case round =>
    obtain ⟨a, b, q, ha, hb, hbn, rfl, rfl, rfl⟩ := hrel
    by_cases hlt : a < b
    · obtain ⟨m, hm⟩ : ∃ m, m = (a + b) / 2 := ⟨_, rfl⟩
      have hma : a ≤ m := by omega
      have hmb : m < b := by omega
      have hmi : ((a : Int) + (b : Int)) / 2 = (m : Int) := by omega
      have hmt : Int.tdiv ((a : Int) + (b : Int)) 2 = (m : Int) := by rw [Int.tdiv_eq_ediv_of_nonneg (by omega)]; exact hmi
      obtain ⟨bb, o, s, rfl, hf, hc⟩ := hx.at_ (j := m) (by omega)
      have hsb := bodies_at hf
      obtain ⟨hrs, hls⟩ := Hs.out s (List.mem_of_getElem? hf)
      have h1 : m < k → ordT s.body t < 0 := fun h => skN_lt (by rw [← Hk.out]; exact h) hsb
      have h2 : k ≤ m → 0 ≤ ordT s.body t := fun h => skN_ge Ha.out (by rw [← Hk.out]; exact h) hsb
      have HC := Lib.hid (fun (W : World) (hW : Ext w W) => order_any s.A A2 s.body.length s.c n2 c2 s.body t W (hrs.ext hW) (Hy.out.ext hW) hls hn2)
      obtain ⟨sA, sc, body⟩ := s
      simp only at hc h1 h2 HC
      clear hf hsb hrs hls
      obtain ⟨bl, hbl⟩ : ∃ bl, bl = body.length := ⟨_, rfl⟩
      rw [← hbl] at hc HC
      clear hbl
      obtain ⟨r, hr⟩ : ∃ r, r = ordT body t := ⟨_, rfl⟩
      rw [← hr] at HC h1 h2
      clear hr hm
      by_cases hneg : r < 0
      · have d : decide (r < 0) = true := decide_eq_true hneg
        have hmk : m < k := by
          rcases Nat.lt_or_ge m k with h | h
          · exact h
          · have := h2 h; omega
        clear h1 h2
        go_wp2_with fail
        refine (HC.out _ (Ext.of_drewN _ q)).mono ?_
        rintro e w2 ⟨rfl, q2, rfl⟩
        go_wp2_with fail
        go_roundw
        case rel => exact ⟨m + 1, b, _, by omega, hb, hbn, by go_num, rfl, by first | rfl | exact World.drewN_drewN .. | fail⟩
        case measure => simp [intOf]; omega
      · have d : decide (r < 0) = false := decide_eq_false hneg
        have hmk : k ≤ m := by
          rcases Nat.lt_or_ge m k with h | h
          · exact absurd (h1 h) hneg
          · exact h
        clear h1 h2
        go_wp2_with fail
        refine (HC.out _ (Ext.of_drewN _ q)).mono ?_
        rintro e w2 ⟨rfl, q2, rfl⟩
        go_wp2_with fail
        go_roundw
        case rel => exact ⟨a, m, _, ha, hmk, by omega, rfl, rfl, by first | rfl | exact World.drewN_drewN .. | fail⟩
        case measure => simp [intOf]; omega
    · obtain rfl : a = k := by omega
      obtain rfl : b = a := by omega
      go_wp2
      go_ret
      exact ⟨rfl, q, rfl⟩
structure Ents (w : World) (base : Nat) (A : Option Addr) (n : Nat) (us : List Sl) : Prop where
  rd : RdL w A n us
  own : ∀ s ∈ us, Own .u8 5 w base s.A s.c s.body
  row : ∀ q, A = some q → base ≤ q.block
theorem Ents.ext {w w' : World} {base n : Nat} {A : Option Addr} {us : List Sl} (h : Ents w base A n us) (he : Ext w w') : Ents w' base A n us := ⟨h.rd.ext he, fun s hs => (h.own s hs).ext he, h.row⟩
set_option maxHeartbeats 1600000 in
theorem with_any (A : Option Addr) (n c base : Nat) (ts : List Sl) (A2 : Option Addr) (n2 c2 : Nat) (t : List Nat) (w : World) (hx : Ents w base A n ts) (hb : base ≤ w.heap.size) (hn : n ≤ 4096) (hs : ∀ x ∈ bodies ts, x.length ≤ 200) (ha : Asc (bodies ts))
    (hy : Rd .u8 w A2 n2 t) (hn2 : n2 ≤ 200) :
    Calls Tryz.prog 219 #[.slice A n c, .slice A2 n2 c2] w fun e w' => ∃ A' c' us, e = .returned (.slice A' us.length c') ∧ bodies us = insL (bodies ts) t ∧ Ents w' base A' us.length us ∧ Ext w w' := by
  have Hl := Lib.hid hx.rd.1
  have hk := skN_le t (bodies ts)
  rw [bodies_len, Hl.out] at hk
  have hsr : ∀ s ∈ ts, Rd .u8 w s.A s.body.length s.body ∧ s.body.length ≤ 140737488355328 := fun s hm => ⟨(hx.own s hm).rd, by have := hs s.body (List.mem_map.2 ⟨s, hm, rfl⟩); omega⟩
  have HPl := Lib.hid (place10_any A n c ts A2 n2 c2 t w hx.rd (by omega) hsr ha hy (by omega))
  obtain ⟨k, hkk⟩ : ∃ k, k = skN t (bodies ts) := ⟨_, rfl⟩
  have hyes : (bodies ts)[k]? = some t → insL (bodies ts) t = bodies ts := fun h => insL_yes (by rw [← hkk]; exact h)
  have hno : ¬ (bodies ts)[k]? = some t → insL (bodies ts) t = (bodies ts).take k ++ t :: (bodies ts).drop k := fun h => by rw [insL_no (by rw [← hkk]; exact h), ← hkk]
  rw [← hkk] at hk HPl
  obtain ⟨R, hR⟩ : ∃ R, R = insL (bodies ts) t := ⟨_, rfl⟩
  rw [← hR] at hyes hno ⊢
  have Hsr := Lib.hid hsr
  have Hy := Lib.hid hy
  have Hx := Lib.hid hx
  clear hkk hs ha hsr hR hx hy
  by_cases hlt : k < n
  · obtain ⟨b, o, s, rfl, hf, hc⟩ := Hx.out.rd.at_ hlt
    have hsb := bodies_at hf
    obtain ⟨hrs, hls⟩ := Hsr.out s (List.mem_of_getElem? hf)
    have HC := Lib.hid (fun (W : World) (hW : Ext w W) => same_any s.A A2 s.body.length s.c n2 c2 s.body t W (hrs.ext hW) (Hy.out.ext hW) (by omega) (by omega))
    obtain ⟨sA, sc, body⟩ := s
    simp only at hc hls HC hsb
    obtain ⟨bl, hbl⟩ : ∃ bl, bl = body.length := ⟨_, rfl⟩
    rw [← hbl] at hc HC
    clear hbl hls hrs
    by_cases heq : body = t
    · have hbs := hyes (by rw [hsb, heq])
      have hd : decide (body = t) = true := decide_eq_true heq
      rw [hd] at HC
      have Hbs := Lib.hid hbs
      clear hyes hno hbs hd heq hsb hf
      go_enter Tryz.func219, Tryz.ntmps219
      go_wp2_with fail
      refine HPl.out.mono ?_
      rintro e w1 ⟨rfl, q1, rfl⟩
      go_wp2_with fail
      refine (HC.out _ (Ext.of_drewN _ _)).mono ?_
      rintro e w2 ⟨rfl, q2, rfl⟩
      go_wp2_with fail
      go_ret
      exact ⟨some ⟨b, o, none⟩, c, ts, by rw [Hl.out]; rfl, Hbs.out.symm, by rw [Hl.out]; exact Hx.out.ext (Ext.of_drewN _ _), Ext.of_drewN _ _⟩
    · have hbs := hno (by rw [hsb]; intro h; injection h with h; exact heq h)
      have hd : decide (body = t) = false := decide_eq_false heq
      rw [hd] at HC
      have Hbs := Lib.hid hbs
      clear hyes hno hbs hd heq hsb hf
      go_enter Tryz.func219, Tryz.ntmps219
      go_wp2_with fail
      refine HPl.out.mono ?_
      rintro e w1 ⟨rfl, q1, rfl⟩
      go_wp2_with fail
      refine (HC.out _ (Ext.of_drewN _ _)).mono ?_
      rintro e w2 ⟨rfl, q2, rfl⟩
      have hE0 : Ext w ((w.drewN q1).drewN q2) := (Ext.of_drewN _ _).drewN _
      obtain ⟨W0, hW0⟩ : ∃ W0, W0 = (w.drewN q1).drewN q2 := ⟨_, rfl⟩
      rw [← hW0] at hE0 ⊢
      have Hy2 := Lib.hid (Hy.out.ext hE0)
      have Hx2 := Lib.hid (Hx.out.ext hE0)
      have hbW : base ≤ W0.heap.size := Nat.le_trans hb hE0.size
      clear hW0 HC
      go_wp2_with fail
      go_loopw [6, 7] (fun v i wr => ∃ (j : Nat) (A' : Option Addr) (c' : Nat), j ≤ k ∧ i = .int .i64 j ∧ v = .slice A' j c' ∧ Hid (OwnT wr W0.heap.size A' c' (ts.take j)) ∧ Hid (Ext W0 wr)) (fun _ i _ => k - (intOf i).toNat)
      case atStart => exact ⟨0, _, _, Nat.zero_le _, rfl, rfl, OwnG.made _ _ _ (Nat.le_refl _), (Ext.refl _).alloc _⟩
      case round =>
        obtain ⟨j, A', c', hj, rfl, rfl, HO, HE⟩ := hrel
        by_cases hjk : j < k
        · obtain ⟨b2, o2, s2, e2, hf2, hc2⟩ := (Hx2.out.rd.ext HE.out).at_ (j := j) (by omega)
          injection e2 with e2; injection e2 with e2a e2b; subst e2a e2b
          have htl : (ts.take j).length = j := by rw [List.length_take, Hl.out]; omega
          have hnx := take_nextG ts j hf2
          obtain ⟨sA2, sc2, body2⟩ := s2
          simp only at hc2 hnx
          have Htl := Lib.hid htl
          have Hnx := Lib.hid hnx
          obtain ⟨bl2, hbl2⟩ : ∃ bl2, bl2 = body2.length := ⟨_, rfl⟩
          rw [← hbl2] at hc2
          have Hbl2 := Lib.hid hbl2
          clear hf2 htl hnx hbl2
          go_wp2_with (at_builtin; refine wpList_pushT (w0 := W0) ⟨sA2, sc2, body2⟩ rfl _ _ rfl (HO.out.ext ((Ext.refl _).alloc _)) j Htl.out rfl rfl ((heap_alloc_new _ _).trans (by rw [Hbl2.out])) (by omega) (Ext.trans HE.out ((Ext.refl _).alloc _)) (by have := HE.out.size; simp; omega) ?_; intro A4 c4 w4 hown4 _ hb4 _)
          rw [← Hnx.out] at hown4
          have Hown4 := Lib.hid hown4
          have Hb4 := Lib.hid hb4
          clear hown4 hb4
          go_wp2_with fail
          go_roundw
          case rel => exact ⟨j + 1, A4, c4, by omega, by go_num, rfl, Hown4.out, Hb4.out⟩
          case measure => simp [intOf]; omega
        · obtain rfl : j = k := by omega
          go_wp2_with fail
          refine (copy_any _ _ _ _ _ (Hy2.out.ext HE.out) (by omega)).mono ?_
          rintro e w5 ⟨A5, c5, rfl, hown5, he5⟩
          have htl : (ts.take j).length = j := by rw [List.length_take, Hl.out]; omega
          have hyl := Hy.out.len
          have Htl := Lib.hid htl
          have Hyl := Lib.hid hyl
          clear htl hyl
          go_wp2_with (at_builtin; refine wpList_pushT (w0 := W0) ⟨A5, c5, t⟩ rfl _ _ rfl ((HO.out.ext he5).ext ((Ext.refl _).alloc _)) j Htl.out rfl rfl ((heap_alloc_new _ _).trans (by rw [Hyl.out])) (by omega) (Ext.trans (HE.out.trans he5) ((Ext.refl _).alloc _)) (by have := (HE.out.trans he5).size; simp; omega) ?_; intro A6 c6 w6 hown6 hg6 hb6 _)
          have hcop : Own .u8 5 w6 W0.heap.size A5 c5 t := (((hown5.mono HE.out.size).ext ((Ext.refl _).alloc _)).grown hg6 (by
            have := own_neT ((HO.out.ext he5).ext ((Ext.refl w5).alloc (.cells #[.slice A5 n2 c5] 22))) (hown5.ext ((Ext.refl w5).alloc (.cells #[.slice A5 n2 c5] 22)))
            rw [Htl.out] at this
            exact this))
          have Hown6 := Lib.hid hown6
          have Hcop := Lib.hid hcop
          have Hb6 := Lib.hid hb6
          have h60 : OwnT w6 W0.heap.size A6 c6 (ts.take j ++ (⟨A5, c5, t⟩ : Sl) :: (ts.drop j).take 0) := hown6
          have H60 := Lib.hid h60
          clear hown5 hown6 hcop hb6 hg6 h60
          go_wp2_with fail
          go_loopw [6, 8] (fun v i wr => ∃ (q : Nat) (A' : Option Addr) (c' : Nat), j ≤ q ∧ q ≤ n ∧ i = .int .i64 q ∧ v = .slice A' (q + 1 : Nat) c' ∧ Hid (OwnT wr W0.heap.size A' c' (ts.take j ++ (⟨A5, c5, t⟩ : Sl) :: (ts.drop j).take (q - j))) ∧ Hid (Own .u8 5 wr W0.heap.size A5 c5 t) ∧ Hid (Ext W0 wr)) (fun _ i _ => n - (intOf i).toNat)
          case atStart => exact ⟨j, A6, c6, Nat.le_refl _, by omega, rfl, rfl, by rw [Nat.sub_self]; exact H60.out, Hcop.out, Hb6.out⟩
          case round =>
            clear H60 Hown6 Hcop Hb6 HO HE
            obtain ⟨q, A', c', hjq, hqn, rfl, rfl, HO, HC2, HE⟩ := hrel
            by_cases hqn2 : q < n
            · obtain ⟨b2, o2, s2, e2, hf2, hc2⟩ := (Hx2.out.rd.ext HE.out).at_ (j := q) (by omega)
              injection e2 with e2; injection e2 with e2a e2b; subst e2a e2b
              have htl : (ts.take j ++ (⟨A5, c5, t⟩ : Sl) :: (ts.drop j).take (q - j)).length = q + 1 := by rw [List.length_append, List.length_cons, List.length_take, List.length_take, List.length_drop, Hl.out]; omega
              have hnx : ts.take j ++ (⟨A5, c5, t⟩ : Sl) :: (ts.drop j).take (q + 1 - j) = (ts.take j ++ (⟨A5, c5, t⟩ : Sl) :: (ts.drop j).take (q - j)) ++ [s2] := by
                rw [show q + 1 - j = (q - j) + 1 by omega, take_nextG (ts.drop j) (q - j) (x := s2) (by rw [List.getElem?_drop, ← hf2]; congr 1; omega)]
                simp
              obtain ⟨sA2, sc2, body2⟩ := s2
              simp only at hc2 hnx
              have Htl2 := Lib.hid htl
              have Hnx := Lib.hid hnx
              obtain ⟨bl2, hbl2⟩ : ∃ bl2, bl2 = body2.length := ⟨_, rfl⟩
              rw [← hbl2] at hc2
              have Hbl2 := Lib.hid hbl2
              clear hf2 htl hnx hbl2
              go_wp2_with (at_builtin; refine wpList_pushT (w0 := W0) ⟨sA2, sc2, body2⟩ rfl _ _ rfl (HO.out.ext ((Ext.refl _).alloc _)) (q + 1) Htl2.out rfl rfl ((heap_alloc_new _ _).trans (by rw [Hbl2.out])) (by omega) (Ext.trans HE.out ((Ext.refl _).alloc _)) (by have := HE.out.size; simp; omega) ?_; intro A4 c4 w4 hown4 hg4 hb4 _)
              rw [← Hnx.out] at hown4
              have hcop : Own .u8 5 w4 W0.heap.size A5 c5 t := (HC2.out.ext ((Ext.refl _).alloc _)).grown hg4 (by
                have := own_neT (HO.out.ext ((Ext.refl wr).alloc (.cells #[.slice sA2 bl2 sc2] 22))) (HC2.out.ext ((Ext.refl wr).alloc (.cells #[.slice sA2 bl2 sc2] 22)))
                rw [Htl2.out] at this
                exact this)
              have Hown4 := Lib.hid hown4
              have Hcop := Lib.hid hcop
              have Hb4 := Lib.hid hb4
              clear hown4 hb4 hg4 hcop
              go_wp2_with fail
              go_roundw
              case rel => exact ⟨q + 1, A4, c4, by omega, by omega, by go_num, by go_num, Hown4.out, Hcop.out, Hb4.out⟩
              case measure => simp [intOf]; omega
            · obtain rfl : n = q := by omega
              have hO := HO.out
              rw [List.take_of_length_le (show (ts.drop j).length ≤ n - j by rw [List.length_drop, Hl.out]; exact Nat.le_refl _)] at hO
              have hlen : (ts.take j ++ (⟨A5, c5, t⟩ : Sl) :: ts.drop j).length = n + 1 := by rw [List.length_append, List.length_cons, List.length_take, List.length_drop, Hl.out]; omega
              have HOf := Lib.hid hO
              have Hlen := Lib.hid hlen
              clear hO hlen
              go_wp2_with fail
              go_ret
              refine ⟨A', c', ts.take j ++ (⟨A5, c5, t⟩ : Sl) :: ts.drop j, by rw [Hlen.out]; rfl, ?_, ⟨HOf.out.rdL, ?_, fun z hz => Nat.le_trans hbW (HOf.out.block z hz).1⟩, hE0.trans HE.out⟩
              · rw [Hbs.out]
                unfold bodies
                rw [List.map_append, List.map_cons, List.map_take, List.map_drop]
              · intro z hz
                rcases List.mem_append.1 hz with h | h
                · exact (Hx2.out.own z (List.mem_of_mem_take h)).ext HE.out
                · rcases List.mem_cons.1 h with rfl | h
                  · exact HC2.out.mono hbW
                  · exact (Hx2.out.own z (List.mem_of_mem_drop h)).ext HE.out
  · obtain rfl : k = n := by omega
    have hbs := hno (by rw [List.getElem?_eq_none (by rw [bodies_len, Hl.out]; exact Nat.le_refl _)]; intro h; cases h)
    have Hbs := Lib.hid hbs
    clear hyes hno hbs
    go_enter Tryz.func219, Tryz.ntmps219
    go_wp2_with fail
    refine HPl.out.mono ?_
    rintro e w1 ⟨rfl, q1, rfl⟩
    have hE0 : Ext w (w.drewN q1) := Ext.of_drewN _ _
    obtain ⟨W0, hW0⟩ : ∃ W0, W0 = w.drewN q1 := ⟨_, rfl⟩
    rw [← hW0] at hE0 ⊢
    have Hy2 := Lib.hid (Hy.out.ext hE0)
    have Hx2 := Lib.hid (Hx.out.ext hE0)
    have hbW : base ≤ W0.heap.size := Nat.le_trans hb hE0.size
    clear hW0
    go_wp2_with fail
    go_loopw [6, 7] (fun v i wr => ∃ (j : Nat) (A' : Option Addr) (c' : Nat), j ≤ k ∧ i = .int .i64 j ∧ v = .slice A' j c' ∧ Hid (OwnT wr W0.heap.size A' c' (ts.take j)) ∧ Hid (Ext W0 wr)) (fun _ i _ => k - (intOf i).toNat)
    case atStart => exact ⟨0, _, _, Nat.zero_le _, rfl, rfl, OwnG.made _ _ _ (Nat.le_refl _), (Ext.refl _).alloc _⟩
    case round =>
      obtain ⟨j, A', c', hj, rfl, rfl, HO, HE⟩ := hrel
      by_cases hjk : j < k
      · obtain ⟨b2, o2, s2, e2, hf2, hc2⟩ := (Hx2.out.rd.ext HE.out).at_ (j := j) (by omega)
        subst e2
        have htl : (ts.take j).length = j := by rw [List.length_take, Hl.out]; omega
        have hnx := take_nextG ts j hf2
        obtain ⟨sA2, sc2, body2⟩ := s2
        simp only at hc2 hnx
        have Htl := Lib.hid htl
        have Hnx := Lib.hid hnx
        obtain ⟨bl2, hbl2⟩ : ∃ bl2, bl2 = body2.length := ⟨_, rfl⟩
        rw [← hbl2] at hc2
        have Hbl2 := Lib.hid hbl2
        clear hf2 htl hnx hbl2
        go_wp2_with (at_builtin; refine wpList_pushT (w0 := W0) ⟨sA2, sc2, body2⟩ rfl _ _ rfl (HO.out.ext ((Ext.refl _).alloc _)) j Htl.out rfl rfl ((heap_alloc_new _ _).trans (by rw [Hbl2.out])) (by omega) (Ext.trans HE.out ((Ext.refl _).alloc _)) (by have := HE.out.size; simp; omega) ?_; intro A4 c4 w4 hown4 _ hb4 _)
        rw [← Hnx.out] at hown4
        have Hown4 := Lib.hid hown4
        have Hb4 := Lib.hid hb4
        clear hown4 hb4
        go_wp2_with fail
        go_roundw
        case rel => exact ⟨j + 1, A4, c4, by omega, by go_num, rfl, Hown4.out, Hb4.out⟩
        case measure => simp [intOf]; omega
      · obtain rfl : k = j := by omega
        go_wp2_with fail
        refine (copy_any _ _ _ _ _ (Hy2.out.ext HE.out) (by omega)).mono ?_
        rintro e w5 ⟨A5, c5, rfl, hown5, he5⟩
        have htl : (ts.take k).length = k := by rw [List.length_take, Hl.out]; omega
        have hyl := Hy.out.len
        have Htl := Lib.hid htl
        have Hyl := Lib.hid hyl
        clear htl hyl
        go_wp2_with (at_builtin; refine wpList_pushT (w0 := W0) ⟨A5, c5, t⟩ rfl _ _ rfl ((HO.out.ext he5).ext ((Ext.refl _).alloc _)) k Htl.out rfl rfl ((heap_alloc_new _ _).trans (by rw [Hyl.out])) (by omega) (Ext.trans (HE.out.trans he5) ((Ext.refl _).alloc _)) (by have := (HE.out.trans he5).size; simp; omega) ?_; intro A6 c6 w6 hown6 hg6 hb6 _)
        have hcop : Own .u8 5 w6 W0.heap.size A5 c5 t := (((hown5.mono HE.out.size).ext ((Ext.refl _).alloc _)).grown hg6 (by
          have := own_neT ((HO.out.ext he5).ext ((Ext.refl w5).alloc (.cells #[.slice A5 n2 c5] 22))) (hown5.ext ((Ext.refl w5).alloc (.cells #[.slice A5 n2 c5] 22)))
          rw [Htl.out] at this
          exact this))
        have Hown6 := Lib.hid hown6
        have Hcop := Lib.hid hcop
        have Hb6 := Lib.hid hb6
        have h60 : OwnT w6 W0.heap.size A6 c6 (ts.take k ++ (⟨A5, c5, t⟩ : Sl) :: (ts.drop k).take 0) := hown6
        have H60 := Lib.hid h60
        clear hown5 hown6 hcop hb6 hg6 h60
        go_wp2_with fail
        go_loopw [6, 8] (fun v i wr => ∃ (q : Nat) (A' : Option Addr) (c' : Nat), k ≤ q ∧ q ≤ k ∧ i = .int .i64 q ∧ v = .slice A' (q + 1 : Nat) c' ∧ Hid (OwnT wr W0.heap.size A' c' (ts.take k ++ (⟨A5, c5, t⟩ : Sl) :: (ts.drop k).take (q - k))) ∧ Hid (Own .u8 5 wr W0.heap.size A5 c5 t) ∧ Hid (Ext W0 wr)) (fun _ i _ => k - (intOf i).toNat)
        case atStart => exact ⟨k, A6, c6, Nat.le_refl _, by omega, rfl, rfl, by rw [Nat.sub_self]; exact H60.out, Hcop.out, Hb6.out⟩
        case round =>
          clear H60 Hown6 Hcop Hb6 HO HE
          obtain ⟨q, A', c', hjq, hqn, rfl, rfl, HO, HC2, HE⟩ := hrel
          by_cases hqn2 : q < k
          · exact absurd hqn2 (by omega)
          · obtain rfl : k = q := by omega
            have hO := HO.out
            rw [List.take_of_length_le (show (ts.drop k).length ≤ k - k by rw [List.length_drop, Hl.out]; exact Nat.le_refl _)] at hO
            have hlen : (ts.take k ++ (⟨A5, c5, t⟩ : Sl) :: ts.drop k).length = k + 1 := by rw [List.length_append, List.length_cons, List.length_take, List.length_drop, Hl.out]; omega
            have HOf := Lib.hid hO
            have Hlen := Lib.hid hlen
            clear hO hlen
            go_wp2_with fail
            go_ret
            refine ⟨A', c', ts.take k ++ (⟨A5, c5, t⟩ : Sl) :: ts.drop k, by rw [Hlen.out]; rfl, ?_, ⟨HOf.out.rdL, ?_, fun z hz => Nat.le_trans hbW (HOf.out.block z hz).1⟩, hE0.trans HE.out⟩
            · rw [Hbs.out]
              unfold bodies
              rw [List.map_append, List.map_cons, List.map_take, List.map_drop]
            · intro z hz
              rcases List.mem_append.1 hz with h | h
              · exact (Hx2.out.own z (List.mem_of_mem_take h)).ext HE.out
              · rcases List.mem_cons.1 h with rfl | h
                · exact HC2.out.mono hbW
                · exact (Hx2.out.own z (List.mem_of_mem_drop h)).ext HE.out
theorem Tryz.infoInt : (Tryz.prog.info? 3).map (fun i => (i.zero, i.size, i.bytes)) = some (some (.int .i64 0), 1, 8) := by kernel_rfl
def zs (ns : List Nat) : List Int := ns.map fun x : Nat => (x : Int)
theorem zs_len (ns : List Nat) : (zs ns).length = ns.length := List.length_map ..
theorem zs_snoc (ns : List Nat) (x : Nat) : zs (ns ++ [x]) = zs ns ++ [(x : Int)] := by simp [zs]
def RIdxPost (R : List (List Nat) × List Nat × Int) (w : World) (e : Ending) (w' : World) : Prop :=
  ∃ A' c' us B cB, e = .returned (.tuple #[.slice A' us.length c', .slice B R.2.1.length cB, .int .i64 R.2.2]) ∧ bodies us = R.1 ∧ Ents w' w.heap.size A' us.length us ∧ OwnG shZ 3 w' w.heap.size B cB (zs R.2.1) ∧ Ext w w'
theorem RIdxPost.bad {w w' : World} (R : List (List Nat) × List Nat × Int) {E : Int} (h : R = ([], [], E)) (he : Ext w w') : RIdxPost R w (.returned (.tuple #[.slice none 0 0, .slice none 0 0, .int .i64 E])) w' := by
  subst h
  exact ⟨none, 0, [], none, 0, rfl, rfl, ⟨⟨rfl, fun q => absurd q (by simp)⟩, (by intro s hs; cases hs), (by intro q hq; cases hq)⟩, OwnG.nil .., he⟩
theorem RIdxPost.good {w w' : World} (R : List (List Nat) × List Nat × Int) {us : List Sl} {ns : List Nat} {A B : Option Addr} {m c n cB : Nat} (h : R = (bodies us, ns, 0)) (hm : us.length = m) (hn : ns.length = n) (ho : Ents w' w.heap.size A m us) (hB : OwnG shZ 3 w' w.heap.size B cB (zs ns)) (he : Ext w w') :
    RIdxPost R w (.returned (.tuple #[.slice A m c, .slice B n cB, .int .i64 0])) w' := by
  subst h hm hn
  exact ⟨A, c, us, B, cB, rfl, rfl, ho, hB, he⟩
set_option maxHeartbeats 1600000 in
theorem refIndex_any (A : Option Addr) (n c : Nat) (ss : List Sl) (w : World) (hx : TxL w A n ss) (hn : n ≤ 140737488355328) :
    Calls Tryz.prog 212 #[.slice A n c] w (RIdxPost (idxR (bodies ss)) w) := by
  have Hl := Lib.hid hx.len
  have hbl : (bodies ss).length = n := by rw [bodies_len, Hl.out]
  by_cases hbig : 4096 < n
  · have HR := Lib.hid (idxR_bad (ss := bodies ss) (.inl (by rw [hbl]; exact hbig)))
    clear hbl
    go_enter Tryz.func212, Tryz.ntmps212
    go_wp2_with fail
    go_ret3
    exact RIdxPost.bad _ HR.out (Ext.refl w)
  · have hb4 : n ≤ 4096 := by omega
    have Hbl := Lib.hid hbl
    have Hx := Lib.hid hx
    clear hbl hx
    go_enter Tryz.func212, Tryz.ntmps212
    go_wp2_with fail
    go_loopw [5, 6] (fun v i wr => ∃ (j m : Nat) (A' : Option Addr) (c' : Nat) (us : List Sl), j ≤ n ∧ m ≤ j ∧ i = .int .i64 j ∧ v = .slice A' m c' ∧ Hid (us.length = m) ∧ Hid (bodies us = dents ((bodies ss).take j)) ∧ Hid (Ents wr w.heap.size A' m us) ∧ Hid (Ext w wr) ∧ Hid (anyLong ((bodies ss).take j) = false)) (fun _ i _ => n - (intOf i).toNat)
    case atStart => exact ⟨0, 0, _, _, [], Nat.zero_le _, Nat.le_refl _, rfl, rfl, rfl, rfl, ⟨⟨rfl, fun q => absurd q (by omega)⟩, (by intro s hs; cases hs), (by intro q hq; injection hq with hq; subst hq; exact Nat.le_refl _)⟩, (Ext.refl w).alloc _, rfl⟩
    case round =>
      obtain ⟨j, m, A', c', us, hj, hmj, rfl, rfl, Hul, Hub, HEn, HE, HA⟩ := hrel
      by_cases hlt : j < n
      · obtain ⟨b, o, s, rfl, hf, hc, hs⟩ := (Hx.out.ext HE.out).at_ hlt
        have hbj := bodies_at hf
        have hdst := dents_step hbj
        have htk : (bodies ss).take (j + 1) = (bodies ss).take j ++ [s.body] := by
          obtain ⟨h1, h2⟩ := List.getElem?_eq_some_iff.1 hbj
          rw [List.take_succ_eq_append_getElem h1, h2]
        have hrd := hs.rd
        obtain ⟨sA, sc, body⟩ := s
        simp only at hc hrd hbj hdst htk
        obtain ⟨bl, hbl⟩ : ∃ bl, bl = body.length := ⟨_, rfl⟩
        rw [← hbl] at hc hrd
        by_cases hlong : 200 < bl
        · have HR := Lib.hid (idxR_bad (.inr (anyLong_iff.2 ⟨body, List.mem_of_getElem? hbj, by rw [← hbl]; exact hlong⟩)))
          clear hf hbj hdst htk hrd hs hbl
          go_wp2_with fail
          go_ret3
          exact RIdxPost.bad _ HR.out HE.out
        · have hN := anyLong_snoc HA.out (t := body) (by rw [← hbl]; omega)
          rw [← htk] at hN
          have HN := Lib.hid hN
          have Hd := Lib.hid hdst
          have Hrd := Lib.hid hrd
          have HW := Lib.hid (with_any A' m c' w.heap.size us sA bl sc body wr HEn.out HE.out.size (by omega) (by rw [Hub.out]; exact dents_short HA.out) (by rw [Hub.out]; exact dents_asc _) hrd (by omega))
          clear hf hbj hdst htk hrd hs hbl hN
          go_wp2_with fail
          refine HW.out.mono ?_
          rintro e w1 ⟨A1, c1, vs, rfl, hvb, hve, he1⟩
          have hvl : vs.length ≤ j + 1 := by
            rw [← bodies_len, hvb, Hub.out, ← Hd.out]
            exact dents_len (j + 1) _ (by rw [List.length_take, Hbl.out]; omega)
          have Hvb := Lib.hid (show bodies vs = dents ((bodies ss).take (j + 1)) by rw [hvb, Hub.out, Hd.out])
          obtain ⟨m1, hm1⟩ : ∃ m1, vs.length = m1 := ⟨_, rfl⟩
          rw [hm1] at hve hvl ⊢
          have Hm1 := Lib.hid hm1
          have Hve := Lib.hid hve
          have He1 := Lib.hid (HE.out.trans he1)
          clear hvb hve he1 hm1
          go_wp2_with fail
          go_roundw
          case rel => exact ⟨j + 1, m1, A1, c1, vs, by omega, hvl, by go_num, rfl, Hm1.out, Hvb.out, Hve.out, He1.out, HN.out⟩
          case measure => simp [intOf]; omega
      · obtain rfl : n = j := by omega
        have htk : (bodies ss).take n = bodies ss := List.take_of_length_le (by rw [Hbl.out]; exact Nat.le_refl _)
        have hA := HA.out
        have hub := Hub.out
        rw [htk] at hA hub
        have HR := Lib.hid (idxR_good (by rw [Hbl.out]; exact hb4) hA)
        rw [← hub] at HR
        have hasc : Asc (bodies us) := by rw [hub]; exact dents_asc _
        have hshort : ∀ s ∈ us, s.body.length ≤ 140737488355328 := fun s hs => by
          have := dents_short hA s.body (by rw [← hub]; exact List.mem_map.2 ⟨s, hs, rfl⟩)
          omega
        obtain ⟨F, hF⟩ : ∃ F : List Nat → Nat, F = fun s => skN s (bodies us) := ⟨_, rfl⟩
        have HP := Lib.hid (fun (W : World) (hW : Ext wr W) (A2 : Option Addr) (n2 c2 : Nat) (t : List Nat) (h1 : Rd .u8 W A2 n2 t) (h2 : n2 ≤ 140737488355328) => place10_any A' m c' us A2 n2 c2 t W (HEn.out.ext hW).rd (by omega) (fun s hs => ⟨((HEn.out.ext hW).own s hs).rd, hshort s hs⟩) hasc h1 h2)
        have HR2 := Lib.hid (show idxR (bodies ss) = (bodies us, (bodies ss).map F, 0) by rw [HR.out, hF])
        have HF := Lib.hid hF
        have h0 : OwnG shZ 3 (wr.alloc (.cells #[] 3)) wr.heap.size (some ⟨wr.heap.size, 0, none⟩) 0 (zs (((bodies ss).take 0).map F)) := (OwnG.made _ _ _ (Nat.le_refl _))
        have H0 := Lib.hid h0
        clear hA hub HA HR hasc hshort htk hF h0
        obtain ⟨W1, hW1⟩ : ∃ W1, W1 = wr := ⟨_, rfl⟩
        rw [← hW1] at HEn HE HP H0 ⊢
        clear hW1
        go_wp2_with fail
        go_loopw [7, 8] (fun v i wx => ∃ (q : Nat) (B : Option Addr) (cB : Nat), q ≤ n ∧ i = .int .i64 q ∧ v = .slice B q cB ∧ Hid (OwnG shZ 3 wx W1.heap.size B cB (zs (((bodies ss).take q).map F))) ∧ Hid (Ext W1 wx)) (fun _ i _ => n - (intOf i).toNat)
        case atStart => exact ⟨0, _, _, Nat.zero_le _, rfl, rfl, H0.out, (Ext.refl _).alloc _⟩
        case round =>
          clear H0
          obtain ⟨q, B, cB, hq, rfl, rfl, HO, HB⟩ := hrel
          by_cases hlt2 : q < n
          · obtain ⟨b, o, s, rfl, hf, hc, hs⟩ := (Hx.out.ext (HE.out.trans HB.out)).at_ hlt2
            have hbj := bodies_at hf
            have hrd := hs.rd
            have hln := hs.len
            have htk : ((bodies ss).take (q + 1)).map F = ((bodies ss).take q).map F ++ [F s.body] := by
              obtain ⟨h1, h2⟩ := List.getElem?_eq_some_iff.1 hbj
              rw [List.take_succ_eq_append_getElem h1, h2, List.map_append]
              rfl
            obtain ⟨sA, sc, body⟩ := s
            simp only at hc hrd hln hbj htk
            obtain ⟨bl, hbl⟩ : ∃ bl, bl = body.length := ⟨_, rfl⟩
            rw [← hbl] at hc hrd hln
            obtain ⟨f, hfv⟩ : ∃ f, f = F body := ⟨_, rfl⟩
            rw [← hfv] at htk
            have hP := HP.out wr HB.out sA bl sc body hrd hln
            have hfv2 : skN body (bodies us) = f := by rw [hfv, HF.out]
            rw [hfv2] at hP
            have HPl := Lib.hid hP
            have hlq : (zs (((bodies ss).take q).map F)).length = q := by rw [zs_len, List.length_map, List.length_take, Hbl.out]; omega
            have Hlq := Lib.hid hlq
            have Htk := Lib.hid (show zs (((bodies ss).take (q + 1)).map F) = zs (((bodies ss).take q).map F) ++ [(f : Int)] by rw [htk, zs_snoc])
            clear hf hbj htk hrd hln hs hbl hfv hfv2 hP hlq
            go_wp2_with fail
            refine HPl.out.mono ?_
            rintro e w5 ⟨rfl, q5, rfl⟩
            have hE5 : Ext wr (wr.drewN q5) := Ext.of_drewN _ _
            obtain ⟨w5, hw5⟩ : ∃ w5, w5 = wr.drewN q5 := ⟨_, rfl⟩
            rw [← hw5] at hE5 ⊢
            clear hw5
            have HB5 := Lib.hid (show Ext W1 w5 from HB.out.trans hE5)
            go_wp2_with (at_builtin; refine wpList_pushG (w0 := W1) (base := W1.heap.size) shZ (f : Int) 3 rfl _ _ 140 rfl _ 8 Tryz.underlying140 Tryz.infoInt rfl (by decide) ((HO.out.ext hE5).ext ((Ext.refl _).alloc _)) q Hlq.out rfl rfl (heap_alloc_new _ _) (by omega) (by omega) (Ext.trans HB5.out ((Ext.refl _).alloc _)) (by have := HB5.out.size; simp; omega) ?_; intro A4 c4 w4 hown4 hg4 hb4 hz4)
            rw [← Htk.out] at hown4
            have HN := Lib.hid (show Ext W1 w4 from hb4)
            have Hown4 := Lib.hid hown4
            clear hown4 hg4 hb4 hz4
            go_wp2_with fail
            go_roundw
            case rel => exact ⟨q + 1, A4, c4, by omega, by go_num, rfl, Hown4.out, HN.out⟩
            case measure => simp [intOf]; omega
          · obtain rfl : n = q := by omega
            have hO := HO.out
            rw [List.take_of_length_le (by rw [Hbl.out]; exact Nat.le_refl _)] at hO
            have HOf := Lib.hid hO
            clear hO
            go_wp2_with fail
            go_ret3
            exact RIdxPost.good _ HR2.out Hul.out (by rw [List.length_map, Hbl.out]) (HEn.out.ext HB.out) (HOf.out.mono HE.out.size) (HE.out.trans HB.out)
end Go.Proofs.YthibbgmicmfkfaaGreat
-- part D10c
namespace Go.Proofs.YthibbgmicmfkfaaGreat
open Go.RowKit Go.Maps Go.Sort Go.Shelf
set_option maxRecDepth 100000
theorem sorts_any (m : Nat) : AnyZ.SortsIn Tryz.prog Tryz.sorted204_ren Fence.wide m :=
  ⟨fun blk off cap ss W hH hblk hsz => callsIn_wide.2 (AnyM.slices_Sort_string Tryz.sort215 blk off cap ss W hH hblk hsz),
   fun p cap W => callsIn_wide.2 (AnyM.slices_Sort_string_none Tryz.sort215 p cap W)⟩
theorem keys_any (mb : Option Nat) (W : World) : Calls Tryz.prog 205 #[.map mb] W fun e w' => e = .returned (.func (.func 216) #[] #[.pointer (some ⟨W.heap.size, 0, none⟩)]) ∧ w' = W.alloc (.cells #[.map mb] 222) :=
  (callsIn_wide (n := 5)).1 (AnyZ.keys_in Tryz.keys205 Fence.wide 5 trivial rfl mb W)
set_option maxHeartbeats 1000000 in
theorem sortedKeys_any {H : Type} (b nn : Nat) (D0 : DataW H) (R : Value → Option (DataW H × List MemPlace)) (w : World) (hown : w.ownsMap Tryz.prog 9 R b nn D0) (hmax : Maps.size D0 ≤ maxLen) (hbytes : Maps.size D0 * 16 ≤ 140737488355328) :
    Calls Tryz.prog 204 #[.func (.func 216) #[] #[.pointer (some ⟨w.heap.size, 0, none⟩)]] (w.alloc (.cells #[.map (some b)] 222)) fun e w' => ∃ (v : Value) (ss : List (List UInt8)), e = .returned v ∧ ss.Perm (strKeys D0) ∧
      w'.ownsRow (w.alloc (.cells #[.map (some b)] 222)).heap.size 9 1 v ss.length ((ss.mergeSort (fun x y => decide (x ≤ y))).map encStr) ∧ Ext (w.alloc (.cells #[.map (some b)] 222)) w' := by
  refine (callsIn_wide (n := 5)).1 ?_
  have hbl := hown.lt
  have hseq : SeqGives Fence.wide 2 Tryz.prog 216 #[.pointer (some ⟨w.heap.size, 0, none⟩)] encStr (fun ss => ss.Perm (strKeys D0)) (Maps.size D0) (w.alloc (.cells #[.map (some b)] 222)) :=
    AnyZ.keys_gives (ρ := Tryz.keys205_ren) { Tryz.keys205 with } Fence.wide _ trivial rfl (by omega) w.heap.size b nn D0 _ (by simp) (by simp) (by
      obtain ⟨es, clock, hb, Ft, hs, hD⟩ := hown
      exact ⟨es, clock, (Below.heap_alloc _ _ b hbl).trans hb, Ft, hs, hD⟩)
  have h := AnyZ.sorted_in Tryz.sorted204 Fence.wide 5 trivial trivial trivial trivial rfl (by omega) (sorts_any _) (enters_of Tryz.func215 (by kernel_rfl) rfl) 216 #[.pointer (some ⟨w.heap.size, 0, none⟩)] trivial (enters_of Tryz.func216 (by kernel_rfl) rfl) _ _ hmax hbytes _ hseq
  exact h.mono fun e w' ⟨v, ss, h1, h2, h3, _, h5⟩ => ⟨v, ss, h1, h2, h3, h5⟩
def n8s (xs : List UInt8) : List Nat := xs.map UInt8.toNat
theorem n8s_u8s : ∀ {xs : List Nat}, U8 xs → n8s (u8s xs) = xs
  | [], _ => rfl
  | x :: r, h => by
    rw [u8s_cons]
    show (UInt8.ofNat x).toNat :: n8s (u8s r) = _
    rw [n8s_u8s (fun y hy => h y (List.mem_cons_of_mem _ hy)), UInt8.toNat_ofNat_of_lt' (h x (by simp))]
theorem u8s_eq {xs ys : List Nat} (hx : U8 xs) (hy : U8 ys) (h : u8s xs = u8s ys) : xs = ys := by rw [← n8s_u8s hx, h, n8s_u8s hy]
theorem sstr_list (xs : List Nat) : (sstr xs).data.toList = u8s xs := rfl
theorem sstr_size (xs : List Nat) : (sstr xs).size = xs.length := by
  show (List.map _ _).toArray.size = _
  simp
theorem lt_ord : ∀ {a b : List Nat}, U8 a → U8 b → (u8s a < u8s b ↔ ordT a b < 0)
  | [], [], _, _ => by simp [u8s, Lib.bytesOf, ordT]
  | [], y :: s, _, _ => by
    rw [u8s_cons]
    simp [u8s, Lib.bytesOf, ordT]
  | x :: r, [], _, _ => by
    rw [u8s_cons]
    simp [u8s, Lib.bytesOf, ordT]
  | x :: r, y :: s, h, h2 => by
    have hx : x < 256 := h x (by simp)
    have hy : y < 256 := h2 y (by simp)
    have ih := lt_ord (a := r) (b := s) (fun z hz => h z (List.mem_cons_of_mem _ hz)) (fun z hz => h2 z (List.mem_cons_of_mem _ hz))
    rw [u8s_cons, u8s_cons, List.cons_lt_cons_iff, u8_lt hx hy, u8_inj hx hy, ih, ordT]
    rcases Nat.lt_trichotomy x y with q | q | q
    · rw [if_pos q]; simp [q]
    · subst q; simp
    · rw [if_neg (by omega), if_pos q]; simp; omega
theorem sorted_is {H : Type} {b nn : Nat} {D : DataW H} {R : Value → Option (DataW H × List MemPlace)} {w : World} (hown : w.ownsMap Tryz.prog 9 R b nn D) {ss : List (List UInt8)} (hp : ss.Perm (strKeys D))
    {L : List (List Nat)} (ha : Asc L) (hu : ∀ x ∈ L, U8 x) (hm : ∀ x, x ∈ L.map u8s ↔ has D (.string x) = true) :
    ss.mergeSort (fun x y => decide (x ≤ y)) = L.map u8s ∧ ss.length = L.length := by
  have hpw : (L.map u8s).Pairwise (fun x y => x < y) := by
    rw [List.pairwise_map]
    refine List.Pairwise.imp_of_mem ?_ ha
    intro x y hx hy h
    exact (lt_ord (hu x hx) (hu y hy)).2 h
  have hnd : (L.map u8s).Nodup := hpw.imp fun {x y} h e => by subst e; exact List.lt_irrefl _ h
  obtain ⟨es, hD, hpe, _⟩ := hown.entries (string_keyed Tryz.underlying9)
  obtain ⟨es', hD', hko⟩ := hown.keysOf
  obtain rfl : es = es' := by rw [hD] at hD'; simpa using hD'
  subst hD
  have hS := perm_strKeys hpe (fun p hp => by obtain ⟨v, hv⟩ := hko p hp; obtain ⟨x, _, hx, _⟩ := Maps.keyOf_str Tryz.underlying9 hv; exact ⟨x, hx⟩) hnd hm
  have hperm : ss.Perm (L.map u8s) := hp.trans hS.symm
  refine ⟨?_, by rw [hperm.length_eq, List.length_map]⟩
  have h1 := mergeSort_of_perm hperm
  have h2 : (L.map u8s).mergeSort leB = L.map u8s := List.mergeSort_of_pairwise (hpw.imp fun {x y} h => by simp only [leB, decide_eq_true_eq]; exact List.le_of_lt h)
  exact h1.trans h2
end Go.Proofs.YthibbgmicmfkfaaGreat
-- part D10d
namespace Go.Proofs.YthibbgmicmfkfaaGreat
open Go.RowKit
def OwnM (w : World) (base : Nat) (A : Option Addr) (c : Nat) (xs : List Nat) : Prop :=
  ∃ g cur, A = some ⟨g, 0, none⟩ ∧ base ≤ g ∧ w.heap[g]? = some (.cells cur 5 (c, c + 1)) ∧ xs.length ≤ c ∧ c ≤ 9223372036854775807 ∧ cur.size = c ∧ cur.toList.take xs.length = xs.map fun x : Nat => Value.int .u8 (x : Int)
section
variable {w w' : World} {base c : Nat} {A : Option Addr} {xs : List Nat}
theorem OwnM.ext (h : OwnM w base A c xs) (he : Ext w w') : OwnM w' base A c xs := by
  obtain ⟨g, cur, h1, h2, h3, h4⟩ := h
  exact ⟨g, cur, h1, h2, (he.block g (Array.getElem?_eq_some_iff.1 h3).1).trans h3, h4⟩
theorem OwnM.grown (h : OwnM w base A c xs) {row : Option Nat} (hg : w.grownBy w' row) (hne : ∀ a, A = some a → some a.block ≠ row) : OwnM w' base A c xs := by
  obtain ⟨g, cur, h1, h2, h3, h4⟩ := h
  exact ⟨g, cur, h1, h2, (hg.block g (Array.getElem?_eq_some_iff.1 h3).1 (hne _ h1)).trans h3, h4⟩
theorem OwnM.mono (h : OwnM w base A c xs) {base' : Nat} (hb : base' ≤ base) : OwnM w base' A c xs := by
  obtain ⟨g, cur, h1, h2, h4⟩ := h
  exact ⟨g, cur, h1, Nat.le_trans hb h2, h4⟩
theorem OwnM.block (h : OwnM w base A c xs) : ∀ a, A = some a → base ≤ a.block ∧ a.block < w.heap.size := by
  obtain ⟨g, cur, rfl, h2, h3, _⟩ := h
  intro a ha
  injection ha with ha
  subst ha
  exact ⟨h2, (Array.getElem?_eq_some_iff.1 h3).1⟩
theorem OwnM.cap (h : OwnM w base A c xs) : xs.length ≤ c ∧ c ≤ 9223372036854775807 := by
  obtain ⟨g, cur, _, _, _, h4, h5, _⟩ := h
  exact ⟨h4, h5⟩
theorem OwnM.rd (h : OwnM w base A c xs) : Rd .u8 w A xs.length xs := by
  obtain ⟨g, cur, rfl, h2, h3, h4, h5, h6, h7⟩ := h
  refine ⟨rfl, fun hn => ⟨g, 0, rfl, (Array.getElem?_eq_some_iff.1 h3).1, fun j hj => ?_⟩⟩
  rw [cell_of_row w g (0 + j) cur _ _ h3, Nat.zero_add]
  have h1 : (cur.toList.take xs.length)[j]? = some (Value.int .u8 ((xs.getD j 0 : Nat) : Int)) := by rw [h7, List.getElem?_map, List.getElem?_eq_getElem hj]; simp [List.getD, hj]
  rw [List.getElem?_take, if_pos hj] at h1
  simpa using h1
theorem own_neM {base' c' : Nat} {A' : Option Addr} {ts : List Sl} (h : OwnT w base A c ts) (k : OwnM w base' A' c' xs) : ∀ a, A' = some a → some a.block ≠ (Value.slice A ts.length c).ownBlock := by
  rintro a rfl e
  rcases h.2 with ⟨hv, _⟩ | ⟨g, cap, cur, hv, hg, hh, _⟩
  · rw [hv] at e; simp [Value.ownBlock] at e
  · rw [hv] at e
    simp [Value.ownBlock] at e
    obtain ⟨g', cur', hA, _, hh', _⟩ := k
    injection hA with hA
    subst hA
    simp at e
    subst e
    rw [hh] at hh'
    injection hh' with hh'
    injection hh' with h1 h2 h3
    exact absurd h2 (by decide)
end
theorem conv_back (W : World) {xs : List Nat} (hu : U8 xs) (hl : xs.length ≤ 1000000) : ∃ w' c, (convert 9 22 (.string (sstr xs))).run Tryz.prog W = .ok (.slice (some ⟨W.heap.size, 0, none⟩) xs.length c) w' ∧ OwnM w' W.heap.size (some ⟨W.heap.size, 0, none⟩) c xs ∧ Ext W w' := by
  have hsz := sstr_size xs
  refine ⟨Lib.bytesWorld W 5 (sstr xs), grownCap W xs.length 0 5, ?_, ?_, ?_⟩
  · have := Lib.run_convert_string_bytes (P := Tryz.prog) W 9 22 5 (sstr xs) Tryz.underlying9 Tryz.underlying22 Tryz.underlying5
    rw [this, hsz]
  · have hge := grownCap_ge W xs.length 0 5
    have hle := grownCap_le_maxLen W xs.length 0 5 (by unfold maxLen; omega)
    have hcs : (Lib.bytesCells W 5 (sstr xs)).size = grownCap W xs.length 0 5 := by
      unfold Lib.bytesCells
      rw [hsz]
      have : (sstr xs).data.size = xs.length := hsz
      simp [this]
      omega
    refine ⟨W.heap.size, Lib.bytesCells W 5 (sstr xs), rfl, Nat.le_refl _, ?_, hge, by simpa [maxLen] using hle, hcs, ?_⟩
    · have := Lib.bytesWorld_at_new W 5 (sstr xs)
      rw [this, hcs]
    · have e1 : (sstr xs).data.toList.map (fun b : UInt8 => Value.int .u8 (b.toNat : Int)) = xs.map fun x : Nat => Value.int .u8 (x : Int) := by
        rw [sstr_list, ← n8s_u8s hu]
        simp only [n8s, List.map_map]
        rw [show (List.map UInt8.toNat (u8s xs)) = xs from n8s_u8s hu]
        rfl
      unfold Lib.bytesCells
      rw [Array.toList_append, Array.toList_map, e1, List.take_append_of_le_length (by simp), List.take_of_length_le (by simp)]
  · have hs := Lib.bytesWorld_size W 5 (sstr xs)
    refine ⟨rfl, rfl, rfl, by omega, fun i hi => Lib.bytesWorld_at_old W 5 (sstr xs) i hi⟩
structure TxtsM (w : World) (base : Nat) (ts : List Sl) : Prop where
  own : ∀ s ∈ ts, OwnM w base s.A s.c s.body
  apart : ts.Pairwise fun s t => ∀ p q, s.A = some p → t.A = some q → p.block < q.block
section
variable {w w' : World} {base c : Nat} {A : Option Addr} {ts : List Sl}
theorem TxtsM.nil (w : World) (base : Nat) : TxtsM w base [] := ⟨fun s hs => (by cases hs), List.Pairwise.nil⟩
theorem TxtsM.ext (h : TxtsM w base ts) (he : Ext w w') : TxtsM w' base ts := ⟨fun s hs => (h.own s hs).ext he, h.apart⟩
theorem TxtsM.mono (h : TxtsM w base ts) {base' : Nat} (hb : base' ≤ base) : TxtsM w base' ts := ⟨fun s hs => (h.own s hs).mono hb, h.apart⟩
theorem TxtsM.far (h : TxtsM w base ts) {g : Nat} (hg : w.grownBy w' (some g)) (hb : g < base) : TxtsM w' base ts :=
  ⟨fun s hs => (h.own s hs).grown hg (fun a ha e => by
    injection e with e
    have := ((h.own s hs).block a ha).1
    omega), h.apart⟩
theorem TxtsM.grown (h : TxtsM w base ts) {base' : Nat} {us : List Sl} (k : OwnT w base' A c us) (hg : w.grownBy w' (Value.slice A us.length c).ownBlock) : TxtsM w' base ts :=
  ⟨fun s hs => (h.own s hs).grown hg (own_neM k (h.own s hs)), h.apart⟩
theorem TxtsM.lt (h : TxtsM w base ts) : ∀ t ∈ ts, ∀ p, t.A = some p → p.block < w.heap.size := fun t ht p hp => ((h.own t ht).block p hp).2
theorem TxtsM.rd (h : TxtsM w base ts) : ∀ s ∈ ts, Rd .u8 w s.A s.body.length s.body := fun s hs => (h.own s hs).rd
theorem TxtsM.snoc (h : TxtsM w base ts) {s : Sl} {base' : Nat} (hs : OwnM w base' s.A s.c s.body) (hb : base ≤ base') (hl : ∀ t ∈ ts, ∀ p, t.A = some p → p.block < base') : TxtsM w base (ts ++ [s]) := by
  refine ⟨fun t ht => ?_, ?_⟩
  · rcases List.mem_append.1 ht with h1 | h1
    · exact h.own t h1
    · simp at h1; subst h1; exact hs.mono hb
  · rw [List.pairwise_append]
    refine ⟨h.apart, by simp, fun t ht f' hf' p q hp hq => ?_⟩
    simp at hf'
    subst hf'
    exact Nat.lt_of_lt_of_le (hl t ht p hp) (hs.block q hq).1
end
def shStr : Shape (List Nat) := ⟨fun x => [.string (sstr x)], 1, fun _ => rfl, by intro x u hu; simp at hu; subst hu; rfl⟩
theorem strs_all : ∀ L : List (List Nat), (L.map u8s).map encStr = shStr.all L
  | [] => rfl
  | x :: r => by
    rw [Shape.all_cons, ← strs_all r]
    rfl
theorem strs_of {w : World} {base n : Nat} {v : Value} {L : List (List Nat)} (h : w.ownsRow base 9 1 v n ((L.map u8s).map encStr)) (hn : n = L.length) : ∃ A c, v = .slice A L.length c ∧ OwnG shStr 9 w base A c L := by
  subst hn
  rw [strs_all] at h
  rcases h.2 with ⟨hv, h0⟩ | ⟨g, cap, cur, hv, _⟩
  · exact ⟨none, 0, by rw [hv, h0], by rw [hv] at h; unfold OwnG; rw [h0] at h ⊢; exact h⟩
  · exact ⟨some ⟨g, 0, none⟩, cap, hv, by rw [hv] at h; exact h⟩
end Go.Proofs.YthibbgmicmfkfaaGreat
-- part D10e
namespace Go.Proofs.YthibbgmicmfkfaaGreat
open Go.RowKit Go.Maps Go.WideMaps
theorem isLong10_any (A : Option Addr) (n c : Nat) (w : World) :
    Calls Tryz.prog 203 #[.slice A n c] w fun e w' => e = .returned (.bool (decide (200 < n))) ∧ w' = w := by
  by_cases h : 200 < n
  · rw [decide_eq_true h]
    go_enter Tryz.func203, Tryz.ntmps203
    go_wp2
    go_ret
    exact ⟨by simp <;> omega, rfl⟩
  · rw [decide_eq_false h]
    go_enter Tryz.func203, Tryz.ntmps203
    go_wp2
    go_ret
    exact ⟨by simp <;> omega, rfl⟩
theorem indexLong10_any (A : Option Addr) (n c : Nat) (ss : List Sl) (w : World) (hx : RdL w A n ss) (hn : n ≤ 140737488355328) :
    Calls Tryz.prog 206 #[.slice A n c, .func (.func 203) #[] #[]] w fun e w' => ∃ r : Int, e = .returned (.int .i64 r) ∧ w' = w ∧ decide (0 ≤ r) = anyLong (bodies ss) := by
  have Hl := Lib.hid hx.1
  obtain ⟨R, hR⟩ : ∃ R, R = anyLong (bodies ss) := ⟨_, rfl⟩
  rw [← hR]
  have HR := Lib.hid hR
  clear hR
  go_enter Tryz.func206, Tryz.ntmps206
  go_wp2
  go_loopw [5, 8] (fun _ i wr => ∃ j : Nat, j ≤ n ∧ i = .int .i64 j ∧ wr = w ∧ Hid (anyLong (bodies (ss.take j)) = false)) (fun _ i _ => n - (intOf i).toNat)
  case atStart => exact ⟨0, Nat.zero_le _, rfl, rfl, rfl⟩
  case round =>
    obtain ⟨j, hj, rfl, rfl, HA⟩ := hrel
    by_cases hlt : j < n
    · obtain ⟨b, o, s, rfl, hf, h1⟩ := hx.at_ hlt
      obtain ⟨sA, sc, body⟩ := s
      simp only at h1
      have e0 : bodies (ss.take (j + 1)) = bodies (ss.take j) ++ [body] := by rw [List.take_add_one, hf]; unfold bodies; rw [List.map_append]; rfl
      by_cases hb : 200 < body.length
      · have hfin := Lib.hid (show true = R by rw [HR.out]; exact (anyLong_iff.2 ⟨body, List.mem_map.2 ⟨_, List.mem_of_getElem? hf, rfl⟩, hb⟩).symm)
        clear e0 hf
        obtain ⟨m, hm⟩ : ∃ m, m = body.length := ⟨_, rfl⟩
        rw [← hm] at h1 hb
        clear hm
        have hd : decide (200 < m) = true := decide_eq_true hb
        go_wp2_with (refine (isLong10_any _ _ _ _).mono ?_; rintro e w1 ⟨rfl, rfl⟩; rw [hd])
        go_ret
        exact ⟨_, rfl, rfl, by rw [← hfin.out]; exact decide_eq_true (by omega)⟩
      · have hN := Lib.hid (show anyLong (bodies (ss.take (j + 1))) = false by rw [e0, anyLong, List.any_append]; simp [anyLong] at HA; simp <;> first | omega | (refine ⟨HA.out, by omega⟩))
        clear e0 hf
        obtain ⟨m, hm⟩ : ∃ m, m = body.length := ⟨_, rfl⟩
        rw [← hm] at h1 hb
        clear hm
        have hd : decide (200 < m) = false := decide_eq_false hb
        go_wp2_with (refine (isLong10_any _ _ _ _).mono ?_; rintro e w1 ⟨rfl, rfl⟩; rw [hd])
        go_roundw
        case rel => exact ⟨j + 1, by omega, by go_num, by first | trivial | rfl, hN⟩
        case measure => simp [intOf]; omega
    · obtain rfl : j = n := by omega
      have hfin := Lib.hid (show false = R by rw [HR.out, ← HA.out, List.take_of_length_le (by rw [Hl.out]; exact Nat.le_refl _)])
      go_wp2
      go_ret
      exact ⟨_, rfl, by first | trivial | rfl, by rw [← hfin.out]; rfl⟩
theorem containsLong10_any (A : Option Addr) (n c : Nat) (ss : List Sl) (w : World) (hx : RdL w A n ss) (hn : n ≤ 140737488355328) :
    Calls Tryz.prog 181 #[.slice A n c, .func (.func 203) #[] #[]] w fun e w' => e = .returned (.bool (anyLong (bodies ss))) ∧ w' = w := by
  have H := Lib.hid (indexLong10_any A n c ss w hx hn)
  clear hx
  go_enter Tryz.func181, Tryz.ntmps181
  go_wp2_with fail
  refine H.out.mono ?_
  rintro e w1 ⟨r, rfl, rfl, hr⟩
  have Hr := Lib.hid hr
  clear hr
  go_wp2
  go_ret
  exact ⟨by rw [← Hr.out]; simp, by first | trivial | rfl⟩
theorem lawK : Keyed Tryz.prog 9 := string_keyed Tryz.underlying9
theorem run_mkM (w : World) : (Instr.makeMap 222 none).run Tryz.prog w = .ok (.map (some w.heap.size)) (w.alloc (.map #[] 0)) := by
  simp [Instr.makeMap, Result.andThen]
theorem zero_int (w : World) : (zeroValue 3).run Tryz.prog w = .ok (.int .i64 0) w := by
  rw [Tryz.zeroValue3]
noncomputable abbrev elI (H : Type) : Value → Option (DataW H × List MemPlace) := plainElem Tryz.prog 3
theorem i64_min : IntKind.i64.min = -9223372036854775808 := by decide
theorem i64_max : IntKind.i64.max = 9223372036854775807 := by decide
theorem elI_mk {H : Type} (i : Nat) (hi : i ≤ 1000000) : elI H (.int .i64 (i : Int)) = some (.lit (.int .i64 (i : Int)), []) := by
  refine plainElem_int Tryz.underlying3 ?_
  have h1 : IntKind.i64.min ≤ (i : Int) := by rw [i64_min]; omega
  have h2 : (i : Int) ≤ IntKind.i64.max := by rw [i64_max]; omega
  simp [Lit.wf, h1]
  omega
theorem key_of (xs : List Nat) (h : xs.length ≤ 140737488355328) : keyOf Tryz.prog 9 (.string (sstr xs)) = some (.string (u8s xs)) := by
  have := keyOf_string_mk (P := Tryz.prog) (k := 9) Tryz.underlying9 (s := sstr xs) (by rw [sstr_size]; unfold maxLen; omega)
  rw [this, sstr_list]
def keyL (xs : List Nat) : Lit := .string (u8s xs)
def D0of (ss : List (List Nat)) : DataW Unit := setOf (.lit (.int .i64 0)) (ss.map keyL)
theorem D0of_snoc (ss : List (List Nat)) (t : List Nat) : D0of (ss ++ [t]) = (D0of ss).put (keyL t) (.lit (.int .i64 0)) := by unfold D0of; rw [List.map_append]; exact setOf_snoc ..
theorem D0of_key (ss : List (List Nat)) : ∀ x ∈ ss.map keyL, WideAt.IsKeyLit x := by
  intro x hx
  obtain ⟨s, _, rfl⟩ := List.mem_map.1 hx
  exact trivial
theorem D0of_has (ss : List (List Nat)) (x : List UInt8) : has (D0of ss) (.string x) = true ↔ x ∈ ss.map u8s := by
  unfold D0of
  rw [has_setOf _ _ _ (D0of_key ss), List.any_eq_true]
  constructor
  · rintro ⟨l, hl, h⟩
    obtain ⟨s, hs, rfl⟩ := List.mem_map.1 hl
    have : u8s s = x := by simpa [keyL, Lit.sameKey] using h
    rw [← this]
    exact List.mem_map.2 ⟨s, hs, rfl⟩
  · intro h
    obtain ⟨s, hs, rfl⟩ := List.mem_map.1 h
    exact ⟨keyL s, List.mem_map.2 ⟨s, hs, rfl⟩, by simp [keyL, Lit.sameKey]⟩
theorem D0of_map (ss : List (List Nat)) : IsMap (D0of ss) := (tidy_setOf _ _ (D0of_key ss)).isMap
def NumD (D : DataW Unit) (L : List (List Nat)) (j : Nat) : Prop := IsMap D ∧ ∀ i x, i < j → L[i]? = some x → ∀ z, D.atKey (keyL x) z = .lit (.int .i64 (i : Int))
theorem NumD.step {D : DataW Unit} {L : List (List Nat)} {j : Nat} {t : List Nat} (h : NumD D L j) (ha : Asc L) (hu : ∀ x ∈ L, U8 x) (ht : L[j]? = some t) : NumD (D.put (keyL t) (.lit (.int .i64 (j : Int)))) L (j + 1) := by
  refine ⟨h.1.put _ _, fun i x hi hx z => ?_⟩
  by_cases hij : i = j
  · subst hij
    rw [ht] at hx
    injection hx with hx
    subst hx
    exact atKey_put_same h.1 (show WideAt.IsKeyLit (keyL t) from trivial) _ _
  · rw [atKey_put_other (fun e => ?_) _ _]
    · exact h.2 i x (by omega) hx z
    · have e1 : u8s x = u8s t := by injection e
      have hxt : x = t := u8s_eq (hu x (List.mem_of_getElem? hx)) (hu t (List.mem_of_getElem? ht)) e1
      subst hxt
      obtain ⟨q1, e2⟩ := List.getElem?_eq_some_iff.1 hx
      obtain ⟨q2, e3⟩ := List.getElem?_eq_some_iff.1 ht
      have := List.pairwise_iff_getElem.1 ha i j q1 q2 (by omega)
      rw [e2, e3, ordT_self] at this
      omega
theorem own_neG {T1 T2 : Type} {s1 : Shape T1} {s2 : Shape T2} {e1 e2 : TypeId} {w : World} {base base' c c' : Nat} {A A' : Option Addr} {xs : List T1} {ys : List T2} (hne : e1 ≠ e2) (h : OwnG s1 e1 w base A c xs) (k : OwnG s2 e2 w base' A' c' ys) : ∀ a, A' = some a → some a.block ≠ (Value.slice A xs.length c).ownBlock := by
  rintro a rfl e
  rcases h.2 with ⟨hv, _⟩ | ⟨g, cap, cur, hv, hg, hh, _⟩
  · rw [hv] at e; simp [Value.ownBlock] at e
  · rw [hv] at e
    simp [Value.ownBlock] at e
    rcases k.2 with ⟨hv', _⟩ | ⟨g', cap', cur', hv', _, hh', _⟩
    · cases hv'
    · injection hv' with hA
      injection hA with hA
      subst hA
      simp at e
      subst e
      rw [hh] at hh'
      injection hh' with hh'
      injection hh' with h1 h2 h3
      exact hne h2
theorem OwnG.far {T : Type} {s : Shape T} {e : TypeId} {w w' : World} {base c b : Nat} {A : Option Addr} {xs : List T} (h : OwnG s e w base A c xs) (hg : w.grownBy w' (some b)) (hb : b < base) : OwnG s e w' base A c xs :=
  h.grown hg (fun a ha q => by
    injection q with q
    have := (h.block a ha).1
    omega)
theorem size_of_owns {w : World} {R : Value → Option (DataW Unit × List MemPlace)} {g n : Nat} {D : DataW Unit} (h : w.ownsMap Tryz.prog 9 R g n D) : Maps.size D ≤ n := by
  obtain ⟨es, clock, hb, F, hs, rfl⟩ := h
  rw [size_eq, length_sorted]
  simpa using hs
theorem row_above {base c n g : Nat} {A : Option Addr} (h : ∀ a, A = some a → base ≤ a.block) (hg : g < base) : some g ≠ (Value.slice A n c).ownBlock := by
  cases A with
  | none => simp [Value.ownBlock]
  | some a =>
    intro e
    simp [Value.ownBlock] at e
    have := h a rfl
    omega
def IdxPost (R : List (List Nat) × List Nat × Int) (w : World) (e : Ending) (w' : World) : Prop :=
  ∃ A' c' us B cB, e = .returned (.tuple #[.slice A' us.length c', .slice B R.2.1.length cB, .int .i64 R.2.2]) ∧ bodies us = R.1 ∧ OwnT w' w.heap.size A' c' us ∧ TxtsM w' w.heap.size us ∧ Own .i64 3 w' w.heap.size B cB R.2.1 ∧ Ext w w'
theorem IdxPost.bad {w w' : World} (R : List (List Nat) × List Nat × Int) {E : Int} (h : R = ([], [], E)) (he : Ext w w') : IdxPost R w (.returned (.tuple #[.slice none 0 0, .slice none 0 0, .int .i64 E])) w' := by
  subst h
  exact ⟨none, 0, [], none, 0, rfl, rfl, OwnG.nil .., TxtsM.nil .., Own.nil .., he⟩
theorem IdxPost.good {w w' : World} (R : List (List Nat) × List Nat × Int) {us : List Sl} {ns : List Nat} {A B : Option Addr} {m c n cB : Nat} (h : R = (bodies us, ns, 0)) (hm : us.length = m) (hn : ns.length = n) (ho : OwnT w' w.heap.size A c us) (ht : TxtsM w' w.heap.size us) (hB : Own .i64 3 w' w.heap.size B cB ns) (he : Ext w w') :
    IdxPost R w (.returned (.tuple #[.slice A m c, .slice B n cB, .int .i64 0])) w' := by
  subst h hm hn
  exact ⟨A, c, us, B, cB, rfl, rfl, ho, ht, hB, he⟩
end Go.Proofs.YthibbgmicmfkfaaGreat
namespace Go.Proofs.YthibbgmicmfkfaaGreat
open Go.RowKit Go.Maps Go.WideMaps
set_option maxRecDepth 100000
theorem bodies_mem_of' {w : World} {A : Option Addr} {n : Nat} {ss : List Sl} (h : TxL w A n ss) : ∀ x ∈ bodies ss, U8 x := by
  intro x hx
  obtain ⟨s, hs, rfl⟩ := List.mem_map.1 hx
  exact (h.each s hs).u8
theorem Ext.grownBy' {w w' : World} (h : Ext w w') : w.grownBy w' none := ⟨h.os, h.tape, h.output, h.size, fun i hi _ => h.block i hi⟩
set_option maxHeartbeats 3200000 in
set_option maxRecDepth 100000 in
theorem pindex_any (A : Option Addr) (n c : Nat) (ss : List Sl) (w : World) (hx : TxL w A n ss) (hn : n ≤ 140737488355328) :
    Calls Tryz.prog 177 #[.slice A n c] w (IdxPost (idxR (bodies ss)) w) := by
  have Hl := Lib.hid hx.len
  have hbl : (bodies ss).length = n := by rw [bodies_len, Hl.out]
  have HL := Lib.hid (containsLong10_any A n c ss w hx.rd hn)
  by_cases hbig : 4096 < n
  · have HR := Lib.hid (idxR_bad (ss := bodies ss) (.inl (by rw [hbl]; exact hbig)))
    clear hbl HL
    go_enter Tryz.func177, Tryz.ntmps177
    go_wp2_with fail
    go_ret3
    exact IdxPost.bad _ HR.out (Ext.refl w)
  · cases hany : anyLong (bodies ss) with
    | true =>
      have HR := Lib.hid (idxR_bad (.inr hany))
      rw [hany] at HL
      clear hbl hany
      go_enter Tryz.func177, Tryz.ntmps177
      go_wp2_with fail
      refine HL.out.mono ?_
      rintro e w1 ⟨rfl, rfl⟩
      go_wp2
      go_ret3
      exact IdxPost.bad _ HR.out (Ext.refl _)
    | false =>
      have HR := Lib.hid (idxR_good (by rw [hbl]; omega) hany)
      have hb4 : n ≤ 4096 := by omega
      rw [hany] at HL
      have Hbl := Lib.hid hbl
      have Hany := Lib.hid hany
      have Hx := Lib.hid hx
      obtain ⟨L, hL⟩ : ∃ L, L = dents (bodies ss) := ⟨_, rfl⟩
      rw [← hL] at HR
      have HLe := Lib.hid hL
      have hmk := run_mkM
      clear hbl hany hx hL
      go_enter Tryz.func177, Tryz.ntmps177
      go_wp2_with fail
      refine HL.out.mono ?_
      rintro e w1 ⟨rfl, rfl⟩
      obtain ⟨w, hw⟩ : ∃ w, w = w1 := ⟨_, rfl⟩
      subst hw
      go_wp2_with fail
      clear hmk
      obtain ⟨g, hg⟩ : ∃ g, g = w.heap.size := ⟨_, rfl⟩
      have hown0 := World.ownsMap_made (H := Unit) w Tryz.prog 9 (elI Unit)
      rw [← hg] at hown0 ⊢
      have Hg := Lib.hid hg
      have Hown0 := Lib.hid hown0
      clear hown0 hg
      go_loopw [7, 24] (fun _ i wr => ∃ j : Nat, j ≤ n ∧ i = .int .i64 j ∧ Hid (wr.ownsMap Tryz.prog 9 (elI Unit) g j (D0of ((bodies ss).take j))) ∧ Hid (Ext w wr)) (fun _ i _ => n - (intOf i).toNat)
      case atStart => exact ⟨0, Nat.zero_le _, rfl, Hown0.out, (Ext.refl w).alloc _⟩
      case round =>
        clear Hown0
        obtain ⟨j, hj, rfl, HM, HE⟩ := hrel
        by_cases hlt : j < n
        · obtain ⟨b, o, s, rfl, hf, hc, hs⟩ := (Hx.out.ext HE.out).at_ hlt
          have hbj := bodies_at hf
          have htk : (bodies ss).take (j + 1) = (bodies ss).take j ++ [s.body] := by
            obtain ⟨h1, h2⟩ := List.getElem?_eq_some_iff.1 hbj
            rw [List.take_succ_eq_append_getElem h1, h2]
          have hrd := hs.rd
          have hln := hs.len
          obtain ⟨sA, sc, body⟩ := s
          simp only at hc hrd hln htk
          have kst := conv_str (c := sc) hrd
          have Hk := Lib.hid (key_of body hln)
          have HD := Lib.hid (show D0of ((bodies ss).take (j + 1)) = (D0of ((bodies ss).take j)).put (keyL body) (.lit (.int .i64 0)) by rw [htk, D0of_snoc])
          obtain ⟨bl, hbl⟩ : ∃ bl, bl = body.length := ⟨_, rfl⟩
          rw [← hbl] at hc kst
          clear hf hbj htk hrd hln hs hbl
          go_wp2_with (at_mapUpdate; refine wpList_mapUpdate_own _ rfl _ _ _ 222 rfl 9 3 lawK Tryz.underlying222 (elI Unit) g j _ rfl HM.out (by unfold maxLen; omega) _ _ _ rfl rfl Hk.out _ [] (elI_mk 0 (by omega)) ?_; intro w2 hown2 hgrow2)
          have hown3 : w2.ownsMap Tryz.prog 9 (elI Unit) g (j + 1) (D0of ((bodies ss).take (j + 1))) := by rw [HD.out]; exact hown2
          have HN := Lib.hid hown3
          have HE2 := Lib.hid (show Ext w w2 from grownBy_ext HE.out hgrow2 (fun g' hg' => by injection hg' with hg'; have := Hg.out; omega))
          clear hown2 hown3 hgrow2 kst
          go_wp2_with fail
          go_roundw
          case rel => exact ⟨j + 1, by omega, by go_num, HN.out, HE2.out⟩
          case measure => simp [intOf]; omega
        · obtain rfl : n = j := by omega
          have hmm := HM.out
          rw [List.take_of_length_le (by rw [Hbl.out]; exact Nat.le_refl _)] at hmm
          have HM2 := Lib.hid hmm
          clear hmm HM
          obtain ⟨W1, hW1⟩ : ∃ W1, W1 = wr := ⟨_, rfl⟩
          rw [← hW1] at HM2 HE ⊢
          have hgl := HM2.out.lt
          have hsz := size_of_owns HM2.out
          clear hW1
          go_wp2_with fail
          refine (keys_any _ _).mono ?_
          rintro e w2 ⟨rfl, rfl⟩
          go_wp2_with fail
          refine (sortedKeys_any (H := Unit) g n _ (elI Unit) W1 HM2.out (by unfold maxLen; omega) (by omega)).mono ?_
          rintro e w3 ⟨v, ks, rfl, hperm, hrow, he3⟩
          have hLa : Asc L := by rw [HLe.out]; exact dents_asc _
          have hLu : ∀ x ∈ L, U8 x := by rw [HLe.out]; exact fun x h => bodies_mem_of' Hx.out x (dents_mem.1 h)
          have hLn : L.length ≤ n := by rw [HLe.out]; exact dents_len n _ Hbl.out
          have hLs : ∀ x ∈ L, x.length ≤ 200 := by rw [HLe.out]; exact dents_short Hany.out
          obtain ⟨hsort, hlen⟩ := sorted_is HM2.out hperm hLa hLu (fun x => by
            rw [D0of_has, List.mem_map, List.mem_map, HLe.out]
            constructor
            · rintro ⟨a, ha, h⟩; exact ⟨a, dents_mem.1 ha, h⟩
            · rintro ⟨a, ha, h⟩; exact ⟨a, dents_mem.2 ha, h⟩)
          rw [hsort] at hrow
          obtain ⟨AS, cS, rfl, hstr⟩ := strs_of hrow hlen
          have hE3 : Ext W1 w3 := Ext.trans ((Ext.refl _).alloc _) he3
          have hM3 : w3.ownsMap Tryz.prog 9 (elI Unit) g n (D0of (bodies ss)) := HM2.out.kept hE3.grownBy' (by simp)
          have hW3 : g < w3.heap.size := Nat.lt_of_lt_of_le hgl hE3.size
          have hstr2 := hstr.mono (base' := W1.heap.size) (by simp)
          obtain ⟨N, hN⟩ : ∃ N, N = L.length := ⟨_, rfl⟩
          rw [← hN] at hLn ⊢
          have HLa := Lib.hid hLa
          have HLu := Lib.hid hLu
          have HLs := Lib.hid hLs
          have HN := Lib.hid hN
          have HM3 := Lib.hid hM3
          have Hstr := Lib.hid hstr2
          have HE3 := Lib.hid (HE.out.trans hE3)
          have hgw : w.heap.size ≤ g := by rw [Hg.out]; exact Nat.le_refl _
          have hwg3 : w.heap.size ≤ w3.heap.size := HE3.out.size
          obtain ⟨W3, hW3e⟩ : ∃ W3, W3 = w3 := ⟨_, rfl⟩
          rw [← hW3e] at HM3 Hstr HE3 hW3 hwg3 ⊢
          clear hLa hLu hLs hN hM3 hstr hstr2 hE3 he3 hrow hsort hlen hperm hW3e hsz
          go_wp2_with fail
          go_loopw [8, 9, 10, 36] (fun v _ _ i wr => ∃ (j : Nat) (A' : Option Addr) (c' : Nat) (us : List Sl) (D : DataW Unit), j ≤ N ∧ i = .int .i64 j ∧ v = .slice A' j c' ∧ Hid (us.length = j ∧ bodies us = L.take j) ∧ Hid (OwnT wr W3.heap.size A' c' us ∧ TxtsM wr W3.heap.size us) ∧ Hid (wr.ownsMap Tryz.prog 9 (elI Unit) g (n + j) D ∧ NumD D L j) ∧ Hid (OwnG shStr 9 wr W1.heap.size AS cS L) ∧ Hid (Ext w wr ∧ W3.heap.size ≤ wr.heap.size)) (fun _ _ _ i _ => N - (intOf i).toNat)
          case atStart => exact ⟨0, none, 0, [], _, Nat.zero_le _, rfl, rfl, ⟨rfl, rfl⟩, ⟨OwnG.nil .., TxtsM.nil ..⟩, ⟨HM3.out, D0of_map _, fun i x hi => absurd hi (by omega)⟩, Hstr.out, HE3.out, Nat.le_refl _⟩
          case round =>
            clear HM3 Hstr HE3
            obtain ⟨j, A', c', us, D, hj, rfl, rfl, HU, HO, HMD, HS, HE⟩ := hrel
            by_cases hlt : j < N
            · obtain ⟨b, x, rfl, _, hbl, hxj, hcx, _⟩ := HS.out.at_ (j := j) (by rw [← HN.out]; exact hlt)
              have hc0 := hcx 0 (.string (sstr x)) rfl
              rw [show j * shStr.sz + 0 = j by show j * 1 + 0 = j; omega] at hc0
              have hxl := HLs.out x (List.mem_of_getElem? hxj)
              have hxu := HLu.out x (List.mem_of_getElem? hxj)
              have Hk := Lib.hid (key_of x (by omega))
              have HND := Lib.hid (HMD.out.2.step HLa.out HLu.out hxj)
              have Htk := Lib.hid (take_nextG L j hxj)
              have Hxu := Lib.hid hxu
              have hx1 : x.length ≤ 1000000 := by omega
              clear hxj hcx hxu
              go_wp2_with (first
                | (at_mapUpdate; refine wpList_mapUpdate_own _ rfl _ _ _ 222 rfl 9 3 lawK Tryz.underlying222 (elI Unit) g (n + j) _ rfl HMD.out.1 (by unfold maxLen; omega) _ _ _ rfl rfl Hk.out _ [] (elI_mk j (by omega)) ?_; intro w5 hown5 hg5; obtain ⟨w6, c6, hcv, hO6, hE6⟩ := conv_back w5 Hxu.out hx1; have Hown5 := Lib.hid hown5; have Hg5 := Lib.hid hg5; have HO6 := Lib.hid hO6; have HE6 := Lib.hid hE6; clear hown5 hg5 hO6 hE6)
                | (at_builtin; refine wpList_pushT (w0 := _) ⟨some ⟨w5.heap.size, 0, none⟩, c6, x⟩ rfl _ _ rfl (((HO.out.1.far Hg5.out hW3).ext HE6.out).ext ((Ext.refl w6).alloc (.cells #[.slice (some ⟨w5.heap.size, 0, none⟩) x.length c6] 22))) j HU.out.1 rfl rfl (heap_alloc_new _ _) (by omega) (Below.refl _ _) (by have := HE.out.2; have := Hg5.out.size; have := HE6.out.size; simp; omega) ?_; intro A7 c7 w7 hown7 hg7 _ _)
                | fail)
              have hX : Ext w6 (w6.alloc (.cells #[.slice (some ⟨w5.heap.size, 0, none⟩) x.length c6] 22)) := (Ext.refl w6).alloc _
              have hOT := ((HO.out.1.far Hg5.out hW3).ext HE6.out).ext hX
              have hg7' := hg7
              rw [← HU.out.1] at hg7'
              have HM7 := Lib.hid (((Hown5.out.kept HE6.out.grownBy' (by simp)).alloc (.cells #[.slice (some ⟨w5.heap.size, 0, none⟩) x.length c6] 22)).kept hg7 (row_above (fun a ha => (HO.out.1.block a ha).1) hW3))
              have HS7 := Lib.hid ((((HS.out.far Hg5.out hgl).ext HE6.out).ext hX).grown hg7' (own_neG (by decide) hOT (((HS.out.far Hg5.out hgl).ext HE6.out).ext hX)))
              have HT7 := Lib.hid ((((HO.out.2.far Hg5.out hW3).ext HE6.out).snoc (s := ⟨some ⟨w5.heap.size, 0, none⟩, c6, x⟩) HO6.out (Nat.le_trans HE.out.2 Hg5.out.size) (fun t ht p hp => (HO.out.2.far Hg5.out hW3).lt t ht p hp)).ext hX |>.grown hOT hg7')
              have HE7 := Lib.hid (show Ext w w7 ∧ W3.heap.size ≤ w7.heap.size from by
                have h5 : Ext w w5 := grownBy_ext HE.out.1 Hg5.out (fun g' hg' => by injection hg' with hg'; omega)
                have h6 := (h5.trans HE6.out).trans hX
                refine ⟨grownBy_ext h6 hg7 (fun g' hg' => ?_), ?_⟩
                · cases hA : A' with
                  | none => rw [hA] at hg'; simp [Value.ownBlock] at hg'
                  | some a =>
                    rw [hA] at hg'
                    simp [Value.ownBlock] at hg'
                    have := (HO.out.1.block a hA).1
                    omega
                · have := HE.out.2; have := Hg5.out.size; have := HE6.out.size; have := hX.size; have := hg7.size; omega)
              have HO7 := Lib.hid hown7
              have HU7 := Lib.hid (show (us ++ [(⟨some ⟨w5.heap.size, 0, none⟩, c6, x⟩ : Sl)]).length = j + 1 ∧ bodies (us ++ [⟨some ⟨w5.heap.size, 0, none⟩, c6, x⟩]) = L.take (j + 1) from ⟨by rw [List.length_append, HU.out.1]; rfl, by rw [Htk.out, ← HU.out.2]; unfold bodies; rw [List.map_append]; rfl⟩)
              clear hOT hg7 hg7' hown7 hX hcv
              go_wp2_with fail
              go_roundw
              case rel => exact ⟨j + 1, A7, c7, _, _, by omega, by go_num, rfl, HU7.out, ⟨HO7.out, HT7.out⟩, ⟨HM7.out, HND.out⟩, HS7.out, HE7.out⟩
              case measure => simp [intOf]; omega
            · obtain rfl : j = N := by omega
              have hLt : L.take j = L := List.take_of_length_le (by rw [← HN.out]; exact Nat.le_refl _)
              have hub := HU.out.2
              rw [hLt] at hub
              obtain ⟨vals, hvals⟩ : ∃ vals, vals = (bodies ss).map (fun s => skN s L) := ⟨_, rfl⟩
              have HR2 := Lib.hid (show idxR (bodies ss) = (bodies us, vals, 0) by rw [HR.out, hub, hvals])
              have hvl : vals.length = n := by rw [hvals, List.length_map, Hbl.out]
              have Hvl := Lib.hid hvl
              have Hvals := Lib.hid hvals
              obtain ⟨W5, hW5⟩ : ∃ W5, W5 = wr := ⟨_, rfl⟩
              rw [← hW5] at HO HMD HE HS ⊢
              have HlU := Lib.hid HU.out.1
              clear hLt hub hvals hvl hW5
              go_wp2_with (first | (at_make; refine wpList_mk .i64 3 rfl _ _ 140 rfl 8 Tryz.underlying140 Tryz.infoInt _ _ n rfl rfl rfl rfl (by omega) (by omega) ?_; intro w7 hown7 he7) | fail)
              have h0 : Own .i64 3 w7 W5.heap.size (some ⟨W5.heap.size, 0, none⟩) n (vals.take 0 ++ List.replicate (n - 0) 0) := hown7
              have H0 := Lib.hid h0
              have He7 := Lib.hid he7
              clear hown7 h0 he7
              go_loopw [12, 13, 55] (fun _ _ i wr => ∃ q : Nat, q ≤ n ∧ i = .int .i64 q ∧ Hid (Own .i64 3 wr W5.heap.size (some ⟨W5.heap.size, 0, none⟩) n (vals.take q ++ List.replicate (n - q) 0)) ∧ Hid (Ext W5 wr)) (fun _ _ i _ => n - (intOf i).toNat)
              case atStart => exact ⟨0, Nat.zero_le _, rfl, H0.out, He7.out⟩
              case round =>
                clear H0 He7
                obtain ⟨q, hq, rfl, HNs, HE5⟩ := hrel
                by_cases hlt2 : q < n
                · obtain ⟨b, o, s, rfl, hf, hc, hs⟩ := (Hx.out.ext (HE.out.1.trans HE5.out)).at_ hlt2
                  have hbj := bodies_at hf
                  have hrd := hs.rd
                  have hln := hs.len
                  have hmem : s.body ∈ L := by rw [HLe.out]; exact dents_mem.2 (List.mem_of_getElem? hbj)
                  have hat0 := HMD.out.2.2 _ s.body (by rw [HN.out]; exact (List.getElem?_eq_some_iff.1 (skN_at HLa.out hmem)).1) (skN_at HLa.out hmem) (.lit (.int .i64 0))
                  have hvq : vals[q]? = some (skN s.body L) := by rw [Hvals.out, List.getElem?_map, hbj]; rfl
                  obtain ⟨f, hfv⟩ : ∃ f, f = skN s.body L := ⟨_, rfl⟩
                  rw [← hfv] at hat0 hvq
                  obtain ⟨sA, sc, body⟩ := s
                  simp only at hc hrd hln hat0
                  have kst := conv_str (c := sc) hrd
                  have Hk := Lib.hid (key_of body hln)
                  have Hat := Lib.hid hat0
                  have HMq := Lib.hid (HMD.out.1.kept HE5.out.grownBy' (by simp))
                  obtain ⟨bl, hbl⟩ : ∃ bl, bl = body.length := ⟨_, rfl⟩
                  rw [← hbl] at hc kst
                  have hlen7 : (vals.take q ++ List.replicate (n - q) 0).length = n := by rw [List.length_append, List.length_take, List.length_replicate, Hvl.out]; omega
                  obtain ⟨b2, hb2, hbase, hblt, hcell, hfro, hset⟩ := HNs.out.at_ (j := q) (by rw [hlen7]; exact hlt2)
                  injection hb2 with hb2
                  injection hb2 with hb2
                  subst hb2
                  obtain ⟨hs1, hs2⟩ := hset f
                  have hstep : (vals.take q ++ List.replicate (n - q) 0).set q f = vals.take (q + 1) ++ List.replicate (n - (q + 1)) 0 := by
                    have hlq : (vals.take q).length = q := by rw [List.length_take, Hvl.out]; omega
                    rw [take_nextG vals q hvq, List.set_append_right _ _ (by omega), hlq, Nat.sub_self, show n - q = (n - (q + 1)) + 1 by omega, List.replicate_succ, List.set_cons_zero, List.append_assoc]
                    rfl
                  rw [hstep] at hs1
                  have Hs1 := Lib.hid hs1
                  have HE6 := Lib.hid (HE5.out.setCell (p := ⟨W5.heap.size, q, none⟩) (Nat.le_refl _) (.int .i64 (f : Int)))
                  obtain ⟨old, hold⟩ : ∃ v, v = Value.int .i64 (((vals.take q ++ List.replicate (n - q) 0).getD q 0 : Nat) : Int) := ⟨_, rfl⟩
                  rw [← hold] at hcell
                  clear hold hs1 hs2 hset hstep hlen7 hf hbj hrd hln hs hmem hat0 hvq hfv hbl hbase
                  go_wp2_with (first
                    | (at_lookup; refine wpList_lookup_own_int _ rfl _ _ 222 rfl 9 3 .i64 lawK Tryz.underlying222 Tryz.underlying3 (zero_int _) g _ _ rfl HMq.out _ _ rfl Hk.out ?_; intro cc hat hwc; obtain rfl : cc = (f : Int) := (by have h9 := hat.symm.trans Hat.out; injection h9 with h9; injection h9); clear hat hwc)
                    | fail)
                  go_roundw
                  case rel => exact ⟨q + 1, by omega, by go_num, Hs1.out, HE6.out⟩
                  case measure => simp [intOf]; omega
                · obtain rfl : n = q := by omega
                  have hN2 := HNs.out
                  rw [Nat.sub_self, List.replicate_zero, List.append_nil, List.take_of_length_le (by rw [Hvl.out]; exact Nat.le_refl _)] at hN2
                  have HNf := Lib.hid hN2
                  clear hN2
                  go_wp2_with fail
                  go_ret3
                  exact IdxPost.good _ HR2.out HlU.out Hvl.out ((HO.out.1.mono hwg3).ext HE5.out) ((HO.out.2.mono hwg3).ext HE5.out) (HNf.out.mono HE.out.1.size) (HE.out.1.trans HE5.out)
open Go.RowKit
theorem packB_u8 (wd : Nat) (vs : List Nat) : U8 (packB wd vs) := U8_wd.2 (upk_wd 8 _ _)
theorem unpE_bounds {N len : Nat} {wd cnt : Int} (h : unpE N len wd cnt = 0) : 0 ≤ wd ∧ wd ≤ 64 ∧ 0 ≤ cnt ∧ cnt ≤ 4096 ∧ wd * cnt ≤ 8 * (len : Int) ∧ 8 * (len : Int) - wd * cnt < 8 ∧ N < 2 ^ (wd * cnt).toNat := by
  unfold unpE at h
  by_cases h1 : wd < 0 ∨ 64 < wd ∨ cnt < 0 ∨ 4096 < cnt
  · rw [if_pos h1] at h; omega
  · rw [if_neg h1] at h
    by_cases h2 : 8 * (len : Int) < wd * cnt
    · rw [if_pos h2] at h; omega
    · rw [if_neg h2] at h
      by_cases h3 : 8 ≤ 8 * (len : Int) - wd * cnt
      · rw [if_pos h3] at h; omega
      · rw [if_neg h3] at h
        by_cases h4 : 2 ^ (wd * cnt).toNat ≤ N
        · rw [if_pos h4] at h; omega
        · exact ⟨by omega, by omega, by omega, by omega, by omega, by omega, by omega⟩
theorem unp_pack {wd : Nat} {vs : List Nat} (hw : wd ≤ 64) (hn : vs.length ≤ 4096) (hv : Wd wd vs) :
    unpE (pk 8 (packB wd vs)) (packB wd vs).length (wd : Int) (vs.length : Int) = 0 ∧ unpL (pk 8 (packB wd vs)) (packB wd vs).length (wd : Int) (vs.length : Int) = vs ∧
      ∀ N, unpE N ((packB wd vs).length + 1) (wd : Int) (vs.length : Int) = 3 := by
  have hlt := pk_lt hv
  have hlen : (packB wd vs).length = (wd * vs.length + 7) / 8 := upk_len ..
  have hpk : pk 8 (packB wd vs) = pk wd vs := by
    unfold packB
    rw [pk_upk, Nat.mod_eq_of_lt]
    exact Nat.lt_of_lt_of_le hlt (Nat.pow_le_pow_right (by omega) (by omega))
  have hm : (wd : Int) * (vs.length : Int) = ((wd * vs.length : Nat) : Int) := by norm_cast
  have h0 : unpE (pk wd vs) (packB wd vs).length (wd : Int) (vs.length : Int) = 0 := by
    refine unpE_ok (by omega) (by rw [hm, hlen]; omega) (by rw [hm, hlen]; omega) ?_
    rw [hm, Int.toNat_natCast]
    omega
  rw [hpk]
  refine ⟨h0, ?_, fun N => ?_⟩
  · rw [unp_ok h0, Int.toNat_natCast, Int.toNat_natCast, upk_pk hv]
  · exact unpE_trail (by omega) (by rw [hm, hlen]; omega) (by rw [hm, hlen]; omega)
theorem pack_unp {bs : List Nat} {wd n : Nat} (hw : wd ≤ 64) (hn : n ≤ 4096) (hu : U8 bs) (h : unpE (pk 8 bs) bs.length (wd : Int) (n : Int) = 0) :
    packE (wd : Int) (upk wd n (pk 8 bs)) = 0 ∧ packL (wd : Int) (upk wd n (pk 8 bs)) = bs := by
  obtain ⟨_, _, _, _, h5, h6, h7⟩ := unpE_bounds h
  have hm : (wd : Int) * (n : Int) = ((wd * n : Nat) : Int) := by norm_cast
  rw [hm] at h5 h6 h7
  rw [Int.toNat_natCast] at h7
  have hl := upk_len wd n (pk 8 bs)
  have hwd := wdt_le.2 (upk_wd wd n (pk 8 bs))
  have hE : packE (wd : Int) (upk wd n (pk 8 bs)) = 0 := packE_ok (by omega) (by omega) (by omega)
  refine ⟨hE, ?_⟩
  unfold packL
  rw [if_pos hE, Int.toNat_natCast]
  unfold packB
  rw [hl, pk_upk, Nat.mod_eq_of_lt h7, show (wd * n + 7) / 8 = bs.length from by omega]
  exact upk_pk (U8_wd.1 hu)
end Go.Proofs.YthibbgmicmfkfaaGreat
