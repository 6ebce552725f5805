/-
  Layer 10: the document's Index.
-/
import Derived.Test.YtkmnhapeohlooaaM10
import Derived.Test.YtkmnhapeohlooaaTX
import Derived.Test.YtkmnhapeohlooaaE5c
namespace Go.Proofs.Ytkmnhapeohlooaa
open Go.RowKit

set_option maxHeartbeats 400000 in
theorem place10_any (A : Option Addr) (n c : Nat) (ts : List Sl) (A2 : Option Addr) (n2 c2 : Nat) (t : List Nat) (w : World) (hx : RdL w A n ts) (hn : n ≤ 1000000) (hs : ∀ s ∈ ts, Rd .u8 w s.A s.body.length s.body ∧ s.body.length ≤ 140737488355328) (ha : Asc (bodies ts))
    (hy : Rd .u8 w A2 n2 t) (hn2 : n2 ≤ 140737488355328) :
    Calls Try.prog 77 #[.slice A n c, .slice A2 n2 c2] w fun e w' => e = .returned (.int .i64 (skN t (bodies ts))) ∧ ∃ q, w' = w.drewN q := by
  have Hl := Lib.hid hx.1
  have hk := skN_le t (bodies ts)
  rw [bodies_len, Hl.out] at hk
  obtain ⟨k, hkk⟩ : ∃ k, k = skN t (bodies ts) := ⟨_, rfl⟩
  rw [← hkk] at hk ⊢
  have Hk := Lib.hid hkk
  have Ha := Lib.hid ha
  have Hs := Lib.hid hs
  have Hy := Lib.hid hy
  clear hkk ha hs hy
  go_enter Try.func77, Try.ntmps77
  go_wp2
  go_loopw [5, 6, 7] (fun lo hi _ wr => ∃ a b q : Nat, a ≤ k ∧ k ≤ b ∧ b ≤ n ∧ lo = .int .i64 a ∧ hi = .int .i64 b ∧ wr = w.drewN q) (fun lo hi _ _ => (intOf hi).toNat - (intOf lo).toNat)
  case atStart => exact ⟨0, n, 0, Nat.zero_le _, hk, Nat.le_refl _, rfl, rfl, rfl⟩
  case round =>
    obtain ⟨a, b, q, ha, hb, hbn, rfl, rfl, rfl⟩ := hrel
    by_cases hlt : a < b
    · obtain ⟨m, hm⟩ : ∃ m, m = (a + b) / 2 := ⟨_, rfl⟩
      have hma : a ≤ m := by omega
      have hmb : m < b := by omega
      have hmi : ((a : Int) + (b : Int)) / 2 = (m : Int) := by omega
      have hmt : Int.tdiv ((a : Int) + (b : Int)) 2 = (m : Int) := by rw [Int.tdiv_eq_ediv_of_nonneg (by omega)]; exact hmi
      obtain ⟨bb, o, s, rfl, hf, hc⟩ := hx.at_ (j := m) (by omega)
      have hsb := bodies_at hf
      obtain ⟨hrs, hls⟩ := Hs.out s (List.mem_of_getElem? hf)
      have h1 : m < k → ordT s.body t < 0 := fun h => skN_lt (by rw [← Hk.out]; exact h) hsb
      have h2 : k ≤ m → 0 ≤ ordT s.body t := fun h => skN_ge Ha.out (by rw [← Hk.out]; exact h) hsb
      have HC := Lib.hid (fun (W : World) (hW : Ext w W) => order_any s.A A2 s.body.length s.c n2 c2 s.body t W (hrs.ext hW) (Hy.out.ext hW) hls hn2)
      obtain ⟨sA, sc, body⟩ := s
      simp only at hc h1 h2 HC
      clear hf hsb hrs hls
      obtain ⟨bl, hbl⟩ : ∃ bl, bl = body.length := ⟨_, rfl⟩
      rw [← hbl] at hc HC
      clear hbl
      obtain ⟨r, hr⟩ : ∃ r, r = ordT body t := ⟨_, rfl⟩
      rw [← hr] at HC h1 h2
      clear hr hm
      by_cases hneg : r < 0
      · have d : decide (r < 0) = true := decide_eq_true hneg
        have hmk : m < k := by
          rcases Nat.lt_or_ge m k with h | h
          · exact h
          · have := h2 h; omega
        clear h1 h2
        go_wp2_with fail
        refine (HC.out _ (Ext.of_drewN _ q)).mono ?_
        rintro e w2 ⟨rfl, q2, rfl⟩
        go_wp2_with fail
        go_roundw
        case rel => exact ⟨m + 1, b, _, by omega, hb, hbn, by go_num, rfl, by first | rfl | exact World.drewN_drewN .. | fail⟩
        case measure => simp [intOf]; omega
      · have d : decide (r < 0) = false := decide_eq_false hneg
        have hmk : k ≤ m := by
          rcases Nat.lt_or_ge m k with h | h
          · exact absurd (h1 h) hneg
          · exact h
        clear h1 h2
        go_wp2_with fail
        refine (HC.out _ (Ext.of_drewN _ q)).mono ?_
        rintro e w2 ⟨rfl, q2, rfl⟩
        go_wp2_with fail
        go_roundw
        case rel => exact ⟨a, m, _, ha, hmk, by omega, rfl, rfl, by first | rfl | exact World.drewN_drewN .. | fail⟩
        case measure => simp [intOf]; omega
    · obtain rfl : a = k := by omega
      obtain rfl : b = a := by omega
      go_wp2
      go_ret
      exact ⟨rfl, q, rfl⟩

/-- What 'with' and Index give of entries: texts of the call's own, listed. -/
structure Ents (w : World) (base : Nat) (A : Option Addr) (n : Nat) (us : List Sl) : Prop where
  rd : RdL w A n us
  own : ∀ s ∈ us, Own .u8 5 w base s.A s.c s.body
  row : ∀ q, A = some q → base ≤ q.block
theorem Ents.ext {w w' : World} {base n : Nat} {A : Option Addr} {us : List Sl} (h : Ents w base A n us) (he : Ext w w') : Ents w' base A n us := ⟨h.rd.ext he, fun s hs => (h.own s hs).ext he, h.row⟩

set_option maxHeartbeats 1600000 in
theorem with_any (A : Option Addr) (n c base : Nat) (ts : List Sl) (A2 : Option Addr) (n2 c2 : Nat) (t : List Nat) (w : World) (hx : Ents w base A n ts) (hb : base ≤ w.heap.size) (hn : n ≤ 4096) (hs : ∀ x ∈ bodies ts, x.length ≤ 200) (ha : Asc (bodies ts))
    (hy : Rd .u8 w A2 n2 t) (hn2 : n2 ≤ 200) :
    Calls Try.prog 76 #[.slice A n c, .slice A2 n2 c2] w fun e w' => ∃ A' c' us, e = .returned (.slice A' us.length c') ∧ bodies us = insL (bodies ts) t ∧ Ents w' base A' us.length us ∧ Ext w w' := by
  have Hl := Lib.hid hx.rd.1
  have hk := skN_le t (bodies ts)
  rw [bodies_len, Hl.out] at hk
  have hsr : ∀ s ∈ ts, Rd .u8 w s.A s.body.length s.body ∧ s.body.length ≤ 140737488355328 := fun s hm => ⟨(hx.own s hm).rd, by have := hs s.body (List.mem_map.2 ⟨s, hm, rfl⟩); omega⟩
  have HPl := Lib.hid (place10_any A n c ts A2 n2 c2 t w hx.rd (by omega) hsr ha hy (by omega))
  obtain ⟨k, hkk⟩ : ∃ k, k = skN t (bodies ts) := ⟨_, rfl⟩
  have hyes : (bodies ts)[k]? = some t → insL (bodies ts) t = bodies ts := fun h => insL_yes (by rw [← hkk]; exact h)
  have hno : ¬ (bodies ts)[k]? = some t → insL (bodies ts) t = (bodies ts).take k ++ t :: (bodies ts).drop k := fun h => by rw [insL_no (by rw [← hkk]; exact h), ← hkk]
  rw [← hkk] at hk HPl
  obtain ⟨R, hR⟩ : ∃ R, R = insL (bodies ts) t := ⟨_, rfl⟩
  rw [← hR] at hyes hno ⊢
  have Hsr := Lib.hid hsr
  have Hy := Lib.hid hy
  have Hx := Lib.hid hx
  clear hkk hs ha hsr hR hx hy
  by_cases hlt : k < n
  · obtain ⟨b, o, s, rfl, hf, hc⟩ := Hx.out.rd.at_ hlt
    have hsb := bodies_at hf
    obtain ⟨hrs, hls⟩ := Hsr.out s (List.mem_of_getElem? hf)
    have HC := Lib.hid (fun (W : World) (hW : Ext w W) => same_any s.A A2 s.body.length s.c n2 c2 s.body t W (hrs.ext hW) (Hy.out.ext hW) (by omega) (by omega))
    obtain ⟨sA, sc, body⟩ := s
    simp only at hc hls HC hsb
    obtain ⟨bl, hbl⟩ : ∃ bl, bl = body.length := ⟨_, rfl⟩
    rw [← hbl] at hc HC
    clear hbl hls hrs
    by_cases heq : body = t
    · have hbs := hyes (by rw [hsb, heq])
      have hd : decide (body = t) = true := decide_eq_true heq
      rw [hd] at HC
      have Hbs := Lib.hid hbs
      clear hyes hno hbs hd heq hsb hf
      go_enter Try.func76, Try.ntmps76
      go_wp2_with fail
      refine HPl.out.mono ?_
      rintro e w1 ⟨rfl, q1, rfl⟩
      go_wp2_with fail
      refine (HC.out _ (Ext.of_drewN _ _)).mono ?_
      rintro e w2 ⟨rfl, q2, rfl⟩
      go_wp2_with fail
      go_ret
      exact ⟨some ⟨b, o, none⟩, c, ts, by rw [Hl.out]; rfl, Hbs.out.symm, by rw [Hl.out]; exact Hx.out.ext (Ext.of_drewN _ _), Ext.of_drewN _ _⟩
    · have hbs := hno (by rw [hsb]; intro h; injection h with h; exact heq h)
      have hd : decide (body = t) = false := decide_eq_false heq
      rw [hd] at HC
      have Hbs := Lib.hid hbs
      clear hyes hno hbs hd heq hsb hf
      go_enter Try.func76, Try.ntmps76
      go_wp2_with fail
      refine HPl.out.mono ?_
      rintro e w1 ⟨rfl, q1, rfl⟩
      go_wp2_with fail
      refine (HC.out _ (Ext.of_drewN _ _)).mono ?_
      rintro e w2 ⟨rfl, q2, rfl⟩
      have hE0 : Ext w ((w.drewN q1).drewN q2) := (Ext.of_drewN _ _).drewN _
      obtain ⟨W0, hW0⟩ : ∃ W0, W0 = (w.drewN q1).drewN q2 := ⟨_, rfl⟩
      rw [← hW0] at hE0 ⊢
      have Hy2 := Lib.hid (Hy.out.ext hE0)
      have Hx2 := Lib.hid (Hx.out.ext hE0)
      have hbW : base ≤ W0.heap.size := Nat.le_trans hb hE0.size
      clear hW0 HC
      go_wp2_with fail
      go_loopw [6, 7] (fun v i wr => ∃ (j : Nat) (A' : Option Addr) (c' : Nat), j ≤ k ∧ i = .int .i64 j ∧ v = .slice A' j c' ∧ Hid (OwnT wr W0.heap.size A' c' (ts.take j)) ∧ Hid (Ext W0 wr)) (fun _ i _ => k - (intOf i).toNat)
      case atStart => exact ⟨0, _, _, Nat.zero_le _, rfl, rfl, OwnG.made _ _ _ (Nat.le_refl _), (Ext.refl _).alloc _⟩
      case round =>
        obtain ⟨j, A', c', hj, rfl, rfl, HO, HE⟩ := hrel
        by_cases hjk : j < k
        · obtain ⟨b2, o2, s2, e2, hf2, hc2⟩ := (Hx2.out.rd.ext HE.out).at_ (j := j) (by omega)
          injection e2 with e2; injection e2 with e2a e2b; subst e2a e2b
          have htl : (ts.take j).length = j := by rw [List.length_take, Hl.out]; omega
          have hnx := take_nextG ts j hf2
          obtain ⟨sA2, sc2, body2⟩ := s2
          simp only at hc2 hnx
          have Htl := Lib.hid htl
          have Hnx := Lib.hid hnx
          obtain ⟨bl2, hbl2⟩ : ∃ bl2, bl2 = body2.length := ⟨_, rfl⟩
          rw [← hbl2] at hc2
          have Hbl2 := Lib.hid hbl2
          clear hf2 htl hnx hbl2
          go_wp2_with (at_builtin; refine wpList_pushT (w0 := W0) ⟨sA2, sc2, body2⟩ rfl _ _ rfl (HO.out.ext ((Ext.refl _).alloc _)) j Htl.out rfl rfl ((heap_alloc_new _ _).trans (by rw [Hbl2.out])) (by omega) (Ext.trans HE.out ((Ext.refl _).alloc _)) (by have := HE.out.size; simp; omega) ?_; intro A4 c4 w4 hown4 _ hb4 _)
          rw [← Hnx.out] at hown4
          have Hown4 := Lib.hid hown4
          have Hb4 := Lib.hid hb4
          clear hown4 hb4
          go_wp2_with fail
          go_roundw
          case rel => exact ⟨j + 1, A4, c4, by omega, by go_num, rfl, Hown4.out, Hb4.out⟩
          case measure => simp [intOf]; omega
        · obtain rfl : j = k := by omega
          go_wp2_with fail
          refine (copy_any _ _ _ _ _ (Hy2.out.ext HE.out) (by omega)).mono ?_
          rintro e w5 ⟨A5, c5, rfl, hown5, he5⟩
          have htl : (ts.take j).length = j := by rw [List.length_take, Hl.out]; omega
          have hyl := Hy.out.len
          have Htl := Lib.hid htl
          have Hyl := Lib.hid hyl
          clear htl hyl
          go_wp2_with (at_builtin; refine wpList_pushT (w0 := W0) ⟨A5, c5, t⟩ rfl _ _ rfl ((HO.out.ext he5).ext ((Ext.refl _).alloc _)) j Htl.out rfl rfl ((heap_alloc_new _ _).trans (by rw [Hyl.out])) (by omega) (Ext.trans (HE.out.trans he5) ((Ext.refl _).alloc _)) (by have := (HE.out.trans he5).size; simp; omega) ?_; intro A6 c6 w6 hown6 hg6 hb6 _)
          have hcop : Own .u8 5 w6 W0.heap.size A5 c5 t := (((hown5.mono HE.out.size).ext ((Ext.refl _).alloc _)).grown hg6 (by
            have := own_neT ((HO.out.ext he5).ext ((Ext.refl w5).alloc (.cells #[.slice A5 n2 c5] 52))) (hown5.ext ((Ext.refl w5).alloc (.cells #[.slice A5 n2 c5] 52)))
            rw [Htl.out] at this
            exact this))
          have Hown6 := Lib.hid hown6
          have Hcop := Lib.hid hcop
          have Hb6 := Lib.hid hb6
          have h60 : OwnT w6 W0.heap.size A6 c6 (ts.take j ++ (⟨A5, c5, t⟩ : Sl) :: (ts.drop j).take 0) := hown6
          have H60 := Lib.hid h60
          clear hown5 hown6 hcop hb6 hg6 h60
          go_wp2_with fail
          go_loopw [6, 8] (fun v i wr => ∃ (q : Nat) (A' : Option Addr) (c' : Nat), j ≤ q ∧ q ≤ n ∧ i = .int .i64 q ∧ v = .slice A' (q + 1 : Nat) c' ∧ Hid (OwnT wr W0.heap.size A' c' (ts.take j ++ (⟨A5, c5, t⟩ : Sl) :: (ts.drop j).take (q - j))) ∧ Hid (Own .u8 5 wr W0.heap.size A5 c5 t) ∧ Hid (Ext W0 wr)) (fun _ i _ => n - (intOf i).toNat)
          case atStart => exact ⟨j, A6, c6, Nat.le_refl _, by omega, rfl, rfl, by rw [Nat.sub_self]; exact H60.out, Hcop.out, Hb6.out⟩
          case round =>
            clear H60 Hown6 Hcop Hb6 HO HE
            obtain ⟨q, A', c', hjq, hqn, rfl, rfl, HO, HC2, HE⟩ := hrel
            by_cases hqn2 : q < n
            · obtain ⟨b2, o2, s2, e2, hf2, hc2⟩ := (Hx2.out.rd.ext HE.out).at_ (j := q) (by omega)
              injection e2 with e2; injection e2 with e2a e2b; subst e2a e2b
              have htl : (ts.take j ++ (⟨A5, c5, t⟩ : Sl) :: (ts.drop j).take (q - j)).length = q + 1 := by rw [List.length_append, List.length_cons, List.length_take, List.length_take, List.length_drop, Hl.out]; omega
              have hnx : ts.take j ++ (⟨A5, c5, t⟩ : Sl) :: (ts.drop j).take (q + 1 - j) = (ts.take j ++ (⟨A5, c5, t⟩ : Sl) :: (ts.drop j).take (q - j)) ++ [s2] := by
                rw [show q + 1 - j = (q - j) + 1 by omega, take_nextG (ts.drop j) (q - j) (x := s2) (by rw [List.getElem?_drop, ← hf2]; congr 1; omega)]
                simp
              obtain ⟨sA2, sc2, body2⟩ := s2
              simp only at hc2 hnx
              have Htl2 := Lib.hid htl
              have Hnx := Lib.hid hnx
              obtain ⟨bl2, hbl2⟩ : ∃ bl2, bl2 = body2.length := ⟨_, rfl⟩
              rw [← hbl2] at hc2
              have Hbl2 := Lib.hid hbl2
              clear hf2 htl hnx hbl2
              go_wp2_with (at_builtin; refine wpList_pushT (w0 := W0) ⟨sA2, sc2, body2⟩ rfl _ _ rfl (HO.out.ext ((Ext.refl _).alloc _)) (q + 1) Htl2.out rfl rfl ((heap_alloc_new _ _).trans (by rw [Hbl2.out])) (by omega) (Ext.trans HE.out ((Ext.refl _).alloc _)) (by have := HE.out.size; simp; omega) ?_; intro A4 c4 w4 hown4 hg4 hb4 _)
              rw [← Hnx.out] at hown4
              have hcop : Own .u8 5 w4 W0.heap.size A5 c5 t := (HC2.out.ext ((Ext.refl _).alloc _)).grown hg4 (by
                have := own_neT (HO.out.ext ((Ext.refl wr).alloc (.cells #[.slice sA2 bl2 sc2] 52))) (HC2.out.ext ((Ext.refl wr).alloc (.cells #[.slice sA2 bl2 sc2] 52)))
                rw [Htl2.out] at this
                exact this)
              have Hown4 := Lib.hid hown4
              have Hcop := Lib.hid hcop
              have Hb4 := Lib.hid hb4
              clear hown4 hb4 hg4 hcop
              go_wp2_with fail
              go_roundw
              case rel => exact ⟨q + 1, A4, c4, by omega, by omega, by go_num, by go_num, Hown4.out, Hcop.out, Hb4.out⟩
              case measure => simp [intOf]; omega
            · obtain rfl : n = q := by omega
              have hO := HO.out
              rw [List.take_of_length_le (show (ts.drop j).length ≤ n - j by rw [List.length_drop, Hl.out]; exact Nat.le_refl _)] at hO
              have hlen : (ts.take j ++ (⟨A5, c5, t⟩ : Sl) :: ts.drop j).length = n + 1 := by rw [List.length_append, List.length_cons, List.length_take, List.length_drop, Hl.out]; omega
              have HOf := Lib.hid hO
              have Hlen := Lib.hid hlen
              clear hO hlen
              go_wp2_with fail
              go_ret
              refine ⟨A', c', ts.take j ++ (⟨A5, c5, t⟩ : Sl) :: ts.drop j, by rw [Hlen.out]; rfl, ?_, ⟨HOf.out.rdL, ?_, fun z hz => Nat.le_trans hbW (HOf.out.block z hz).1⟩, hE0.trans HE.out⟩
              · rw [Hbs.out]
                unfold bodies
                rw [List.map_append, List.map_cons, List.map_take, List.map_drop]
              · intro z hz
                rcases List.mem_append.1 hz with h | h
                · exact (Hx2.out.own z (List.mem_of_mem_take h)).ext HE.out
                · rcases List.mem_cons.1 h with rfl | h
                  · exact HC2.out.mono hbW
                  · exact (Hx2.out.own z (List.mem_of_mem_drop h)).ext HE.out
  · obtain rfl : k = n := by omega
    have hbs := hno (by rw [List.getElem?_eq_none (by rw [bodies_len, Hl.out]; exact Nat.le_refl _)]; intro h; cases h)
    have Hbs := Lib.hid hbs
    clear hyes hno hbs
    go_enter Try.func76, Try.ntmps76
    go_wp2_with fail
    refine HPl.out.mono ?_
    rintro e w1 ⟨rfl, q1, rfl⟩
    have hE0 : Ext w (w.drewN q1) := Ext.of_drewN _ _
    obtain ⟨W0, hW0⟩ : ∃ W0, W0 = w.drewN q1 := ⟨_, rfl⟩
    rw [← hW0] at hE0 ⊢
    have Hy2 := Lib.hid (Hy.out.ext hE0)
    have Hx2 := Lib.hid (Hx.out.ext hE0)
    have hbW : base ≤ W0.heap.size := Nat.le_trans hb hE0.size
    clear hW0
    go_wp2_with fail
    go_loopw [6, 7] (fun v i wr => ∃ (j : Nat) (A' : Option Addr) (c' : Nat), j ≤ k ∧ i = .int .i64 j ∧ v = .slice A' j c' ∧ Hid (OwnT wr W0.heap.size A' c' (ts.take j)) ∧ Hid (Ext W0 wr)) (fun _ i _ => k - (intOf i).toNat)
    case atStart => exact ⟨0, _, _, Nat.zero_le _, rfl, rfl, OwnG.made _ _ _ (Nat.le_refl _), (Ext.refl _).alloc _⟩
    case round =>
      obtain ⟨j, A', c', hj, rfl, rfl, HO, HE⟩ := hrel
      by_cases hjk : j < k
      · obtain ⟨b2, o2, s2, e2, hf2, hc2⟩ := (Hx2.out.rd.ext HE.out).at_ (j := j) (by omega)
        subst e2
        have htl : (ts.take j).length = j := by rw [List.length_take, Hl.out]; omega
        have hnx := take_nextG ts j hf2
        obtain ⟨sA2, sc2, body2⟩ := s2
        simp only at hc2 hnx
        have Htl := Lib.hid htl
        have Hnx := Lib.hid hnx
        obtain ⟨bl2, hbl2⟩ : ∃ bl2, bl2 = body2.length := ⟨_, rfl⟩
        rw [← hbl2] at hc2
        have Hbl2 := Lib.hid hbl2
        clear hf2 htl hnx hbl2
        go_wp2_with (at_builtin; refine wpList_pushT (w0 := W0) ⟨sA2, sc2, body2⟩ rfl _ _ rfl (HO.out.ext ((Ext.refl _).alloc _)) j Htl.out rfl rfl ((heap_alloc_new _ _).trans (by rw [Hbl2.out])) (by omega) (Ext.trans HE.out ((Ext.refl _).alloc _)) (by have := HE.out.size; simp; omega) ?_; intro A4 c4 w4 hown4 _ hb4 _)
        rw [← Hnx.out] at hown4
        have Hown4 := Lib.hid hown4
        have Hb4 := Lib.hid hb4
        clear hown4 hb4
        go_wp2_with fail
        go_roundw
        case rel => exact ⟨j + 1, A4, c4, by omega, by go_num, rfl, Hown4.out, Hb4.out⟩
        case measure => simp [intOf]; omega
      · obtain rfl : k = j := by omega
        go_wp2_with fail
        refine (copy_any _ _ _ _ _ (Hy2.out.ext HE.out) (by omega)).mono ?_
        rintro e w5 ⟨A5, c5, rfl, hown5, he5⟩
        have htl : (ts.take k).length = k := by rw [List.length_take, Hl.out]; omega
        have hyl := Hy.out.len
        have Htl := Lib.hid htl
        have Hyl := Lib.hid hyl
        clear htl hyl
        go_wp2_with (at_builtin; refine wpList_pushT (w0 := W0) ⟨A5, c5, t⟩ rfl _ _ rfl ((HO.out.ext he5).ext ((Ext.refl _).alloc _)) k Htl.out rfl rfl ((heap_alloc_new _ _).trans (by rw [Hyl.out])) (by omega) (Ext.trans (HE.out.trans he5) ((Ext.refl _).alloc _)) (by have := (HE.out.trans he5).size; simp; omega) ?_; intro A6 c6 w6 hown6 hg6 hb6 _)
        have hcop : Own .u8 5 w6 W0.heap.size A5 c5 t := (((hown5.mono HE.out.size).ext ((Ext.refl _).alloc _)).grown hg6 (by
          have := own_neT ((HO.out.ext he5).ext ((Ext.refl w5).alloc (.cells #[.slice A5 n2 c5] 52))) (hown5.ext ((Ext.refl w5).alloc (.cells #[.slice A5 n2 c5] 52)))
          rw [Htl.out] at this
          exact this))
        have Hown6 := Lib.hid hown6
        have Hcop := Lib.hid hcop
        have Hb6 := Lib.hid hb6
        have h60 : OwnT w6 W0.heap.size A6 c6 (ts.take k ++ (⟨A5, c5, t⟩ : Sl) :: (ts.drop k).take 0) := hown6
        have H60 := Lib.hid h60
        clear hown5 hown6 hcop hb6 hg6 h60
        go_wp2_with fail
        go_loopw [6, 8] (fun v i wr => ∃ (q : Nat) (A' : Option Addr) (c' : Nat), k ≤ q ∧ q ≤ k ∧ i = .int .i64 q ∧ v = .slice A' (q + 1 : Nat) c' ∧ Hid (OwnT wr W0.heap.size A' c' (ts.take k ++ (⟨A5, c5, t⟩ : Sl) :: (ts.drop k).take (q - k))) ∧ Hid (Own .u8 5 wr W0.heap.size A5 c5 t) ∧ Hid (Ext W0 wr)) (fun _ i _ => k - (intOf i).toNat)
        case atStart => exact ⟨k, A6, c6, Nat.le_refl _, by omega, rfl, rfl, by rw [Nat.sub_self]; exact H60.out, Hcop.out, Hb6.out⟩
        case round =>
          clear H60 Hown6 Hcop Hb6 HO HE
          obtain ⟨q, A', c', hjq, hqn, rfl, rfl, HO, HC2, HE⟩ := hrel
          by_cases hqn2 : q < k
          · exact absurd hqn2 (by omega)
          · obtain rfl : k = q := by omega
            have hO := HO.out
            rw [List.take_of_length_le (show (ts.drop k).length ≤ k - k by rw [List.length_drop, Hl.out]; exact Nat.le_refl _)] at hO
            have hlen : (ts.take k ++ (⟨A5, c5, t⟩ : Sl) :: ts.drop k).length = k + 1 := by rw [List.length_append, List.length_cons, List.length_take, List.length_drop, Hl.out]; omega
            have HOf := Lib.hid hO
            have Hlen := Lib.hid hlen
            clear hO hlen
            go_wp2_with fail
            go_ret
            refine ⟨A', c', ts.take k ++ (⟨A5, c5, t⟩ : Sl) :: ts.drop k, by rw [Hlen.out]; rfl, ?_, ⟨HOf.out.rdL, ?_, fun z hz => Nat.le_trans hbW (HOf.out.block z hz).1⟩, hE0.trans HE.out⟩
            · rw [Hbs.out]
              unfold bodies
              rw [List.map_append, List.map_cons, List.map_take, List.map_drop]
            · intro z hz
              rcases List.mem_append.1 hz with h | h
              · exact (Hx2.out.own z (List.mem_of_mem_take h)).ext HE.out
              · rcases List.mem_cons.1 h with rfl | h
                · exact HC2.out.mono hbW
                · exact (Hx2.out.own z (List.mem_of_mem_drop h)).ext HE.out

end Go.Proofs.Ytkmnhapeohlooaa
