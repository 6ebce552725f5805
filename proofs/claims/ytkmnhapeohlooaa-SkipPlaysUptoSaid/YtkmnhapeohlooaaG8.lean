import Derived.Test.YtkmnhapeohlooaaG7
import Derived.Test.YtkmnhapeohlooaaG3
import Derived.Test.YtkmnhapeohlooaaG2
import Derived.Test.YtkmnhapeohlooaaG1
import Derived.Test.YtkmnhapeohlooaaG4

/-
  The document's order of two texts.
-/
namespace Go.Proofs.Ytkmnhapeohlooaa
open Go.RowKit

set_option maxHeartbeats 800000 in
theorem order_any (A A2 : Option Addr) (n c n2 c2 : Nat) (xs ys : List Nat) (w : World) (hx : Rd .u8 w A n xs) (hy : Rd .u8 w A2 n2 ys) (hn : n ≤ 140737488355328) (hn2 : n2 ≤ 140737488355328) :
    Calls Try.prog 86 #[.slice A n c, .slice A2 n2 c2] w fun e w' => e = .returned (.int .i64 (ordT xs ys)) ∧ ∃ q, w' = w.drewN q := by
  have hl := hx.len
  have hl2 := hy.len
  obtain ⟨R, hR⟩ : ∃ R, R = ordT xs ys := ⟨_, rfl⟩
  rw [← hR]
  have HR := Lib.hid hR
  have Hl := Lib.hid hl
  have Hl2 := Lib.hid hl2
  clear hR hl hl2
  go_enter Try.func86, Try.ntmps86
  go_wp2
  go_loopw [5] (fun i wr => ∃ j q : Nat, j ≤ n ∧ j ≤ n2 ∧ i = .int .i64 j ∧ wr = w.drewN q ∧ Hid (R = ordT (xs.drop j) (ys.drop j))) (fun i _ => n - (intOf i).toNat)
  case atStart => exact ⟨0, 0, Nat.zero_le _, Nat.zero_le _, rfl, rfl, HR.out⟩
  case round =>
    obtain ⟨j, q, hj, hj2, rfl, hw, Hj⟩ := hrel
    subst hw
    by_cases hlt : j < n ∧ j < n2
    · obtain ⟨hlt1, hlt2⟩ := hlt
      obtain ⟨b, o, rfl, hbl, hc⟩ := hx.at_ hlt1
      obtain ⟨b', o', rfl, hbl', hc'⟩ := hy.at_ hlt2
      have hd1 := drop_cons (bs := xs) (k := j) (by have := Hl.out; omega)
      have hd2 := drop_cons (bs := ys) (k := j) (by have := Hl2.out; omega)
      obtain ⟨u, hu⟩ : ∃ u, u = xs.getD j 0 := ⟨_, rfl⟩
      obtain ⟨v, hv⟩ : ∃ v, v = ys.getD j 0 := ⟨_, rfl⟩
      rw [← hu] at hc hd1
      rw [← hv] at hc' hd2
      have Hd1 := Lib.hid hd1
      have Hd2 := Lib.hid hd2
      clear hu hv hd1 hd2
      have hji : (j : Int) < (n : Int) := by omega
      have hji2 : (j : Int) < (n2 : Int) := by omega
      by_cases h1 : u < v
      · have HE := Lib.hid (show R = -1 by rw [Hj.out, Hd1.out, Hd2.out, ordT_lt h1])
        have d1 : decide (u < v) = true := decide_eq_true h1
        have d1' : decide ((u : Int) < (v : Int)) = true := decide_eq_true (by omega)
        clear h1
        go_wp2_with fail
        go_quiet (fail)
        go_wp2
        go_ret
        exact ⟨by rw [HE.out]; rfl, _, World.drewN_drewN ..⟩
      · by_cases h2 : v < u
        · have HE := Lib.hid (show R = 1 by rw [Hj.out, Hd1.out, Hd2.out, ordT_gt h2])
          have d1 : decide (u < v) = false := decide_eq_false h1
          have d1' : decide ((u : Int) < (v : Int)) = false := decide_eq_false (by omega)
          have d2 : decide (v < u) = true := decide_eq_true h2
          have d2' : decide ((v : Int) < (u : Int)) = true := decide_eq_true (by omega)
          clear h1 h2
          go_wp2_with fail
          go_quiet (fail)
          go_wp2_with fail
          go_quiet (fail)
          go_wp2
          go_ret
          exact ⟨by rw [HE.out]; rfl, _, drew3 ..⟩
        · have HN := Lib.hid (show R = ordT (xs.drop (j + 1)) (ys.drop (j + 1)) by rw [Hj.out, Hd1.out, Hd2.out, ordT_eq (by omega)])
          have d1 : decide (u < v) = false := decide_eq_false h1
          have d1' : decide ((u : Int) < (v : Int)) = false := decide_eq_false (by omega)
          have d2 : decide (v < u) = false := decide_eq_false h2
          have d2' : decide ((v : Int) < (u : Int)) = false := decide_eq_false (by omega)
          clear h1 h2
          go_wp2_with fail
          go_quiet (fail)
          go_wp2_with fail
          go_quiet (fail)
          go_wp2
          go_roundw
          case rel => exact ⟨j + 1, _, by omega, by omega, by go_num, rfl, HN.out⟩
          case measure => simp [intOf]; omega
    · have HE := Lib.hid (show R = if n < n2 then -1 else if n2 < n then 1 else 0 by
        rw [Hj.out, ordT_end (by have := Hl.out; have := Hl2.out; omega) (by have := Hl.out; omega) (by have := Hl2.out; omega), Hl.out, Hl2.out])
      have h3 : ¬ (j : Int) < (n : Int) ∨ ¬ (j : Int) < (n2 : Int) := by omega
      clear hlt
      rcases Nat.lt_trichotomy n n2 with h4 | h4 | h4
      · have e3 := HE.out
        rw [if_pos h4] at e3
        have He3 := Lib.hid e3
        obtain rfl : j = n := by omega
        clear HE e3 h3
        go_wp2
        go_ret
        exact ⟨by rw [He3.out]; rfl, _, rfl⟩
      · subst h4
        obtain rfl : j = n := by omega
        have e3 := HE.out
        rw [if_neg (by omega), if_neg (by omega)] at e3
        have He3 := Lib.hid e3
        clear HE e3 h3
        go_wp2
        go_ret
        exact ⟨by rw [He3.out]; rfl, _, rfl⟩
      · have e3 := HE.out
        rw [if_neg (by omega), if_pos h4] at e3
        have He3 := Lib.hid e3
        obtain rfl : j = n2 := by omega
        clear HE e3 h3
        go_wp2
        go_ret
        exact ⟨by rw [He3.out]; rfl, _, rfl⟩

end Go.Proofs.Ytkmnhapeohlooaa

/-
  Layer 10: the document's Index.
-/
namespace Go.Proofs.Ytkmnhapeohlooaa
open Go.RowKit

set_option maxHeartbeats 400000 in
theorem place10_any (A : Option Addr) (n c : Nat) (ts : List Sl) (A2 : Option Addr) (n2 c2 : Nat) (t : List Nat) (w : World) (hx : RdL w A n ts) (hn : n ≤ 1000000) (hs : ∀ s ∈ ts, Rd .u8 w s.A s.body.length s.body ∧ s.body.length ≤ 140737488355328) (ha : Asc (bodies ts))
    (hy : Rd .u8 w A2 n2 t) (hn2 : n2 ≤ 140737488355328) :
    Calls Try.prog 77 #[.slice A n c, .slice A2 n2 c2] w fun e w' => e = .returned (.int .i64 (skN t (bodies ts))) ∧ ∃ q, w' = w.drewN q := by
  have Hl := Lib.hid hx.1
  have hk := skN_le t (bodies ts)
  rw [bodies_len, Hl.out] at hk
  obtain ⟨k, hkk⟩ : ∃ k, k = skN t (bodies ts) := ⟨_, rfl⟩
  rw [← hkk] at hk ⊢
  have Hk := Lib.hid hkk
  have Ha := Lib.hid ha
  have Hs := Lib.hid hs
  have Hy := Lib.hid hy
  clear hkk ha hs hy
  go_enter Try.func77, Try.ntmps77
  go_wp2
  go_loopw [5, 6, 7] (fun lo hi _ wr => ∃ a b q : Nat, a ≤ k ∧ k ≤ b ∧ b ≤ n ∧ lo = .int .i64 a ∧ hi = .int .i64 b ∧ wr = w.drewN q) (fun lo hi _ _ => (intOf hi).toNat - (intOf lo).toNat)
  case atStart => exact ⟨0, n, 0, Nat.zero_le _, hk, Nat.le_refl _, rfl, rfl, rfl⟩
  case round =>
    obtain ⟨a, b, q, ha, hb, hbn, rfl, rfl, rfl⟩ := hrel
    by_cases hlt : a < b
    · obtain ⟨m, hm⟩ : ∃ m, m = (a + b) / 2 := ⟨_, rfl⟩
      have hma : a ≤ m := by omega
      have hmb : m < b := by omega
      have hmi : ((a : Int) + (b : Int)) / 2 = (m : Int) := by omega
      have hmt : Int.tdiv ((a : Int) + (b : Int)) 2 = (m : Int) := by rw [Int.tdiv_eq_ediv_of_nonneg (by omega)]; exact hmi
      obtain ⟨bb, o, s, rfl, hf, hc⟩ := hx.at_ (j := m) (by omega)
      have hsb := bodies_at hf
      obtain ⟨hrs, hls⟩ := Hs.out s (List.mem_of_getElem? hf)
      have h1 : m < k → ordT s.body t < 0 := fun h => skN_lt (by rw [← Hk.out]; exact h) hsb
      have h2 : k ≤ m → 0 ≤ ordT s.body t := fun h => skN_ge Ha.out (by rw [← Hk.out]; exact h) hsb
      have HC := Lib.hid (fun (W : World) (hW : Ext w W) => order_any s.A A2 s.body.length s.c n2 c2 s.body t W (hrs.ext hW) (Hy.out.ext hW) hls hn2)
      obtain ⟨sA, sc, body⟩ := s
      simp only at hc h1 h2 HC
      clear hf hsb hrs hls
      obtain ⟨bl, hbl⟩ : ∃ bl, bl = body.length := ⟨_, rfl⟩
      rw [← hbl] at hc HC
      clear hbl
      obtain ⟨r, hr⟩ : ∃ r, r = ordT body t := ⟨_, rfl⟩
      rw [← hr] at HC h1 h2
      clear hr hm
      by_cases hneg : r < 0
      · have d : decide (r < 0) = true := decide_eq_true hneg
        have hmk : m < k := by
          rcases Nat.lt_or_ge m k with h | h
          · exact h
          · have := h2 h; omega
        clear h1 h2
        go_wp2_with fail
        refine (HC.out _ (Ext.of_drewN _ q)).mono ?_
        rintro e w2 ⟨rfl, q2, rfl⟩
        go_wp2_with fail
        go_roundw
        case rel => exact ⟨m + 1, b, _, by omega, hb, hbn, by go_num, rfl, by first | rfl | exact World.drewN_drewN .. | fail⟩
        case measure => simp [intOf]; omega
      · have d : decide (r < 0) = false := decide_eq_false hneg
        have hmk : k ≤ m := by
          rcases Nat.lt_or_ge m k with h | h
          · exact absurd (h1 h) hneg
          · exact h
        clear h1 h2
        go_wp2_with fail
        refine (HC.out _ (Ext.of_drewN _ q)).mono ?_
        rintro e w2 ⟨rfl, q2, rfl⟩
        go_wp2_with fail
        go_roundw
        case rel => exact ⟨a, m, _, ha, hmk, by omega, rfl, rfl, by first | rfl | exact World.drewN_drewN .. | fail⟩
        case measure => simp [intOf]; omega
    · obtain rfl : a = k := by omega
      obtain rfl : b = a := by omega
      go_wp2
      go_ret
      exact ⟨rfl, q, rfl⟩

/-- What 'with' and Index give of entries: texts of the call's own, listed. -/
structure Ents (w : World) (base : Nat) (A : Option Addr) (n : Nat) (us : List Sl) : Prop where
  rd : RdL w A n us
  own : ∀ s ∈ us, Own .u8 5 w base s.A s.c s.body
  row : ∀ q, A = some q → base ≤ q.block
theorem Ents.ext {w w' : World} {base n : Nat} {A : Option Addr} {us : List Sl} (h : Ents w base A n us) (he : Ext w w') : Ents w' base A n us := ⟨h.rd.ext he, fun s hs => (h.own s hs).ext he, h.row⟩

set_option maxHeartbeats 1600000 in
theorem with_any (A : Option Addr) (n c base : Nat) (ts : List Sl) (A2 : Option Addr) (n2 c2 : Nat) (t : List Nat) (w : World) (hx : Ents w base A n ts) (hb : base ≤ w.heap.size) (hn : n ≤ 4096) (hs : ∀ x ∈ bodies ts, x.length ≤ 200) (ha : Asc (bodies ts))
    (hy : Rd .u8 w A2 n2 t) (hn2 : n2 ≤ 200) :
    Calls Try.prog 76 #[.slice A n c, .slice A2 n2 c2] w fun e w' => ∃ A' c' us, e = .returned (.slice A' us.length c') ∧ bodies us = insL (bodies ts) t ∧ Ents w' base A' us.length us ∧ Ext w w' := by
  have Hl := Lib.hid hx.rd.1
  have hk := skN_le t (bodies ts)
  rw [bodies_len, Hl.out] at hk
  have hsr : ∀ s ∈ ts, Rd .u8 w s.A s.body.length s.body ∧ s.body.length ≤ 140737488355328 := fun s hm => ⟨(hx.own s hm).rd, by have := hs s.body (List.mem_map.2 ⟨s, hm, rfl⟩); omega⟩
  have HPl := Lib.hid (place10_any A n c ts A2 n2 c2 t w hx.rd (by omega) hsr ha hy (by omega))
  obtain ⟨k, hkk⟩ : ∃ k, k = skN t (bodies ts) := ⟨_, rfl⟩
  have hyes : (bodies ts)[k]? = some t → insL (bodies ts) t = bodies ts := fun h => insL_yes (by rw [← hkk]; exact h)
  have hno : ¬ (bodies ts)[k]? = some t → insL (bodies ts) t = (bodies ts).take k ++ t :: (bodies ts).drop k := fun h => by rw [insL_no (by rw [← hkk]; exact h), ← hkk]
  rw [← hkk] at hk HPl
  obtain ⟨R, hR⟩ : ∃ R, R = insL (bodies ts) t := ⟨_, rfl⟩
  rw [← hR] at hyes hno ⊢
  have Hsr := Lib.hid hsr
  have Hy := Lib.hid hy
  have Hx := Lib.hid hx
  clear hkk hs ha hsr hR hx hy
  by_cases hlt : k < n
  · obtain ⟨b, o, s, rfl, hf, hc⟩ := Hx.out.rd.at_ hlt
    have hsb := bodies_at hf
    obtain ⟨hrs, hls⟩ := Hsr.out s (List.mem_of_getElem? hf)
    have HC := Lib.hid (fun (W : World) (hW : Ext w W) => same_any s.A A2 s.body.length s.c n2 c2 s.body t W (hrs.ext hW) (Hy.out.ext hW) (by omega) (by omega))
    obtain ⟨sA, sc, body⟩ := s
    simp only at hc hls HC hsb
    obtain ⟨bl, hbl⟩ : ∃ bl, bl = body.length := ⟨_, rfl⟩
    rw [← hbl] at hc HC
    clear hbl hls hrs
    by_cases heq : body = t
    · have hbs := hyes (by rw [hsb, heq])
      have hd : decide (body = t) = true := decide_eq_true heq
      rw [hd] at HC
      have Hbs := Lib.hid hbs
      clear hyes hno hbs hd heq hsb hf
      go_enter Try.func76, Try.ntmps76
      go_wp2_with fail
      refine HPl.out.mono ?_
      rintro e w1 ⟨rfl, q1, rfl⟩
      go_wp2_with fail
      refine (HC.out _ (Ext.of_drewN _ _)).mono ?_
      rintro e w2 ⟨rfl, q2, rfl⟩
      go_wp2_with fail
      go_ret
      exact ⟨some ⟨b, o, none⟩, c, ts, by rw [Hl.out]; rfl, Hbs.out.symm, by rw [Hl.out]; exact Hx.out.ext (Ext.of_drewN _ _), Ext.of_drewN _ _⟩
    · have hbs := hno (by rw [hsb]; intro h; injection h with h; exact heq h)
      have hd : decide (body = t) = false := decide_eq_false heq
      rw [hd] at HC
      have Hbs := Lib.hid hbs
      clear hyes hno hbs hd heq hsb hf
      go_enter Try.func76, Try.ntmps76
      go_wp2_with fail
      refine HPl.out.mono ?_
      rintro e w1 ⟨rfl, q1, rfl⟩
      go_wp2_with fail
      refine (HC.out _ (Ext.of_drewN _ _)).mono ?_
      rintro e w2 ⟨rfl, q2, rfl⟩
      have hE0 : Ext w ((w.drewN q1).drewN q2) := (Ext.of_drewN _ _).drewN _
      obtain ⟨W0, hW0⟩ : ∃ W0, W0 = (w.drewN q1).drewN q2 := ⟨_, rfl⟩
      rw [← hW0] at hE0 ⊢
      have Hy2 := Lib.hid (Hy.out.ext hE0)
      have Hx2 := Lib.hid (Hx.out.ext hE0)
      have hbW : base ≤ W0.heap.size := Nat.le_trans hb hE0.size
      clear hW0 HC
      go_wp2_with fail
      go_loopw [6, 7] (fun v i wr => ∃ (j : Nat) (A' : Option Addr) (c' : Nat), j ≤ k ∧ i = .int .i64 j ∧ v = .slice A' j c' ∧ Hid (OwnT wr W0.heap.size A' c' (ts.take j)) ∧ Hid (Ext W0 wr)) (fun _ i _ => k - (intOf i).toNat)
      case atStart => exact ⟨0, _, _, Nat.zero_le _, rfl, rfl, OwnG.made _ _ _ (Nat.le_refl _), (Ext.refl _).alloc _⟩
      case round =>
        obtain ⟨j, A', c', hj, rfl, rfl, HO, HE⟩ := hrel
        by_cases hjk : j < k
        · obtain ⟨b2, o2, s2, e2, hf2, hc2⟩ := (Hx2.out.rd.ext HE.out).at_ (j := j) (by omega)
          injection e2 with e2; injection e2 with e2a e2b; subst e2a e2b
          have htl : (ts.take j).length = j := by rw [List.length_take, Hl.out]; omega
          have hnx := take_nextG ts j hf2
          obtain ⟨sA2, sc2, body2⟩ := s2
          simp only at hc2 hnx
          have Htl := Lib.hid htl
          have Hnx := Lib.hid hnx
          obtain ⟨bl2, hbl2⟩ : ∃ bl2, bl2 = body2.length := ⟨_, rfl⟩
          rw [← hbl2] at hc2
          have Hbl2 := Lib.hid hbl2
          clear hf2 htl hnx hbl2
          go_wp2_with (at_builtin; refine wpList_pushT (w0 := W0) ⟨sA2, sc2, body2⟩ rfl _ _ rfl (HO.out.ext ((Ext.refl _).alloc _)) j Htl.out rfl rfl ((heap_alloc_new _ _).trans (by rw [Hbl2.out])) (by omega) (Ext.trans HE.out ((Ext.refl _).alloc _)) (by have := HE.out.size; simp; omega) ?_; intro A4 c4 w4 hown4 _ hb4 _)
          rw [← Hnx.out] at hown4
          have Hown4 := Lib.hid hown4
          have Hb4 := Lib.hid hb4
          clear hown4 hb4
          go_wp2_with fail
          go_roundw
          case rel => exact ⟨j + 1, A4, c4, by omega, by go_num, rfl, Hown4.out, Hb4.out⟩
          case measure => simp [intOf]; omega
        · obtain rfl : j = k := by omega
          go_wp2_with fail
          refine (copy_any _ _ _ _ _ (Hy2.out.ext HE.out) (by omega)).mono ?_
          rintro e w5 ⟨A5, c5, rfl, hown5, he5⟩
          have htl : (ts.take j).length = j := by rw [List.length_take, Hl.out]; omega
          have hyl := Hy.out.len
          have Htl := Lib.hid htl
          have Hyl := Lib.hid hyl
          clear htl hyl
          go_wp2_with (at_builtin; refine wpList_pushT (w0 := W0) ⟨A5, c5, t⟩ rfl _ _ rfl ((HO.out.ext he5).ext ((Ext.refl _).alloc _)) j Htl.out rfl rfl ((heap_alloc_new _ _).trans (by rw [Hyl.out])) (by omega) (Ext.trans (HE.out.trans he5) ((Ext.refl _).alloc _)) (by have := (HE.out.trans he5).size; simp; omega) ?_; intro A6 c6 w6 hown6 hg6 hb6 _)
          have hcop : Own .u8 5 w6 W0.heap.size A5 c5 t := (((hown5.mono HE.out.size).ext ((Ext.refl _).alloc _)).grown hg6 (by
            have := own_neT ((HO.out.ext he5).ext ((Ext.refl w5).alloc (.cells #[.slice A5 n2 c5] 52))) (hown5.ext ((Ext.refl w5).alloc (.cells #[.slice A5 n2 c5] 52)))
            rw [Htl.out] at this
            exact this))
          have Hown6 := Lib.hid hown6
          have Hcop := Lib.hid hcop
          have Hb6 := Lib.hid hb6
          have h60 : OwnT w6 W0.heap.size A6 c6 (ts.take j ++ (⟨A5, c5, t⟩ : Sl) :: (ts.drop j).take 0) := hown6
          have H60 := Lib.hid h60
          clear hown5 hown6 hcop hb6 hg6 h60
          go_wp2_with fail
          go_loopw [6, 8] (fun v i wr => ∃ (q : Nat) (A' : Option Addr) (c' : Nat), j ≤ q ∧ q ≤ n ∧ i = .int .i64 q ∧ v = .slice A' (q + 1 : Nat) c' ∧ Hid (OwnT wr W0.heap.size A' c' (ts.take j ++ (⟨A5, c5, t⟩ : Sl) :: (ts.drop j).take (q - j))) ∧ Hid (Own .u8 5 wr W0.heap.size A5 c5 t) ∧ Hid (Ext W0 wr)) (fun _ i _ => n - (intOf i).toNat)
          case atStart => exact ⟨j, A6, c6, Nat.le_refl _, by omega, rfl, rfl, by rw [Nat.sub_self]; exact H60.out, Hcop.out, Hb6.out⟩
          case round =>
            clear H60 Hown6 Hcop Hb6 HO HE
            obtain ⟨q, A', c', hjq, hqn, rfl, rfl, HO, HC2, HE⟩ := hrel
            by_cases hqn2 : q < n
            · obtain ⟨b2, o2, s2, e2, hf2, hc2⟩ := (Hx2.out.rd.ext HE.out).at_ (j := q) (by omega)
              injection e2 with e2; injection e2 with e2a e2b; subst e2a e2b
              have htl : (ts.take j ++ (⟨A5, c5, t⟩ : Sl) :: (ts.drop j).take (q - j)).length = q + 1 := by rw [List.length_append, List.length_cons, List.length_take, List.length_take, List.length_drop, Hl.out]; omega
              have hnx : ts.take j ++ (⟨A5, c5, t⟩ : Sl) :: (ts.drop j).take (q + 1 - j) = (ts.take j ++ (⟨A5, c5, t⟩ : Sl) :: (ts.drop j).take (q - j)) ++ [s2] := by
                rw [show q + 1 - j = (q - j) + 1 by omega, take_nextG (ts.drop j) (q - j) (x := s2) (by rw [List.getElem?_drop, ← hf2]; congr 1; omega)]
                simp
              obtain ⟨sA2, sc2, body2⟩ := s2
              simp only at hc2 hnx
              have Htl2 := Lib.hid htl
              have Hnx := Lib.hid hnx
              obtain ⟨bl2, hbl2⟩ : ∃ bl2, bl2 = body2.length := ⟨_, rfl⟩
              rw [← hbl2] at hc2
              have Hbl2 := Lib.hid hbl2
              clear hf2 htl hnx hbl2
              go_wp2_with (at_builtin; refine wpList_pushT (w0 := W0) ⟨sA2, sc2, body2⟩ rfl _ _ rfl (HO.out.ext ((Ext.refl _).alloc _)) (q + 1) Htl2.out rfl rfl ((heap_alloc_new _ _).trans (by rw [Hbl2.out])) (by omega) (Ext.trans HE.out ((Ext.refl _).alloc _)) (by have := HE.out.size; simp; omega) ?_; intro A4 c4 w4 hown4 hg4 hb4 _)
              rw [← Hnx.out] at hown4
              have hcop : Own .u8 5 w4 W0.heap.size A5 c5 t := (HC2.out.ext ((Ext.refl _).alloc _)).grown hg4 (by
                have := own_neT (HO.out.ext ((Ext.refl wr).alloc (.cells #[.slice sA2 bl2 sc2] 52))) (HC2.out.ext ((Ext.refl wr).alloc (.cells #[.slice sA2 bl2 sc2] 52)))
                rw [Htl2.out] at this
                exact this)
              have Hown4 := Lib.hid hown4
              have Hcop := Lib.hid hcop
              have Hb4 := Lib.hid hb4
              clear hown4 hb4 hg4 hcop
              go_wp2_with fail
              go_roundw
              case rel => exact ⟨q + 1, A4, c4, by omega, by omega, by go_num, by go_num, Hown4.out, Hcop.out, Hb4.out⟩
              case measure => simp [intOf]; omega
            · obtain rfl : n = q := by omega
              have hO := HO.out
              rw [List.take_of_length_le (show (ts.drop j).length ≤ n - j by rw [List.length_drop, Hl.out]; exact Nat.le_refl _)] at hO
              have hlen : (ts.take j ++ (⟨A5, c5, t⟩ : Sl) :: ts.drop j).length = n + 1 := by rw [List.length_append, List.length_cons, List.length_take, List.length_drop, Hl.out]; omega
              have HOf := Lib.hid hO
              have Hlen := Lib.hid hlen
              clear hO hlen
              go_wp2_with fail
              go_ret
              refine ⟨A', c', ts.take j ++ (⟨A5, c5, t⟩ : Sl) :: ts.drop j, by rw [Hlen.out]; rfl, ?_, ⟨HOf.out.rdL, ?_, fun z hz => Nat.le_trans hbW (HOf.out.block z hz).1⟩, hE0.trans HE.out⟩
              · rw [Hbs.out]
                unfold bodies
                rw [List.map_append, List.map_cons, List.map_take, List.map_drop]
              · intro z hz
                rcases List.mem_append.1 hz with h | h
                · exact (Hx2.out.own z (List.mem_of_mem_take h)).ext HE.out
                · rcases List.mem_cons.1 h with rfl | h
                  · exact HC2.out.mono hbW
                  · exact (Hx2.out.own z (List.mem_of_mem_drop h)).ext HE.out
  · obtain rfl : k = n := by omega
    have hbs := hno (by rw [List.getElem?_eq_none (by rw [bodies_len, Hl.out]; exact Nat.le_refl _)]; intro h; cases h)
    have Hbs := Lib.hid hbs
    clear hyes hno hbs
    go_enter Try.func76, Try.ntmps76
    go_wp2_with fail
    refine HPl.out.mono ?_
    rintro e w1 ⟨rfl, q1, rfl⟩
    have hE0 : Ext w (w.drewN q1) := Ext.of_drewN _ _
    obtain ⟨W0, hW0⟩ : ∃ W0, W0 = w.drewN q1 := ⟨_, rfl⟩
    rw [← hW0] at hE0 ⊢
    have Hy2 := Lib.hid (Hy.out.ext hE0)
    have Hx2 := Lib.hid (Hx.out.ext hE0)
    have hbW : base ≤ W0.heap.size := Nat.le_trans hb hE0.size
    clear hW0
    go_wp2_with fail
    go_loopw [6, 7] (fun v i wr => ∃ (j : Nat) (A' : Option Addr) (c' : Nat), j ≤ k ∧ i = .int .i64 j ∧ v = .slice A' j c' ∧ Hid (OwnT wr W0.heap.size A' c' (ts.take j)) ∧ Hid (Ext W0 wr)) (fun _ i _ => k - (intOf i).toNat)
    case atStart => exact ⟨0, _, _, Nat.zero_le _, rfl, rfl, OwnG.made _ _ _ (Nat.le_refl _), (Ext.refl _).alloc _⟩
    case round =>
      obtain ⟨j, A', c', hj, rfl, rfl, HO, HE⟩ := hrel
      by_cases hjk : j < k
      · obtain ⟨b2, o2, s2, e2, hf2, hc2⟩ := (Hx2.out.rd.ext HE.out).at_ (j := j) (by omega)
        subst e2
        have htl : (ts.take j).length = j := by rw [List.length_take, Hl.out]; omega
        have hnx := take_nextG ts j hf2
        obtain ⟨sA2, sc2, body2⟩ := s2
        simp only at hc2 hnx
        have Htl := Lib.hid htl
        have Hnx := Lib.hid hnx
        obtain ⟨bl2, hbl2⟩ : ∃ bl2, bl2 = body2.length := ⟨_, rfl⟩
        rw [← hbl2] at hc2
        have Hbl2 := Lib.hid hbl2
        clear hf2 htl hnx hbl2
        go_wp2_with (at_builtin; refine wpList_pushT (w0 := W0) ⟨sA2, sc2, body2⟩ rfl _ _ rfl (HO.out.ext ((Ext.refl _).alloc _)) j Htl.out rfl rfl ((heap_alloc_new _ _).trans (by rw [Hbl2.out])) (by omega) (Ext.trans HE.out ((Ext.refl _).alloc _)) (by have := HE.out.size; simp; omega) ?_; intro A4 c4 w4 hown4 _ hb4 _)
        rw [← Hnx.out] at hown4
        have Hown4 := Lib.hid hown4
        have Hb4 := Lib.hid hb4
        clear hown4 hb4
        go_wp2_with fail
        go_roundw
        case rel => exact ⟨j + 1, A4, c4, by omega, by go_num, rfl, Hown4.out, Hb4.out⟩
        case measure => simp [intOf]; omega
      · obtain rfl : k = j := by omega
        go_wp2_with fail
        refine (copy_any _ _ _ _ _ (Hy2.out.ext HE.out) (by omega)).mono ?_
        rintro e w5 ⟨A5, c5, rfl, hown5, he5⟩
        have htl : (ts.take k).length = k := by rw [List.length_take, Hl.out]; omega
        have hyl := Hy.out.len
        have Htl := Lib.hid htl
        have Hyl := Lib.hid hyl
        clear htl hyl
        go_wp2_with (at_builtin; refine wpList_pushT (w0 := W0) ⟨A5, c5, t⟩ rfl _ _ rfl ((HO.out.ext he5).ext ((Ext.refl _).alloc _)) k Htl.out rfl rfl ((heap_alloc_new _ _).trans (by rw [Hyl.out])) (by omega) (Ext.trans (HE.out.trans he5) ((Ext.refl _).alloc _)) (by have := (HE.out.trans he5).size; simp; omega) ?_; intro A6 c6 w6 hown6 hg6 hb6 _)
        have hcop : Own .u8 5 w6 W0.heap.size A5 c5 t := (((hown5.mono HE.out.size).ext ((Ext.refl _).alloc _)).grown hg6 (by
          have := own_neT ((HO.out.ext he5).ext ((Ext.refl w5).alloc (.cells #[.slice A5 n2 c5] 52))) (hown5.ext ((Ext.refl w5).alloc (.cells #[.slice A5 n2 c5] 52)))
          rw [Htl.out] at this
          exact this))
        have Hown6 := Lib.hid hown6
        have Hcop := Lib.hid hcop
        have Hb6 := Lib.hid hb6
        have h60 : OwnT w6 W0.heap.size A6 c6 (ts.take k ++ (⟨A5, c5, t⟩ : Sl) :: (ts.drop k).take 0) := hown6
        have H60 := Lib.hid h60
        clear hown5 hown6 hcop hb6 hg6 h60
        go_wp2_with fail
        go_loopw [6, 8] (fun v i wr => ∃ (q : Nat) (A' : Option Addr) (c' : Nat), k ≤ q ∧ q ≤ k ∧ i = .int .i64 q ∧ v = .slice A' (q + 1 : Nat) c' ∧ Hid (OwnT wr W0.heap.size A' c' (ts.take k ++ (⟨A5, c5, t⟩ : Sl) :: (ts.drop k).take (q - k))) ∧ Hid (Own .u8 5 wr W0.heap.size A5 c5 t) ∧ Hid (Ext W0 wr)) (fun _ i _ => k - (intOf i).toNat)
        case atStart => exact ⟨k, A6, c6, Nat.le_refl _, by omega, rfl, rfl, by rw [Nat.sub_self]; exact H60.out, Hcop.out, Hb6.out⟩
        case round =>
          clear H60 Hown6 Hcop Hb6 HO HE
          obtain ⟨q, A', c', hjq, hqn, rfl, rfl, HO, HC2, HE⟩ := hrel
          by_cases hqn2 : q < k
          · exact absurd hqn2 (by omega)
          · obtain rfl : k = q := by omega
            have hO := HO.out
            rw [List.take_of_length_le (show (ts.drop k).length ≤ k - k by rw [List.length_drop, Hl.out]; exact Nat.le_refl _)] at hO
            have hlen : (ts.take k ++ (⟨A5, c5, t⟩ : Sl) :: ts.drop k).length = k + 1 := by rw [List.length_append, List.length_cons, List.length_take, List.length_drop, Hl.out]; omega
            have HOf := Lib.hid hO
            have Hlen := Lib.hid hlen
            clear hO hlen
            go_wp2_with fail
            go_ret
            refine ⟨A', c', ts.take k ++ (⟨A5, c5, t⟩ : Sl) :: ts.drop k, by rw [Hlen.out]; rfl, ?_, ⟨HOf.out.rdL, ?_, fun z hz => Nat.le_trans hbW (HOf.out.block z hz).1⟩, hE0.trans HE.out⟩
            · rw [Hbs.out]
              unfold bodies
              rw [List.map_append, List.map_cons, List.map_take, List.map_drop]
            · intro z hz
              rcases List.mem_append.1 hz with h | h
              · exact (Hx2.out.own z (List.mem_of_mem_take h)).ext HE.out
              · rcases List.mem_cons.1 h with rfl | h
                · exact HC2.out.mono hbW
                · exact (Hx2.out.own z (List.mem_of_mem_drop h)).ext HE.out

end Go.Proofs.Ytkmnhapeohlooaa

/-
  Layer 10: the document's Index.
-/
namespace Go.Proofs.Ytkmnhapeohlooaa
open Go.RowKit

theorem Try.infoInt : (Try.prog.info? 3).map (fun i => (i.zero, i.size, i.bytes)) = some (some (.int .i64 0), 1, 8) := by kernel_rfl

/-- Numbers as they stand in memory. -/
def zs (ns : List Nat) : List Int := ns.map fun x : Nat => (x : Int)
theorem zs_len (ns : List Nat) : (zs ns).length = ns.length := List.length_map ..
theorem zs_snoc (ns : List Nat) (x : Nat) : zs (ns ++ [x]) = zs ns ++ [(x : Int)] := by simp [zs]

/-- What the document's Index leaves. -/
def RIdxPost (R : List (List Nat) × List Nat × Int) (w : World) (e : Ending) (w' : World) : Prop :=
  ∃ A' c' us B cB, e = .returned (.tuple #[.slice A' us.length c', .slice B R.2.1.length cB, .int .i64 R.2.2]) ∧ bodies us = R.1 ∧ Ents w' w.heap.size A' us.length us ∧ OwnG shZ 3 w' w.heap.size B cB (zs R.2.1) ∧ Ext w w'
theorem RIdxPost.bad {w w' : World} (R : List (List Nat) × List Nat × Int) {E : Int} (h : R = ([], [], E)) (he : Ext w w') : RIdxPost R w (.returned (.tuple #[.slice none 0 0, .slice none 0 0, .int .i64 E])) w' := by
  subst h
  exact ⟨none, 0, [], none, 0, rfl, rfl, ⟨⟨rfl, fun q => absurd q (by simp)⟩, (by intro s hs; cases hs), (by intro q hq; cases hq)⟩, OwnG.nil .., he⟩
theorem RIdxPost.good {w w' : World} (R : List (List Nat) × List Nat × Int) {us : List Sl} {ns : List Nat} {A B : Option Addr} {m c n cB : Nat} (h : R = (bodies us, ns, 0)) (hm : us.length = m) (hn : ns.length = n) (ho : Ents w' w.heap.size A m us) (hB : OwnG shZ 3 w' w.heap.size B cB (zs ns)) (he : Ext w w') :
    RIdxPost R w (.returned (.tuple #[.slice A m c, .slice B n cB, .int .i64 0])) w' := by
  subst h hm hn
  exact ⟨A, c, us, B, cB, rfl, rfl, ho, hB, he⟩

set_option maxHeartbeats 1600000 in
theorem refIndex_any (A : Option Addr) (n c : Nat) (ss : List Sl) (w : World) (hx : TxL w A n ss) (hn : n ≤ 140737488355328) :
    Calls Try.prog 40 #[.slice A n c] w (RIdxPost (idxR (bodies ss)) w) := by
  have Hl := Lib.hid hx.len
  have hbl : (bodies ss).length = n := by rw [bodies_len, Hl.out]
  by_cases hbig : 4096 < n
  · have HR := Lib.hid (idxR_bad (ss := bodies ss) (.inl (by rw [hbl]; exact hbig)))
    clear hbl
    go_enter Try.func40, Try.ntmps40
    go_wp2_with fail
    go_ret3
    exact RIdxPost.bad _ HR.out (Ext.refl w)
  · have hb4 : n ≤ 4096 := by omega
    have Hbl := Lib.hid hbl
    have Hx := Lib.hid hx
    clear hbl hx
    go_enter Try.func40, Try.ntmps40
    go_wp2_with fail
    go_loopw [5, 6] (fun v i wr => ∃ (j m : Nat) (A' : Option Addr) (c' : Nat) (us : List Sl), j ≤ n ∧ m ≤ j ∧ i = .int .i64 j ∧ v = .slice A' m c' ∧ Hid (us.length = m) ∧ Hid (bodies us = dents ((bodies ss).take j)) ∧ Hid (Ents wr w.heap.size A' m us) ∧ Hid (Ext w wr) ∧ Hid (anyLong ((bodies ss).take j) = false)) (fun _ i _ => n - (intOf i).toNat)
    case atStart => exact ⟨0, 0, _, _, [], Nat.zero_le _, Nat.le_refl _, rfl, rfl, rfl, rfl, ⟨⟨rfl, fun q => absurd q (by omega)⟩, (by intro s hs; cases hs), (by intro q hq; injection hq with hq; subst hq; exact Nat.le_refl _)⟩, (Ext.refl w).alloc _, rfl⟩
    case round =>
      obtain ⟨j, m, A', c', us, hj, hmj, rfl, rfl, Hul, Hub, HEn, HE, HA⟩ := hrel
      by_cases hlt : j < n
      · obtain ⟨b, o, s, rfl, hf, hc, hs⟩ := (Hx.out.ext HE.out).at_ hlt
        have hbj := bodies_at hf
        have hdst := dents_step hbj
        have htk : (bodies ss).take (j + 1) = (bodies ss).take j ++ [s.body] := by
          obtain ⟨h1, h2⟩ := List.getElem?_eq_some_iff.1 hbj
          rw [List.take_succ_eq_append_getElem h1, h2]
        have hrd := hs.rd
        obtain ⟨sA, sc, body⟩ := s
        simp only at hc hrd hbj hdst htk
        obtain ⟨bl, hbl⟩ : ∃ bl, bl = body.length := ⟨_, rfl⟩
        rw [← hbl] at hc hrd
        by_cases hlong : 200 < bl
        · have HR := Lib.hid (idxR_bad (.inr (anyLong_iff.2 ⟨body, List.mem_of_getElem? hbj, by rw [← hbl]; exact hlong⟩)))
          clear hf hbj hdst htk hrd hs hbl
          go_wp2_with fail
          go_ret3
          exact RIdxPost.bad _ HR.out HE.out
        · have hN := anyLong_snoc HA.out (t := body) (by rw [← hbl]; omega)
          rw [← htk] at hN
          have HN := Lib.hid hN
          have Hd := Lib.hid hdst
          have Hrd := Lib.hid hrd
          have HW := Lib.hid (with_any A' m c' w.heap.size us sA bl sc body wr HEn.out HE.out.size (by omega) (by rw [Hub.out]; exact dents_short HA.out) (by rw [Hub.out]; exact dents_asc _) hrd (by omega))
          clear hf hbj hdst htk hrd hs hbl hN
          go_wp2_with fail
          refine HW.out.mono ?_
          rintro e w1 ⟨A1, c1, vs, rfl, hvb, hve, he1⟩
          have hvl : vs.length ≤ j + 1 := by
            rw [← bodies_len, hvb, Hub.out, ← Hd.out]
            exact dents_len (j + 1) _ (by rw [List.length_take, Hbl.out]; omega)
          have Hvb := Lib.hid (show bodies vs = dents ((bodies ss).take (j + 1)) by rw [hvb, Hub.out, Hd.out])
          obtain ⟨m1, hm1⟩ : ∃ m1, vs.length = m1 := ⟨_, rfl⟩
          rw [hm1] at hve hvl ⊢
          have Hm1 := Lib.hid hm1
          have Hve := Lib.hid hve
          have He1 := Lib.hid (HE.out.trans he1)
          clear hvb hve he1 hm1
          go_wp2_with fail
          go_roundw
          case rel => exact ⟨j + 1, m1, A1, c1, vs, by omega, hvl, by go_num, rfl, Hm1.out, Hvb.out, Hve.out, He1.out, HN.out⟩
          case measure => simp [intOf]; omega
      · obtain rfl : n = j := by omega
        have htk : (bodies ss).take n = bodies ss := List.take_of_length_le (by rw [Hbl.out]; exact Nat.le_refl _)
        have hA := HA.out
        have hub := Hub.out
        rw [htk] at hA hub
        have HR := Lib.hid (idxR_good (by rw [Hbl.out]; exact hb4) hA)
        rw [← hub] at HR
        have hasc : Asc (bodies us) := by rw [hub]; exact dents_asc _
        have hshort : ∀ s ∈ us, s.body.length ≤ 140737488355328 := fun s hs => by
          have := dents_short hA s.body (by rw [← hub]; exact List.mem_map.2 ⟨s, hs, rfl⟩)
          omega
        obtain ⟨F, hF⟩ : ∃ F : List Nat → Nat, F = fun s => skN s (bodies us) := ⟨_, rfl⟩
        have HP := Lib.hid (fun (W : World) (hW : Ext wr W) (A2 : Option Addr) (n2 c2 : Nat) (t : List Nat) (h1 : Rd .u8 W A2 n2 t) (h2 : n2 ≤ 140737488355328) => place10_any A' m c' us A2 n2 c2 t W (HEn.out.ext hW).rd (by omega) (fun s hs => ⟨((HEn.out.ext hW).own s hs).rd, hshort s hs⟩) hasc h1 h2)
        have HR2 := Lib.hid (show idxR (bodies ss) = (bodies us, (bodies ss).map F, 0) by rw [HR.out, hF])
        have HF := Lib.hid hF
        have h0 : OwnG shZ 3 (wr.alloc (.cells #[] 3)) wr.heap.size (some ⟨wr.heap.size, 0, none⟩) 0 (zs (((bodies ss).take 0).map F)) := (OwnG.made _ _ _ (Nat.le_refl _))
        have H0 := Lib.hid h0
        clear hA hub HA HR hasc hshort htk hF h0
        obtain ⟨W1, hW1⟩ : ∃ W1, W1 = wr := ⟨_, rfl⟩
        rw [← hW1] at HEn HE HP H0 ⊢
        clear hW1
        go_wp2_with fail
        go_loopw [7, 8] (fun v i wx => ∃ (q : Nat) (B : Option Addr) (cB : Nat), q ≤ n ∧ i = .int .i64 q ∧ v = .slice B q cB ∧ Hid (OwnG shZ 3 wx W1.heap.size B cB (zs (((bodies ss).take q).map F))) ∧ Hid (Ext W1 wx)) (fun _ i _ => n - (intOf i).toNat)
        case atStart => exact ⟨0, _, _, Nat.zero_le _, rfl, rfl, H0.out, (Ext.refl _).alloc _⟩
        case round =>
          clear H0
          obtain ⟨q, B, cB, hq, rfl, rfl, HO, HB⟩ := hrel
          by_cases hlt2 : q < n
          · obtain ⟨b, o, s, rfl, hf, hc, hs⟩ := (Hx.out.ext (HE.out.trans HB.out)).at_ hlt2
            have hbj := bodies_at hf
            have hrd := hs.rd
            have hln := hs.len
            have htk : ((bodies ss).take (q + 1)).map F = ((bodies ss).take q).map F ++ [F s.body] := by
              obtain ⟨h1, h2⟩ := List.getElem?_eq_some_iff.1 hbj
              rw [List.take_succ_eq_append_getElem h1, h2, List.map_append]
              rfl
            obtain ⟨sA, sc, body⟩ := s
            simp only at hc hrd hln hbj htk
            obtain ⟨bl, hbl⟩ : ∃ bl, bl = body.length := ⟨_, rfl⟩
            rw [← hbl] at hc hrd hln
            obtain ⟨f, hfv⟩ : ∃ f, f = F body := ⟨_, rfl⟩
            rw [← hfv] at htk
            have hP := HP.out wr HB.out sA bl sc body hrd hln
            have hfv2 : skN body (bodies us) = f := by rw [hfv, HF.out]
            rw [hfv2] at hP
            have HPl := Lib.hid hP
            have hlq : (zs (((bodies ss).take q).map F)).length = q := by rw [zs_len, List.length_map, List.length_take, Hbl.out]; omega
            have Hlq := Lib.hid hlq
            have Htk := Lib.hid (show zs (((bodies ss).take (q + 1)).map F) = zs (((bodies ss).take q).map F) ++ [(f : Int)] by rw [htk, zs_snoc])
            clear hf hbj htk hrd hln hs hbl hfv hfv2 hP hlq
            go_wp2_with fail
            refine HPl.out.mono ?_
            rintro e w5 ⟨rfl, q5, rfl⟩
            have hE5 : Ext wr (wr.drewN q5) := Ext.of_drewN _ _
            obtain ⟨w5, hw5⟩ : ∃ w5, w5 = wr.drewN q5 := ⟨_, rfl⟩
            rw [← hw5] at hE5 ⊢
            clear hw5
            have HB5 := Lib.hid (show Ext W1 w5 from HB.out.trans hE5)
            go_wp2_with (at_builtin; refine wpList_pushG (w0 := W1) (base := W1.heap.size) shZ (f : Int) 3 rfl _ _ 45 rfl _ 8 Try.underlying45 Try.infoInt rfl (by decide) ((HO.out.ext hE5).ext ((Ext.refl _).alloc _)) q Hlq.out rfl rfl (heap_alloc_new _ _) (by omega) (by omega) (Ext.trans HB5.out ((Ext.refl _).alloc _)) (by have := HB5.out.size; simp; omega) ?_; intro A4 c4 w4 hown4 hg4 hb4 hz4)
            rw [← Htk.out] at hown4
            have HN := Lib.hid (show Ext W1 w4 from hb4)
            have Hown4 := Lib.hid hown4
            clear hown4 hg4 hb4 hz4
            go_wp2_with fail
            go_roundw
            case rel => exact ⟨q + 1, A4, c4, by omega, by go_num, rfl, Hown4.out, HN.out⟩
            case measure => simp [intOf]; omega
          · obtain rfl : n = q := by omega
            have hO := HO.out
            rw [List.take_of_length_le (by rw [Hbl.out]; exact Nat.le_refl _)] at hO
            have HOf := Lib.hid hO
            clear hO
            go_wp2_with fail
            go_ret3
            exact RIdxPost.good _ HR2.out Hul.out (by rw [List.length_map, Hbl.out]) (HEn.out.ext HB.out) (HOf.out.mono HE.out.size) (HE.out.trans HB.out)

end Go.Proofs.Ytkmnhapeohlooaa

/-
  Two lists of texts are the same.
-/
namespace Go.Proofs.Ytkmnhapeohlooaa
open Go.RowKit
set_option maxRecDepth 100000

theorem pair_bodies {ss ts : List Sl} (hb : bodies ss = bodies ts) {j : Nat} {s t : Sl} (h1 : ss[j]? = some s) (h2 : ts[j]? = some t) : t.body = s.body := by
  have e1 := bodies_at h1
  rw [hb, bodies_at h2] at e1
  injection e1

theorem sameT_yes (A A' : Option Addr) (n c n' c' : Nat) (ss ts : List Sl) (w : World) (hx : RdL w A n ss) (hy : RdL w A' n' ts) (hb : bodies ss = bodies ts) (hn : n ≤ 140737488355328)
    (hs : ∀ s ∈ ss, Rd .u8 w s.A s.body.length s.body ∧ s.body.length ≤ 140737488355328) (ht : ∀ t ∈ ts, Rd .u8 w t.A t.body.length t.body) :
    Calls Try.prog 38 #[.slice A n c, .slice A' n' c'] w fun e w' => e = .returned (.bool true) ∧ ∃ q, w' = w.drewN q := by
  obtain rfl : n' = n := by rw [← hx.1, ← hy.1, ← bodies_len, ← bodies_len, hb]
  have Hb := Lib.hid hb
  clear hb
  go_enter Try.func38, Try.ntmps38
  go_wp2
  go_loopw [5] (fun i wr => ∃ j q : Nat, j ≤ n' ∧ i = .int .i64 j ∧ wr = w.drewN q) (fun i _ => n' - (intOf i).toNat)
  case atStart => exact ⟨0, 0, Nat.zero_le _, rfl, rfl⟩
  case round =>
    obtain ⟨j, q, hj, rfl, hw⟩ := hrel
    have hE : Ext w wr := by rw [hw]; exact (Ext.refl w).drewN q
    have Hw := Lib.hid hw
    clear hw
    by_cases hlt : j < n'
    · obtain ⟨b, o, s, rfl, hf, h1⟩ := (hx.ext hE).at_ hlt
      obtain ⟨b', o', t, rfl, hg, g1⟩ := (hy.ext hE).at_ hlt
      have hbb := pair_bodies Hb.out hf hg
      obtain ⟨h3, hbf⟩ := hs s (List.mem_of_getElem? hf)
      have g3 := ht t (List.mem_of_getElem? hg)
      replace h3 := h3.ext hE
      replace g3 := g3.ext hE
      rw [hbb] at g1 g3
      obtain ⟨sA, sc, body⟩ := s
      obtain ⟨tA, tc, tbody⟩ := t
      simp only at h1 h3 g1 g3 hbf
      clear hbb hf hg
      have hji : (j : Int) < (n' : Int) := by omega
      have hbf2 : body.length ≤ 281474976710656 := by omega
      go_wp2_with fail
      go_quiet ((go_at_call 43; exact Calls.quiet_of (same_yes (h3.drewN _) (g3.drewN _) hbf2)))
      go_wp2
      go_roundw
      case rel => exact ⟨j + 1, _, by omega, by go_num, by rw [Hw.out, World.drewN_drewN]⟩
      case measure => simp [intOf]; omega
    · obtain rfl : j = n' := by omega
      go_wp2
      go_ret
      exact ⟨by trivial, q, Hw.out⟩

end Go.Proofs.Ytkmnhapeohlooaa

/-
  Layer 18: two lists side by side; the document's SameInts.
-/
namespace Go.Proofs.Ytkmnhapeohlooaa
open Go.RowKit
set_option maxRecDepth 100000

theorem sameInts_yes (A A' : Option Addr) (n c c' : Nat) (xs : List Int) (w : World) (hx : RdG shZ w A n xs) (hy : RdG shZ w A' n xs) (hn : n ≤ 281474976710656) :
    Calls Try.prog 39 #[.slice A n c, .slice A' n c'] w fun e w' => e = .returned (.bool true) ∧ ∃ q, w' = w.drewN q := by
  go_enter Try.func39, Try.ntmps39
  go_wp2
  go_loopw [5] (fun i wr => ∃ j q : Nat, j ≤ n ∧ i = .int .i64 j ∧ wr = w.drewN q) (fun i _ => n - (intOf i).toNat)
  case atStart => exact ⟨0, 0, Nat.zero_le _, rfl, rfl⟩
  case round =>
    obtain ⟨j, q, hj, rfl, hw⟩ := hrel
    have hE : Ext w wr := by rw [hw]; exact (Ext.refl w).drewN q
    have Hw := Lib.hid hw
    clear hw
    by_cases hlt : j < n
    · obtain ⟨b, o, rfl, hb, h1⟩ := (hx.ext hE).atZ hlt
      obtain ⟨b', o', rfl, hb', g1⟩ := (hy.ext hE).atZ hlt
      have hji : (j : Int) < (n : Int) := by omega
      obtain ⟨x, hx⟩ : ∃ x, x = xs.getD j 0 := ⟨_, rfl⟩
      rw [← hx] at h1 g1
      clear hx
      go_wp2_with fail
      go_quiet (fail)
      go_wp2
      go_roundw
      case rel => exact ⟨j + 1, _, by omega, by go_num, by rw [Hw.out, World.drewN_drewN]⟩
      case measure => simp [intOf]; omega
    · obtain rfl : j = n := by omega
      go_wp2
      go_ret
      exact ⟨by trivial, q, Hw.out⟩

theorem RdL.blk {w w' : World} {A : Option Addr} {n : Nat} {ss : List Sl} (h : RdL w A n ss) (hb : ∀ a, A = some a → w'.heap[a.block]? = w.heap[a.block]?) (hs : w.heap.size ≤ w'.heap.size) : RdL w' A n ss :=
  ⟨h.1, fun hn => by
    obtain ⟨b, o, e, hlt, hc⟩ := h.2 hn
    exact ⟨b, o, e, Nat.lt_of_lt_of_le hlt hs, fun j s hj => (World.cell?_of_block (w := w) (a := ⟨b, o + j, none⟩) (show w'.heap[b]? = w.heap[b]? from hb _ e)).trans (hc j s hj)⟩⟩
theorem LS.kept {w w' : World} {X : Nat → Prop} {base sb : Nat} {hs : List Int} {L : List (List Nat)} {V : List Int} (h : LS w X base sb hs L V) (hb : ∀ b, X b → w'.heap[b]? = w.heap[b]?) (hz : w.heap.size ≤ w'.heap.size) : LS w' X base sb hs L V := by
  obtain ⟨ns, h1, h2⟩ := h
  exact ⟨ns, h1.kept hb hz, h2⟩

/-- Two lists of the call's own, apart; but for the blocks of P all that lay in w4 lies. -/
def TwoL (P : Nat → Prop) (w4 W : World) (s1 : Nat) (h1 : List Int) (L1 : List (List Nat)) (V1 : List Int) (s2 : Nat) (h2 : List Int) (L2 : List (List Nat)) (V2 : List Int) : Prop :=
  ∃ X1 b1 X2 b2, LS W X1 b1 s1 h1 L1 V1 ∧ LS W X2 b2 s2 h2 L2 V2 ∧ (∀ q, X1 q → ¬ X2 q) ∧ (∀ q, X1 q → P q ∨ w4.heap.size ≤ q) ∧ (∀ q, X2 q → P q ∨ w4.heap.size ≤ q) ∧ FrX P w4 W
section
variable {P : Nat → Prop} {w4 w w' : World} {s1 s2 : Nat} {h1 h2 : List Int} {L1 L2 : List (List Nat)} {V1 V2 : List Int}
theorem TwoL.swap (h : TwoL P w4 w s1 h1 L1 V1 s2 h2 L2 V2) : TwoL P w4 w s2 h2 L2 V2 s1 h1 L1 V1 := by
  obtain ⟨X1, b1, X2, b2, l1, l2, d, p1, p2, f⟩ := h
  exact ⟨X2, b2, X1, b1, l2, l1, fun q hq hx => d q hx hq, p2, p1, f⟩
theorem TwoL.ext (h : TwoL P w4 w s1 h1 L1 V1 s2 h2 L2 V2) (he : Ext w w') : TwoL P w4 w' s1 h1 L1 V1 s2 h2 L2 V2 := by
  obtain ⟨X1, b1, X2, b2, l1, l2, d, p1, p2, f⟩ := h
  exact ⟨X1, b1, X2, b2, l1.ext he, l2.ext he, d, p1, p2, f.trans (he.frX P)⟩
theorem TwoL.fr (h : TwoL P w4 w s1 h1 L1 V1 s2 h2 L2 V2) : FrX P w4 w := by
  obtain ⟨X1, b1, X2, b2, l1, l2, d, p1, p2, f⟩ := h
  exact f
theorem TwoL.one (h : TwoL P w4 w s1 h1 L1 V1 s2 h2 L2 V2) : ∃ X b, LS w X b s1 h1 L1 V1 := by
  obtain ⟨X1, b1, X2, b2, l1, l2, d, p1, p2, f⟩ := h
  exact ⟨X1, b1, l1⟩
theorem twoput_any (h : TwoL P w4 w s1 h1 L1 V1 s2 h2 L2 V2) (hb : L1.length < 1099511627776) (A : Option Addr) (m c : Nat) (t : List Nat) (v : Int) (ht : Rd .u8 w A m t) (hu : U8 t) (hm : m ≤ 140737488355328) :
    Calls Try.prog 41 #[.pointer (some ⟨s1, 0, none⟩), .slice A m c, .int .i64 v] w fun e w' => e = .returned (.bool (decide (¬ L1[skN t L1]? = some t))) ∧ TwoL P w4 w' s1 h1 (insL L1 t) (putV L1 V1 t v) s2 h2 L2 V2 := by
  obtain ⟨X1, b1, X2, b2, l1, l2, d, p1, p2, f⟩ := h
  refine (sput_any l1 hb A m c t v ht hu hm).mono ?_
  rintro e w' ⟨he, h4, h5⟩
  refine ⟨he, XN X1 w w', b1, X2, b2, h4, l2.kept (fun q hq => h5.block q (l2.bd' q hq).2 (fun hx => d q hx hq)) h5.size, fun q hq hx => ?_, fun q hq => ?_, p2, ?_⟩
  · rcases hq with hq | hq
    · exact d q hq hx
    · have := (l2.bd' q hx).2; omega
  · rcases hq with hq | hq
    · exact p1 q hq
    · exact .inr (Nat.le_trans f.size hq.1)
  · refine ⟨h5.os.trans f.os, h5.tape.trans f.tape, h5.output.trans f.output, Nat.le_trans f.size h5.size, fun q hq hp => (h5.block q (Nat.lt_of_lt_of_le hq f.size) (fun hx => ?_)).trans (f.block q hq hp)⟩
    rcases p1 q hx with h | h
    · exact hp h
    · omega
end

/-! ### Keys put in their order, and against it -/
theorem skN_all {t : List Nat} : ∀ {L : List (List Nat)}, (∀ x ∈ L, ordT x t < 0) → skN t L = L.length
  | [], _ => rfl
  | s :: r, h => by rw [skN, if_pos (h s (List.mem_cons_self ..)), skN_all (fun x hx => h x (List.mem_cons_of_mem _ hx))]; rfl
theorem skN_zero {t : List Nat} : ∀ {L : List (List Nat)}, (∀ x ∈ L, ¬ ordT x t < 0) → skN t L = 0
  | [], _ => rfl
  | s :: r, h => by rw [skN, if_neg (h s (List.mem_cons_self ..))]
theorem asc_up {U : List (List Nat)} (ha : Asc U) {j : Nat} {t : List Nat} (hj : U[j]? = some t) {V : List Int} (hV : V.length = j) (v : Int) : ¬ (U.take j)[skN t (U.take j)]? = some t ∧ insL (U.take j) t = U.take (j + 1) ∧ putV (U.take j) V t v = V ++ [v] := by
  have hlt := (List.getElem?_eq_some_iff.1 hj).1
  have hs : skN t (U.take j) = (U.take j).length := skN_all (fun x hx => by
    obtain ⟨k, hk⟩ := List.getElem?_of_mem hx
    have hkl := (List.getElem?_eq_some_iff.1 hk).1
    rw [List.length_take] at hkl
    rw [List.getElem?_take, if_pos (by omega)] at hk
    exact asc_lt ha hk hj (by omega))
  have hl : (U.take j).length = j := by rw [List.length_take]; omega
  have hno : ¬ (U.take j)[skN t (U.take j)]? = some t := by rw [hs, List.getElem?_eq_none (Nat.le_refl _)]; exact fun h => by cases h
  refine ⟨hno, ?_, ?_⟩
  · rw [insL_no hno, hs, List.take_length, List.drop_length, List.take_add_one, hj]; rfl
  · unfold putV
    rw [if_neg hno, hs, hl, List.take_of_length_le (by omega), List.drop_of_length_le (by omega)]
theorem asc_down {U : List (List Nat)} (ha : Asc U) {j : Nat} {t : List Nat} (hj : U[j]? = some t) {V : List Int} (v : Int) : ¬ (U.drop (j + 1))[skN t (U.drop (j + 1))]? = some t ∧ insL (U.drop (j + 1)) t = U.drop j ∧ putV (U.drop (j + 1)) V t v = v :: V := by
  have hlt := (List.getElem?_eq_some_iff.1 hj).1
  have hge : ∀ x ∈ U.drop (j + 1), ordT t x < 0 := fun x hx => by
    obtain ⟨k, hk⟩ := List.getElem?_of_mem hx
    rw [List.getElem?_drop] at hk
    exact asc_lt ha hj hk (by omega)
  have hs : skN t (U.drop (j + 1)) = 0 := skN_zero (fun x hx => ordT_asym (hge x hx))
  have hno : ¬ (U.drop (j + 1))[skN t (U.drop (j + 1))]? = some t := by
    rw [hs]
    intro h
    exact ordT_irr t (hge t (List.mem_of_getElem? h))
  refine ⟨hno, ?_, ?_⟩
  · rw [insL_no hno, hs, List.take_zero, List.drop_zero, List.nil_append]
    obtain ⟨h1, rfl⟩ := List.getElem?_eq_some_iff.1 hj
    exact (List.drop_eq_getElem_cons h1).symm
  · unfold putV
    rw [if_neg hno, hs]; rfl

theorem idx_facts (ss : List (List Nat)) : Asc (idxR ss).1 ∧ (idxR ss).1.length ≤ 4096 ∧ ∀ x ∈ (idxR ss).1, x ∈ ss ∧ x.length ≤ 200 := by
  by_cases h : 4096 < ss.length ∨ anyLong ss = true
  · rw [idxR_bad h]
    exact ⟨List.Pairwise.nil, by simp, fun x hx => by cases hx⟩
  · have h1 : ss.length ≤ 4096 := by
      rcases Nat.lt_or_ge 4096 ss.length with q | q
      · exact absurd (.inl q) h
      · exact q
    have h2 : anyLong ss = false := by
      cases q : anyLong ss with
      | true => exact absurd (.inr q) h
      | false => rfl
    rw [idxR_good h1 h2]
    exact ⟨dents_asc ss, Nat.le_trans (dents_len _ ss rfl) h1, fun x hx => ⟨dents_mem.1 hx, dents_short h2 x hx⟩⟩

end Go.Proofs.Ytkmnhapeohlooaa

/-
  Layer 18: the reference: Place, Height.
-/
namespace Go.Proofs.Ytkmnhapeohlooaa
open Go.RowKit
set_option maxRecDepth 100000

set_option maxHeartbeats 1600000 in
theorem rplace_any (Ak : Option Addr) (n ck : Nat) (Av : Option Addr) (nv cv : Nat) (ss : List Sl) (A : Option Addr) (m c : Nat) (t : List Nat) (w : World) (hk : RdL w Ak n ss) (hs : ∀ s ∈ ss, Rd .u8 w s.A s.body.length s.body ∧ s.body.length ≤ 140737488355328) (hn : n ≤ 1099511627776) (ht : Rd .u8 w A m t) (hm : m ≤ 140737488355328) :
    Calls Try.prog 66 #[.agg #[.slice Ak n ck, .slice Av nv cv], .slice A m c] w fun e w' => e = .returned (.tuple #[.int .i64 (skN t (bodies ss) : Int), .bool (decide ((bodies ss)[skN t (bodies ss)]? = some t))]) ∧ Ext w w' := by
  have hbl : (bodies ss).length = n := by rw [bodies_len]; exact hk.1
  have hE0 : Ext w (w.alloc (.cells #[.slice Ak n ck, .slice Av nv cv] 51)) := (Ext.refl w).alloc _
  have hb0 := heap_alloc_new w (.cells #[.slice Ak n ck, .slice Av nv cv] 51)
  have HB0 := Lib.hid hb0
  have HE0 := Lib.hid hE0
  have Hk := Lib.hid hk
  have Hs := Lib.hid hs
  have Ht := Lib.hid ht
  have Hbl := Lib.hid hbl
  clear hk hs ht hE0 hb0 hbl
  go_enter Try.func66, Try.ntmps66
  go_wp2_with fail
  go_loopw [6] (fun i wr => ∃ j : Nat, j ≤ n ∧ i = .int .i64 j ∧ Hid (j ≤ skN t (bodies ss)) ∧ Hid (Ext w wr) ∧ Hid (wr.heap[w.heap.size]? = some (.cells #[.slice Ak n ck, .slice Av nv cv] 51 (0, 0)))) (fun i _ => n - (intOf i).toNat)
  case atStart => exact ⟨0, Nat.zero_le _, rfl, Lib.hid (Nat.zero_le _), HE0, HB0⟩
  case round =>
    obtain ⟨j, hj, rfl, Hj, HE, HB⟩ := hrel
    have c0 := cell_of_row wr w.heap.size 0 _ _ (0, 0) HB.out
    have hsk : skN t (bodies ss) ≤ n := by have := skN_le t (bodies ss); have := Hbl.out; omega
    by_cases hlt : j < n
    · obtain ⟨b, o, s, rfl, hf, hc⟩ := (Hk.out.ext HE.out).at_ hlt
      have hbj := bodies_at hf
      obtain ⟨q1, q2⟩ := Hs.out s (List.mem_of_getElem? hf)
      have CO := Lib.hid (fun W (hW : Ext w W) => order_any s.A A s.body.length s.c m c s.body t W (q1.ext hW) (Ht.out.ext hW) q2 hm)
      have CS := Lib.hid (fun W (hW : Ext w W) => same_any s.A A s.body.length s.c m c s.body t W (q1.ext hW) (Ht.out.ext hW) (by omega) (by omega))
      have HJ := Lib.hid (show ((bodies ss)[j]? = some s.body) from hbj)
      obtain ⟨O, hO⟩ : ∃ O, O = ordT s.body t := ⟨_, rfl⟩
      have HO := Lib.hid hO
      rw [← hO] at CO
      have hji : (j : Int) < (n : Int) := by omega
      obtain ⟨sA, sc, sb⟩ := s
      simp only at CO CS HJ HO hc
      obtain ⟨sn, hsn⟩ : ∃ sn, sn = sb.length := ⟨_, rfl⟩
      rw [← hsn] at CO CS hc
      have C1 := Lib.hid (CO.out wr HE.out)
      clear hO hbj q1 q2 hf hsn
      by_cases q : O < 0
      · have hj1 : Hid (j + 1 ≤ skN t (bodies ss)) := Lib.hid (by
          rcases Nat.lt_or_ge j (skN t (bodies ss)) with h | h
          · exact h
          · have e : skN t (bodies ss) = j := Nat.le_antisymm h Hj.out
            exfalso
            have hno : ∀ (L : List (List Nat)) (x : List Nat), L[skN t L]? = some x → ¬ ordT x t < 0 := by
              intro L
              induction L with
              | nil => intro x hx; cases hx
              | cons y r ih =>
                intro x hx
                unfold skN at hx
                split at hx
                · exact ih x (by simpa using hx)
                · rename_i hy; simp at hx; subst hx; exact hy
            exact hno _ sb (by rw [e]; exact HJ.out) (by rw [← HO.out]; exact q))
        go_wp2_with fail
        refine C1.out.mono ?_
        rintro e w2 ⟨rfl, q2, hw2⟩
        have H2 := Lib.hid (show Ext wr w2 from by rw [hw2]; exact (Ext.refl wr).drewN q2)
        clear hw2
        go_wp2_with fail
        go_roundw
        case rel => exact ⟨j + 1, by omega, by go_num, hj1, Lib.hid (HE.out.trans H2.out), Lib.hid ((H2.out.block _ (Array.getElem?_eq_some_iff.1 HB.out).1).trans HB.out)⟩
        case measure => simp [intOf]; omega
      · have hje : Hid (skN t (bodies ss) = j) := Lib.hid (by
          rcases Nat.lt_or_ge j (skN t (bodies ss)) with h | h
          · exact absurd (by rw [HO.out]; exact skN_lt h HJ.out) q
          · exact Nat.le_antisymm h Hj.out)
        have HR := Lib.hid (show decide ((bodies ss)[skN t (bodies ss)]? = some t) = decide (sb = t) from by
          rw [hje.out, HJ.out]
          by_cases e : sb = t
          · rw [e, decide_eq_true rfl, decide_eq_true rfl]
          · rw [decide_eq_false e, decide_eq_false (fun h => e (by injection h))])
        obtain ⟨D, hD⟩ : ∃ D, D = decide (sb = t) := ⟨_, rfl⟩
        rw [← hD] at CS
        have HR := Lib.hid (HR.out.trans hD.symm)
        clear hD
        go_wp2_with fail
        refine C1.out.mono ?_
        rintro e w2 ⟨rfl, q2, hw2⟩
        have h2 : Ext wr w2 := by rw [hw2]; exact (Ext.refl wr).drewN q2
        have C2 := Lib.hid (CS.out w2 (HE.out.trans h2))
        have hb2 := (h2.block _ (Array.getElem?_eq_some_iff.1 HB.out).1).trans HB.out
        have c02 := cell_of_row w2 w.heap.size 0 _ _ (0, 0) hb2
        have hc2 : w2.cell? ⟨b, o + j, none⟩ = some (.slice sA sn sc) := (Below.cell h2 (p := ⟨b, o + j, none⟩) (World.block_lt_of_cell? wr _ hc)).trans hc
        have HE2 := Lib.hid (HE.out.trans h2)
        clear hw2 h2 hb2
        go_wp2_with fail
        refine C2.out.mono ?_
        rintro e w3 ⟨rfl, q3, hw3⟩
        have HE3 := Lib.hid (show Ext w w3 from by rw [hw3]; exact HE2.out.drewN q3)
        clear hw3
        go_wp2_with fail
        go_ret2
        exact ⟨by rw [HR.out, hje.out]; rfl, HE3.out⟩
    · obtain rfl : j = n := by omega
      have hje : skN t (bodies ss) = j := by have := Hj.out; omega
      have HR : decide ((bodies ss)[skN t (bodies ss)]? = some t) = false := by
        rw [hje, List.getElem?_eq_none (by rw [Hbl.out]; exact Nat.le_refl _)]; rfl
      have HR := Lib.hid HR
      have Hje := Lib.hid hje
      clear hje
      go_wp2_with fail
      go_ret2
      exact ⟨by rw [HR.out, Hje.out]; rfl, HE.out⟩

end Go.Proofs.Ytkmnhapeohlooaa

/-
  Layer 18: a list of the reference as it is written.
-/
namespace Go.Proofs.Ytkmnhapeohlooaa
open Go.RowKit
set_option maxRecDepth 100000

/-- The list at block O, written so far. -/
structure RO (w1 W : World) (O : Nat) (ts : List Sl) (vs : List Int) : Prop where
  lt : O < w1.heap.size
  size : w1.heap.size ≤ W.heap.size
  sys : W.os = w1.os ∧ W.tape = w1.tape ∧ W.output = w1.output
  kb : ∀ q, q < w1.heap.size → q ≠ O → W.heap[q]? = w1.heap[q]?
  ex : ∃ Ak ck Av cv, W.heap[O]? = some (.cells #[.slice Ak ts.length ck, .slice Av vs.length cv] 51 (0, 0)) ∧ OwnT W w1.heap.size Ak ck ts ∧ OwnG shZ 3 W w1.heap.size Av cv vs

section
variable {w1 W W' : World} {O : Nat} {ts : List Sl} {vs : List Int}
theorem RO.ext (h : RO w1 W O ts vs) (he : Ext W W') : RO w1 W' O ts vs := by
  obtain ⟨Ak, ck, Av, cv, h1, h2, h3⟩ := h.ex
  exact ⟨h.lt, Nat.le_trans h.size he.size, ⟨he.os.trans h.sys.1, he.tape.trans h.sys.2.1, he.output.trans h.sys.2.2⟩, fun q q1 q2 => (he.block q (Nat.lt_of_lt_of_le q1 h.size)).trans (h.kb q q1 q2), Ak, ck, Av, cv, (he.block O (Nat.lt_of_lt_of_le h.lt h.size)).trans h1, h2.ext he, h3.ext he⟩
theorem RO.toExt {w0 : World} (h : RO w1 W O ts vs) (he : Ext w0 w1) (hO : w0.heap.size ≤ O) : Ext w0 W :=
  ⟨h.sys.1.trans he.os, h.sys.2.1.trans he.tape, h.sys.2.2.trans he.output, Nat.le_trans he.size h.size, fun q hq => (h.kb q (Nat.lt_of_lt_of_le hq he.size) (by omega)).trans (he.block q hq)⟩

theorem two_ne {s t : TypeId} {cur : Array Value} {c2 : Array Value} {fr f2 : Nat × Nat} (hst : s ≠ t) {w : World} {q : Nat} (h1 : w.heap[q]? = some (.cells cur s fr)) (h2 : w.heap[q]? = some (.cells c2 t f2)) : False := by
  rw [h1] at h2
  injection h2 with h2
  injection h2 with _ h2
  exact hst h2

theorem RO.pushK (h : RO w1 W O ts vs) {Ak Av : Option Addr} {ck cv : Nat} (hb : W.heap[O]? = some (.cells #[.slice Ak ts.length ck, .slice Av vs.length cv] 51 (0, 0))) (hk : OwnT W w1.heap.size Ak ck ts) (hv : OwnG shZ 3 W w1.heap.size Av cv vs) {s : Sl}
    {A' : Option Addr} {c' : Nat} (ho : OwnT W' w1.heap.size A' c' (ts ++ [s])) (hg : W.grownBy W' (Ak.map (·.block))) :
    RO w1 (W'.setCell ⟨O, 0, none⟩ (.slice A' (ts.length + 1) c')) O (ts ++ [s]) vs ∧ W'.heap[O]? = some (.cells #[.slice Ak ts.length ck, .slice Av vs.length cv] 51 (0, 0)) := by
  have hlt0 := h.lt
  have hsz := h.size
  have hA : ∀ r, (Ak.map (·.block)) = some r → w1.heap.size ≤ r ∧ ∃ cur, W.heap[r]? = some (.cells cur 52 (0, 0)) := fun r e => by
    obtain ⟨a, ha, rfl⟩ := Option.map_eq_some_iff.1 e
    exact ⟨(hk.block a ha).1, hk.cellsAt a ha⟩
  have hA2 : ∀ a, A' = some a → w1.heap.size ≤ a.block := fun a ha => (ho.block a ha).1
  have hq : ∀ q, q < w1.heap.size → W'.heap[q]? = W.heap[q]? := fun q q1 => hg.block q (by omega) (fun e => by have := (hA q e.symm).1; omega)
  have hb' := (hq O hlt0).trans hb
  have hset : ∀ q, q ≠ O → q < W'.heap.size → (W'.setCell ⟨O, 0, none⟩ (.slice A' (ts.length + 1) c')).heap[q]? = W'.heap[q]? := fun q q1 q2 => Below.heap_setCell W' _ _ q (by simpa using q1)
  have hgs := grown_setCellS W' O 0 (.slice A' (ts.length + 1) c')
  refine ⟨⟨h.lt, Nat.le_trans hsz (Nat.le_trans hg.size hgs.size), ⟨(hgs.os.trans hg.os).trans h.sys.1, (hgs.tape.trans hg.tape).trans h.sys.2.1, (hgs.output.trans hg.output).trans h.sys.2.2⟩, fun q q1 q2 => ?_, A', c', Av, cv, ?_, ho.grown hgs (fun a ha e => by have := hA2 a ha; injection e with e; omega), hv.blk (fun a ha => ?_)⟩, hb'⟩
  · exact (hset q q2 (by have := hg.size; omega)).trans ((hq q q1).trans (h.kb q q1 q2))
  · rw [List.length_append, List.length_singleton]
    exact heap_setCell_same W' O 0 _ _ _ hb'
  · have h1 := hv.block a ha
    obtain ⟨cur, hcv⟩ := hv.cellsAt a ha
    refine (hset a.block (by omega) (by have := hg.size; omega)).trans (hg.block _ h1.2 (fun e => ?_))
    obtain ⟨cur2, hc⟩ := (hA _ e.symm).2
    exact two_ne (by decide) hcv hc

theorem RO.pushV (h : RO w1 W O ts vs) {Ak Av : Option Addr} {ck cv : Nat} (hb : W.heap[O]? = some (.cells #[.slice Ak ts.length ck, .slice Av vs.length cv] 51 (0, 0))) (hk : OwnT W w1.heap.size Ak ck ts) (hv : OwnG shZ 3 W w1.heap.size Av cv vs) {x : Int}
    {A' : Option Addr} {c' : Nat} (ho : OwnG shZ 3 W' w1.heap.size A' c' (vs ++ [x])) (hg : W.grownBy W' (Av.map (·.block))) :
    RO w1 (W'.setCell ⟨O, 1, none⟩ (.slice A' (vs.length + 1) c')) O ts (vs ++ [x]) ∧ W'.heap[O]? = some (.cells #[.slice Ak ts.length ck, .slice Av vs.length cv] 51 (0, 0)) := by
  have hlt0 := h.lt
  have hsz := h.size
  have hA : ∀ r, (Av.map (·.block)) = some r → w1.heap.size ≤ r ∧ ∃ cur, W.heap[r]? = some (.cells cur 3 (0, 0)) := fun r e => by
    obtain ⟨a, ha, rfl⟩ := Option.map_eq_some_iff.1 e
    exact ⟨(hv.block a ha).1, hv.cellsAt a ha⟩
  have hA2 : ∀ a, A' = some a → w1.heap.size ≤ a.block := fun a ha => (ho.block a ha).1
  have hq : ∀ q, q < w1.heap.size → W'.heap[q]? = W.heap[q]? := fun q q1 => hg.block q (by omega) (fun e => by have := (hA q e.symm).1; omega)
  have hb' := (hq O hlt0).trans hb
  have hset : ∀ q, q ≠ O → q < W'.heap.size → (W'.setCell ⟨O, 1, none⟩ (.slice A' (vs.length + 1) c')).heap[q]? = W'.heap[q]? := fun q q1 q2 => Below.heap_setCell W' _ _ q (by simpa using q1)
  have hgs := grown_setCellS W' O 1 (.slice A' (vs.length + 1) c')
  refine ⟨⟨h.lt, Nat.le_trans hsz (Nat.le_trans hg.size hgs.size), ⟨(hgs.os.trans hg.os).trans h.sys.1, (hgs.tape.trans hg.tape).trans h.sys.2.1, (hgs.output.trans hg.output).trans h.sys.2.2⟩, fun q q1 q2 => ?_, Ak, ck, A', c', ?_, hk.blk (fun a ha => ?_), ho.grown hgs (fun a ha e => by have := hA2 a ha; injection e with e; omega)⟩, hb'⟩
  · exact (hset q q2 (by have := hg.size; omega)).trans ((hq q q1).trans (h.kb q q1 q2))
  · rw [List.length_append, List.length_singleton]
    exact heap_setCell_same W' O 1 _ _ _ hb'
  · have h1 := hk.block a ha
    obtain ⟨cur, hcv⟩ := hk.cellsAt a ha
    refine (hset a.block (by omega) (by have := hg.size; omega)).trans (hg.block _ h1.2 (fun e => ?_))
    obtain ⟨cur2, hc⟩ := (hA _ e.symm).2
    exact two_ne (by decide) hcv hc
end

end Go.Proofs.Ytkmnhapeohlooaa
