import Derived.Test.YtkmnhapeohlooaaG11

/-
  Layer 18: what was put in last is got: walked.
-/
namespace Go.Proofs.Ytkmnhapeohlooaa
open Go.RowKit
set_option maxRecDepth 100000

theorem LA.one {w0 w : World} {sb : Nat} {hs : List Int} {L : List (List Nat)} {V : List Int} (h : LA w0 w sb hs L V) : ∃ X b, LS w X b sb hs L V := by
  obtain ⟨X, b, h1, _⟩ := h
  exact ⟨X, b, h1⟩

theorem hEn7 {w w' : World} {base n : Nat} {A : Option Addr} {us : List Sl} (h : Ents w base A n us) (he : Ext w w') : RdL w' A n us ∧ ∀ s ∈ us, Rd .u8 w' s.A s.body.length s.body :=
  ⟨h.rd.ext he, fun s hs => ((h.own s hs).ext he).rd⟩

set_option maxHeartbeats 6400000 in
theorem walk_SkipHolds (A1 : Option Addr) (n1 c1 : Nat) (xs1 : List Int) (A2 : Option Addr) (n2 c2 : Nat) (ss : List Sl) (A3 : Option Addr) (n3 c3 : Nat) (ask : List Nat) (w : World)
    (r1 : RdG shZ w A1 n1 xs1) (z1 : n1 ≤ 17592186044416) (r2 : TxL w A2 n2 ss) (z2 : n2 ≤ 1048576) (r3 : Rd .u8 w A3 n3 ask) (u3 : ∀ v ∈ ask, v < 256) (z3 : n3 ≤ 140737488355328) :
    Calls Try.prog 9 #[.slice A1 n1 c1, .slice A2 n2 c2, .slice A3 n3 c3] w fun e w' => e = .returned (.bool true) ∧ Ext w w' := by
  have C1 := Lib.hid (snew_any A1 n1 c1 xs1 w r1 z1)
  have CI := Lib.hid (fun W (hW : Ext w W) => refIndex_any A2 n2 c2 ss W (r2.ext hW) (by omega))
  have R2 := Lib.hid r2
  have R3 := Lib.hid r3
  have U3 := Lib.hid u3
  obtain ⟨ks, hks⟩ : ∃ ks, ks = bodies ss := ⟨_, rfl⟩
  have Hks := Lib.hid hks
  have Hkl := Lib.hid (show ks.length = n2 from by rw [hks, bodies_len]; exact r2.len)
  obtain ⟨H, hH⟩ : ∃ H, H = hts xs1 := ⟨_, rfl⟩
  rw [← hH] at C1
  clear r1 r2 r3 u3 hks hH
  go_enter Try.func9, Try.ntmps9
  go_wp2_with fail
  refine C1.out.mono ?_
  rintro e w1 ⟨sb, rfl, k1, he1⟩
  have K1 := Lib.hid (show LA w w1 sb H [] [] from ⟨_, _, k1, Nat.le_refl _, he1⟩)
  clear k1 he1 C1
  go_wp2_with fail
  refine (alive18_any _).mono ?_
  rintro e w2 ⟨rfl, he2⟩
  have K2 := Lib.hid (K1.out.ext he2)
  clear he2 K1
  go_wp2_with fail
  go_loopw [30] (fun i wr => ∃ j : Nat, j ≤ n2 ∧ i = .int .i64 j ∧ Hid (LA w wr sb H (lvA ks 1 j).1 (lvA ks 1 j).2)) (fun i _ => n2 - (intOf i).toNat)
  case atStart => exact ⟨0, Nat.zero_le _, rfl, K2⟩
  case round =>
    clear K2
    obtain ⟨j, hj, rfl, HT⟩ := hrel
    by_cases hlt : j < n2
    · obtain ⟨b, o, s, rfl, hf, hc, hs⟩ := (R2.out.ext HT.out.toExt).at_ hlt
      have hg : ks.getD j [] = s.body := by rw [Hks.out]; exact bodies_get hf
      have hb : (lvA ks 1 j).1.length < 1099511627776 := by have := (lvA_len ks 1 j).2; omega
      have CP := Lib.hid (laput_any HT.out hb s.A s.body.length s.c s.body ((j : Int) + 1) hs.rd hs.u8 hs.len)
      rw [← hg] at CP
      have HN : Hid (insL (lvA ks 1 j).1 (ks.getD j []) = (lvA ks 1 (j + 1)).1 ∧ putV (lvA ks 1 j).1 (lvA ks 1 j).2 (ks.getD j []) ((j : Int) + 1) = (lvA ks 1 (j + 1)).2) := Lib.hid ⟨rfl, rfl⟩
      rw [HN.out.1, HN.out.2] at CP
      obtain ⟨D, hD⟩ : ∃ D, D = decide (¬ (lvA ks 1 j).1[skN (ks.getD j []) (lvA ks 1 j).1]? = some (ks.getD j [])) := ⟨_, rfl⟩
      rw [← hD] at CP
      rw [← hg] at hc
      obtain ⟨sn, hsn⟩ : ∃ sn, sn = (ks.getD j []).length := ⟨_, rfl⟩
      rw [← hsn] at hc CP
      clear hf hs hg hb hsn hD
      go_wp2_with fail
      refine CP.out.mono ?_
      rintro e w5 ⟨rfl, h5⟩
      have H5 := Lib.hid h5
      clear h5 CP HN
      go_wp2_with fail
      go_roundw
      case rel => exact ⟨j + 1, by omega, by go_num, H5⟩
      case measure => simp [intOf]; omega
    · obtain rfl : j = n2 := by omega
      obtain ⟨L, hL⟩ : ∃ L, L = (lvA ks 1 j).1 := ⟨_, rfl⟩
      obtain ⟨V, hV⟩ : ∃ V, V = (lvA ks 1 j).2 := ⟨_, rfl⟩
      have HT1 := HT.out
      rw [← hL, ← hV] at HT1
      have HT1 := Lib.hid HT1
      have hfacts := lvA_get ks ask j (by rw [Hkl.out]; exact Nat.le_refl _)
      have hasc := lvA_asc ks 1 j (by rw [Hkl.out]; exact Nat.le_refl _)
      have hlen := lvA_len ks 1 j
      have hden := lvA_dents ks 1 j (by rw [Hkl.out]; exact Nat.le_refl _)
      rw [List.take_of_length_le (by rw [Hkl.out]; exact Nat.le_refl _)] at hden
      rw [← hL, ← hV] at hfacts hlen
      rw [← hL] at hasc hden
      have HF := Lib.hid hfacts
      have HA := Lib.hid hasc
      have HLn := Lib.hid hlen
      have HD := Lib.hid hden
      clear HT hL hV hfacts hasc hlen hden
      go_wp2_with fail
      go_loopw [10, 43] (fun v i ws => ∃ k : Nat, k ≤ j ∧ i = .int .i64 k ∧ v = .int .i64 (lastA ks ask k : Int) ∧ Hid (Ext wr ws)) (fun _ i _ => j - (intOf i).toNat)
      case atStart => exact ⟨0, Nat.zero_le _, rfl, rfl, Lib.hid (Ext.refl _)⟩
      case round =>
        obtain ⟨k, hk, rfl, rfl, HE⟩ := hrel
        have hE := HT1.out.toExt.trans HE.out
        by_cases hlt2 : k < j
        · obtain ⟨b, o, s, rfl, hf, hc, hs⟩ := (R2.out.ext hE).at_ hlt2
          have hg : ks.getD k [] = s.body := by rw [Hks.out]; exact bodies_get hf
          have CS := Lib.hid (same_any s.A A3 s.body.length s.c n3 c3 s.body ask _ hs.rd (R3.out.ext hE) (by have := hs.len; omega) (by omega))
          rw [← hg] at CS hc
          have hla : lastA ks ask k ≤ k := lastA_le ks ask k
          have HSu := Lib.hid (lastA_succ ks ask k)
          obtain ⟨la, hla2⟩ : ∃ la, la = lastA ks ask k := ⟨_, rfl⟩
          obtain ⟨sn, hsn⟩ : ∃ sn, sn = (ks.getD k []).length := ⟨_, rfl⟩
          rw [← hla2] at HSu hla ⊢
          rw [← hsn] at hc CS
          by_cases e : ks.getD k [] = ask
          · rw [decide_eq_true e] at CS
            have HSu := Lib.hid (HSu.out.trans (if_pos e))
            clear hf hs hg hsn hla2 hE e
            go_wp2_with fail
            refine CS.out.mono ?_
            rintro e w5 ⟨rfl, q5, hw5⟩
            have H5 := Lib.hid (HE.out.drewN q5)
            rw [← hw5] at H5
            clear hw5
            go_wp2_with fail
            go_roundw
            case rel => exact ⟨k + 1, by omega, by go_num, by rw [HSu.out]; rfl, H5⟩
            case measure => simp [intOf]; omega
          · rw [decide_eq_false e] at CS
            have HSu := Lib.hid (HSu.out.trans (if_neg e))
            clear hf hs hg hsn hla2 hE e
            go_wp2_with fail
            refine CS.out.mono ?_
            rintro e w5 ⟨rfl, q5, hw5⟩
            have H5 := Lib.hid (HE.out.drewN q5)
            rw [← hw5] at H5
            clear hw5
            go_wp2_with fail
            go_roundw
            case rel => exact ⟨k + 1, by omega, by go_num, by rw [HSu.out], H5⟩
            case measure => simp [intOf]; omega
        · obtain rfl : k = j := by omega
          obtain ⟨X, b, l1⟩ := (HT1.out.ext HE.out).one
          have hLb : L.length < 1099511627776 := by have := HLn.out.2; omega
          have CG := lsget_any l1 hLb A3 n3 c3 ask (R3.out.ext hE) U3.out
          rw [show (if L[skN ask L]? = some ask then V.getD (skN ask L) 0 else 0) = gv L V ask from rfl, HF.out.1] at CG
          obtain ⟨B, hB⟩ : ∃ B, B = decide (L[skN ask L]? = some ask) := ⟨_, rfl⟩
          have hBl : decide ((0 : Int) < (lastA ks ask k : Int)) = B := by
            rw [hB]
            by_cases hm : ask ∈ L
            · rw [decide_eq_true ((skN_iff HA.out).2 hm), decide_eq_true (by have := HF.out.2.1 hm; omega)]
            · rw [decide_eq_false (fun q => hm ((skN_iff HA.out).1 q)), decide_eq_false (fun q => hm (HF.out.2.2 (by omega)))]
          rw [← hB] at CG
          have CG := Lib.hid CG
          have HL1 := Lib.hid (fun W hW => l1.ext (w' := W) hW)
          have HE0 := Lib.hid hE
          obtain ⟨la, hla⟩ : ∃ la, la = lastA ks ask k := ⟨_, rfl⟩
          rw [← hla] at CG hBl ⊢
          have hBn : decide (0 < la) = B := by rw [← hBl]; by_cases q : 0 < la <;> simp [q]
          clear l1 hE hB hla HT1
          go_wp2_with fail
          refine CG.out.mono ?_
          rintro e w5 ⟨rfl, he5⟩
          have HE5 := Lib.hid he5
          have CI2 := Lib.hid (CI.out w5 (HE0.out.trans he5))
          rw [← Hks.out] at CI2
          obtain ⟨E, hE⟩ : ∃ E, E = (idxR ks).2.2 := ⟨_, rfl⟩
          have HEe := Lib.hid hE
          unfold RIdxPost at CI2
          rw [← hE] at CI2
          clear he5 CG hE
          go_wp2_with fail
          refine CI2.out.mono ?_
          rintro e w6 ⟨A6, c6, us, B6, cB, rfl, hbu, hEn, _, he6⟩
          have HE6 := Lib.hid (HE5.out.trans he6)
          have HU := Lib.hid (show bodies us = (idxR ks).1 ∧ Ents w6 w5.heap.size A6 us.length us from ⟨hbu, hEn⟩)
          obtain ⟨m6, hm6⟩ : ∃ m6, m6 = us.length := ⟨_, rfl⟩
          have Hm6 := Lib.hid hm6
          rw [← hm6]
          obtain ⟨g1, g2⟩ := rng_whole L V HLn.out.1
          have CR := srange_any (HL1.out _ HE6.out) hLb none 0 0 [] ⟨rfl, fun h => absurd h (by decide)⟩ (by decide) (by decide) none 0 0 [] ⟨rfl, fun h => absurd h (by decide)⟩ (by decide)
          unfold RngPost at CR
          rw [g1, g2, HLn.out.1] at CR
          have CR := Lib.hid CR
          clear hbu hEn he6 CI2 hm6 g1 g2
          go_wp2_with fail
          refine CR.out.mono ?_
          rintro e w7 ⟨A7, c7, ts, Av, cv, rfl, hbt, hk7, ht7, _, he7⟩
          have htl : ts.length = L.length := by rw [← hbt, bodies_len]
          rw [htl]
          have HE7 := Lib.hid (HE6.out.trans he7)
          have CL := Lib.hid (lslen_any (HL1.out _ HE7.out) hLb)
          have HFin := Lib.hid (HE0.out.trans HE7.out)
          have HT7 := Lib.hid (show bodies ts = L ∧ RdL w7 A7 L.length ts ∧ (∀ s ∈ ts, Rd .u8 w7 s.A s.body.length s.body) from ⟨hbt, by have := OwnG.rdL hk7; rwa [htl] at this, ht7.rd⟩)
          have HU7 := Lib.hid (hEn7 HU.out.2 he7)
          obtain ⟨ln, hln⟩ : ∃ ln, ln = L.length := ⟨_, rfl⟩
          have Hln := Lib.hid hln
          rw [← hln] at CL HT7 ⊢
          have hlnb : ln ≤ 1048576 := by rw [hln]; have := HLn.out.2; omega
          clear hbt hk7 ht7 he7 htl CR hln
          by_cases hbad : 4096 < ks.length ∨ anyLong ks = true
          · have hE4 : E = 4 := by rw [HEe.out, idxR_bad hbad]
            subst hE4
            clear hbad
            go_wp2_with fail
            refine CL.out.mono ?_
            rintro e w8 ⟨rfl, rfl⟩
            go_wp2_with fail
            refine CL.out.mono ?_
            rintro e w8 ⟨rfl, rfl⟩
            go_wp2_with fail
            go_ret
            exact ⟨rfl, HFin.out⟩
          · have hk1 : ks.length ≤ 4096 := by
              rcases Nat.lt_or_ge 4096 ks.length with q | q
              · exact absurd (.inl q) hbad
              · exact q
            have hk2 : anyLong ks = false := by
              cases q : anyLong ks with
              | true => exact absurd (.inr q) hbad
              | false => rfl
            have hE4 : E = 0 := by rw [HEe.out, idxR_good hk1 hk2]
            have hUL : bodies us = L := by rw [HU.out.1, idxR_good hk1 hk2]; exact HD.out.symm
            have hm6 : m6 = ln := by rw [Hm6.out, Hln.out, ← hUL, bodies_len]
            subst hE4 hm6
            have hsb : ∀ s ∈ ts, s.body.length ≤ 140737488355328 := fun s hs => by
              have h1 : s.body ∈ L := by rw [← HT7.out.1]; exact List.mem_map_of_mem hs
              rw [HD.out] at h1
              have := dents_short hk2 _ h1
              omega
            have hru : RdL w7 A6 m6 us := by have := HU7.out.1; rwa [← Hm6.out] at this
            have CT := Lib.hid (sameT_yes A7 A6 m6 c7 m6 c6 ts us w7 HT7.out.2.1 hru (HT7.out.1.trans hUL.symm) (by omega) (fun s hs => ⟨HT7.out.2.2 s hs, hsb s hs⟩) HU7.out.2)
            clear hbad hk1 hk2 hUL hsb hru
            go_wp2_with fail
            refine CT.out.mono ?_
            rintro e w8 ⟨rfl, q8, hw8⟩
            have hE8 : Ext w7 w8 := by rw [hw8]; exact (Ext.refl w7).drewN q8
            have HF8 := Lib.hid (HFin.out.trans hE8)
            have CL8 := Lib.hid (lslen_any (HL1.out _ (HE7.out.trans hE8)) hLb)
            rw [← Hln.out] at CL8
            clear hw8 hE8
            go_wp2_with fail
            refine CL8.out.mono ?_
            rintro e w9 ⟨rfl, rfl⟩
            go_wp2_with fail
            go_ret
            exact ⟨rfl, HF8.out⟩

end Go.Proofs.Ytkmnhapeohlooaa

/-
  Layer 18: pages: the key behind a key; two cells that are written in a round.
-/
namespace Go.Proofs.Ytkmnhapeohlooaa
open Go.RowKit
set_option maxRecDepth 100000

/-- A key and a byte 0 stands just behind the key. -/
theorem ord_snoc0 : ∀ (k y : List Nat), ordT y (k ++ [0]) < 0 ↔ ¬ ordT k y < 0
  | [], [] => by decide
  | [], a :: r => by
    rw [ordT_nil_cons, List.nil_append]
    by_cases h : a = 0
    · subst h
      rw [ordT_eq rfl]
      cases r with
      | nil => decide
      | cons b r => rw [ordT_cons_nil]; decide
    · rw [ordT_gt (by omega)]; decide
  | b :: s, [] => by
    rw [List.cons_append, ordT_nil_cons, ordT_cons_nil]; decide
  | b :: s, a :: r => by
    rw [List.cons_append]
    rcases Nat.lt_trichotomy a b with h | h | h
    · rw [ordT_lt h, ordT_gt h]; decide
    · rw [ordT_eq h, ordT_eq h.symm]; exact ord_snoc0 s r
    · rw [ordT_gt h, ordT_lt h]; decide

theorem skN_next {L : List (List Nat)} (ha : Asc L) {p : Nat} {k : List Nat} (hp : L[p]? = some k) : skN (k ++ [0]) L = p + 1 := by
  have hpl := (List.getElem?_eq_some_iff.1 hp).1
  have hle := skN_le (k ++ [0]) L
  rcases Nat.lt_trichotomy (skN (k ++ [0]) L) (p + 1) with h | h | h
  · have h1 := skN_ge ha (show skN (k ++ [0]) L ≤ p by omega) hp
    have h2 := (ord_snoc0 k k).2 (by rw [ordT_self]; decide)
    omega
  · exact h
  · obtain ⟨y, hy⟩ : ∃ y, L[p + 1]? = some y := ⟨L[p + 1], List.getElem?_eq_getElem (by omega)⟩
    have h1 := skN_lt h hy
    have h2 := (ord_snoc0 k y).1 h1
    exact absurd (asc_lt ha hp hy (by omega)) h2

theorem rng_from (L : List (List Nat)) (V : List Int) (hV : V.length = L.length) (lo : List Nat) : rngK L lo [] = L.drop (skN lo L) ∧ rngV L V lo [] = V.drop (skN lo L) := by
  have hk : rngK L lo [] = L.drop (skN lo L) := by
    unfold rngK
    exact tw_all (fun x _ => rfl)
  refine ⟨hk, ?_⟩
  unfold rngV
  rw [hk, List.take_of_length_le (by simp; omega)]

/-- Two cells that a round writes. -/
structure PG (w1 W : World) (Bn Bt : Nat) (n t : Nat) : Prop where
  fr : FrX (fun q => q = Bn ∨ q = Bt) w1 W
  lt : Bn < w1.heap.size ∧ Bt < w1.heap.size ∧ Bn ≠ Bt
  hn : W.heap[Bn]? = some (.cells #[.int .i64 (n : Int)] 3 (0, 0))
  ht : W.heap[Bt]? = some (.cells #[.int .i64 (t : Int)] 3 (0, 0))
section
variable {w1 W W' : World} {Bn Bt n t : Nat}
theorem PG.turn (h : PG w1 W Bn Bt n t) {row : Option Nat} (hg : W.grownBy W' row) (hr : ∀ r, row = some r → w1.heap.size ≤ r ∧ ∃ o : Obj, W.heap[r]? = some o ∧ o.isCells = false) : PG w1 W' Bn Bt n t := by
  have hc : ∀ r, row = some r → ∃ o : Obj, W.heap[r]? = some o ∧ o.isCells = false := fun r e => (hr r e).2
  refine ⟨⟨hg.os.trans h.fr.os, hg.tape.trans h.fr.tape, hg.output.trans h.fr.output, Nat.le_trans h.fr.size hg.size, fun q hq hx => ?_⟩, h.lt, kc_grown hg hc h.hn, kc_grown hg hc h.ht⟩
  exact (hg.block q (Nat.lt_of_lt_of_le hq h.fr.size) (fun e => by have := (hr q e.symm).1; omega)).trans (h.fr.block q hq hx)
theorem PG.cn (h : PG w1 W Bn Bt n t) : W.cell? ⟨Bn, 0, none⟩ = some (.int .i64 (n : Int)) := cell_of_row W Bn 0 _ _ (0, 0) h.hn
theorem PG.ct (h : PG w1 W Bn Bt n t) : W.cell? ⟨Bt, 0, none⟩ = some (.int .i64 (t : Int)) := cell_of_row W Bt 0 _ _ (0, 0) h.ht
theorem PG.fz (h : PG w1 W Bn Bt n t) : W.frozen? ⟨Bn, 0, none⟩ = false ∧ W.frozen? ⟨Bt, 0, none⟩ = false := ⟨by simp [World.frozen?, h.hn], by simp [World.frozen?, h.ht]⟩
theorem PG.ext (h : PG w1 W Bn Bt n t) (he : Ext W W') : PG w1 W' Bn Bt n t := h.turn (row := none) ⟨he.os, he.tape, he.output, he.size, fun i hi _ => he.block i hi⟩ (fun r e => by cases e)
theorem PG.two (h : PG w1 W Bn Bt n t) (he : Ext W W') (v u : Nat) : PG w1 ((W'.setCell ⟨Bn, 0, none⟩ (.int .i64 (v : Int))).setCell ⟨Bt, 0, none⟩ (.int .i64 (u : Int))) Bn Bt v u := by
  have h0 := h.ext he
  have g1 := grown_setCellS W' Bn 0 (.int .i64 (v : Int))
  have g2 := grown_setCellS (W'.setCell ⟨Bn, 0, none⟩ (.int .i64 (v : Int))) Bt 0 (.int .i64 (u : Int))
  have s1 := heap_setCell_same W' Bn 0 _ _ (.int .i64 (v : Int)) h0.hn
  have t1 := (Below.heap_setCell W' ⟨Bn, 0, none⟩ (.int .i64 (v : Int)) Bt (by have := h.lt.2.2; simp; omega)).trans h0.ht
  refine ⟨(h0.fr.trans (grownBy_frX g1 (.inl (.inl rfl)))).trans (grownBy_frX g2 (.inl (.inr rfl))), h.lt, ?_, heap_setCell_same _ Bt 0 _ _ _ t1⟩
  exact (Below.heap_setCell _ ⟨Bt, 0, none⟩ (.int .i64 (u : Int)) Bn (by have := h.lt.2.2; simp; omega)).trans s1
end

theorem RdG.fr {T : Type} {s : Shape T} {P : Nat → Prop} {w w' : World} {A : Option Addr} {n : Nat} {xs : List T} (h : RdG s w A n xs) (f : FrX P w w') (hP : ∀ a, A = some a → ¬ P a.block) : RdG s w' A n xs :=
  ⟨h.1, fun hn => by
    obtain ⟨b, o, e, hlt, hc⟩ := h.2 hn
    exact ⟨b, o, e, Nat.lt_of_lt_of_le hlt f.size, fun j x hj i u hu => (World.cell?_of_block (w := w) (a := ⟨b, o + j * s.sz + i, none⟩) (show w'.heap[b]? = w.heap[b]? from f.block b hlt (hP _ e))).trans (hc j x hj i u hu)⟩⟩

def mkD (D : Nat) : Deferred := { target := .collected D, args := #[] }
/-- A function's end where only marks are left. -/
theorem leaves_mk {F : Fence} {n : Nat} {P : Program} {fn : Func} {tmps : Array Value} {R : Ending → World → Prop} (Z : World → Prop) : ∀ (ds : List Nat), ds.Nodup →
    (∀ w D, Z w → D ∈ ds → w.heap[D]? = some (.deferred (some [])) → Z (w.putObj D (.deferred none))) → (∀ w, Z w → LeavesIn F n P fn tmps R [] .returning w) →
    ∀ w, Z w → (∀ D ∈ ds, w.heap[D]? = some (.deferred (some []))) → LeavesInM F n P fn tmps R (ds.map mkD) .returning w := by
  intro ds
  induction ds with
  | nil => intro _ _ hend w hz _; exact hend w hz
  | cons D ds ih =>
    intro hnd hZ hend w hz hm
    have hD := hm D List.mem_cons_self
    refine ⟨by simp, .inl ⟨_, _, rfl, run_takeDeferred hD, ?_⟩⟩
    refine ih (List.nodup_cons.1 hnd).2 (fun w' D' h1 h2 h3 => hZ w' D' h1 (List.mem_cons_of_mem _ h2) h3) hend _ (hZ w D hz List.mem_cons_self hD) (fun D' hD' => ?_)
    rw [World.putObj_heap_other (fun e => (List.nodup_cons.1 hnd).1 (by rw [← e]; exact hD'))]
    exact hm D' (List.mem_cons_of_mem _ hD')

theorem pages_end {w W : World} {B8 : Nat} {tmps : Array Value} {ds : List Nat} (h8 : tmps[8]? = some (.pointer (some ⟨B8, 0, none⟩))) (hc : W.cell? ⟨B8, 0, none⟩ = some (.bool true)) (hE : Ext w W) (hnd : ds.Nodup) (hm : ∀ D ∈ ds, w.heap.size ≤ D ∧ W.heap[D]? = some (.deferred (some []))) :
    bodyPostM Fence.wide 6 Try.prog Try.f10 (fun e w' => e = .returned (.bool true) ∧ Ext w w') .ret { tmps := tmps, defers := ds.map mkD } W := by
  refine leaves_mk (fun W => W.cell? ⟨B8, 0, none⟩ = some (.bool true) ∧ Ext w W) ds hnd (fun W D hZ hD hW => ?_) (fun W hZ => ?_) W ⟨hc, hE⟩ (fun D hD => (hm D hD).2)
  · refine ⟨cell_kept hZ.1 (grownBy_putObj' W D _) (fun r e => by cases e; exact ⟨_, hW, rfl⟩), grownBy_ext hZ.2 (grownBy_putObj' W D _) (fun g e => by cases e; exact (hm D hD).1)⟩
  · refine ⟨.bool true, ?_, rfl, hZ.2⟩
    have h := hZ.1
    have h9 : tmps.getD 8 undef = .pointer (some ⟨B8, 0, none⟩) := by simp [Array.getD_eq_getD_getElem?, h8]
    simp [results, Try.results10, go_sem, h, h8]

end Go.Proofs.Ytkmnhapeohlooaa
