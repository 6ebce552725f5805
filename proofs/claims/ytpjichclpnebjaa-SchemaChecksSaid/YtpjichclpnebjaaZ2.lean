import Derived.Test.YtpjichclpnebjaaZ1

-- part H9
/-
  Layer 6: sets and operations, the program's and the document's.
-/
namespace Go.Proofs.Ytpjichclpnebjaa
open Go.RowKit

set_option maxHeartbeats 6400000 in
set_option maxRecDepth 100000 in
theorem refSsets_any (A : Option Addr) (n c : Nat) (keys : Int) (cs : List Col) (A2 : Option Addr) (n2 c2 : Nat) (ts : List Si) (w : World) (hs : SchIn w A n c cs) (hx : RdT w A2 n2 ts) (hn2 : n2 ≤ 140737488355328) :
    Calls Try.prog 21 #[.agg #[.slice A n c, .int .i64 keys], .slice A2 n2 c2] w fun e w' => e = .returned (.int .i64 (setsS keys cs ts)) ∧ Ext w w' := by
  have hE0 : Ext w (w.alloc (.cells #[.slice A n c, .int .i64 keys] 24)) := (Ext.refl w).alloc _
  have h1 := hs.ext hE0
  have hnle := hs.le
  have hl := hs.rd.1
  have hl2 := hx.1
  obtain ⟨R, hR⟩ : ∃ R, R = setsS keys cs ts := ⟨_, rfl⟩
  rw [← hR]
  unfold setsS at hR
  obtain ⟨E, hEe⟩ : ∃ E, E = schE keys cs := ⟨_, rfl⟩
  rw [← hEe] at hR
  have HE := Lib.hid hEe
  by_cases e0 : E = 0
  · rw [if_neg (fun q => q e0)] at hR
    have hinv := schE_inv (hEe.symm.trans e0)
    have b1 : (E != 0) = false := by simp [e0]
    have hk1 := hinv.2.2.1
    have hk2 := hinv.2.2.2.1
    have hkn : keys ≤ (n : Int) := by rw [← hl]; exact hinv.2.2.2.2
    unfold setsE at hR
    rw [hl2] at hR
    clear hEe e0 hinv
    by_cases h0 : n2 = 0
    · rw [if_pos h0] at hR
      subst h0 hR
      go_enter Try.func21, Try.ntmps21
      go_wp2_with fail
      refine (refScheck_any A n c keys cs _ h1.rd h1.nm h1.le).mono ?_
      rintro e w1 ⟨rfl, he1⟩
      rw [← HE.out]
      have hc1 := he1.cells
      go_wp2
      go_ret
      exact ⟨rfl, hE0.trans he1⟩
    · rw [if_neg h0] at hR
      have HR := Lib.hid hR
      have Hl := Lib.hid hl
      have Hl2 := Lib.hid hl2
      have b0 : ((n2 : Int) == 0) = false := by rw [beq_eq_false_iff_ne]; omega
      clear hR hl hl2 h0
      go_enter Try.func21, Try.ntmps21
      go_wp2_with fail
      refine (refScheck_any A n c keys cs _ h1.rd h1.nm h1.le).mono ?_
      rintro e w1 ⟨rfl, he1⟩
      rw [← HE.out]
      have s1 := (AtS.box w A n c keys).ext he1
      have hE1 := hE0.trans he1
      clear he1 hE0 h1
      go_wp2
      go_loopw [6] (fun i wr => ∃ (j : Nat) (L : Int), j ≤ n2 ∧ i = .int .i64 j ∧ 0 ≤ L ∧ Hid ((j = 0 → L = keys - 1) ∧ (0 < j → keys ≤ L ∧ ∃ t, ts[j - 1]? = some t ∧ t.col = L)) ∧ Ext w wr ∧ Hid (R = setF cs L (ts.drop j)) ∧ AtS wr w.heap.size A n c keys) (fun i _ => n2 - (intOf i).toNat)
      case atStart => exact ⟨0, keys - 1, Nat.zero_le _, rfl, by omega, ⟨fun _ => rfl, fun q => absurd q (by omega)⟩, hE1, HR.out, s1⟩
      case round =>
        clear s1 hE1
        obtain ⟨j, L, hj, rfl, hL, HL, hE, HF, s0⟩ := hrel
        obtain ⟨k0, k1, z0⟩ := s0
        by_cases hlt : j < n2
        · have hx' := hx.ext hE
          obtain ⟨b2, o2, t, rfl, hb2, ht, e0, e1, e2, e3, hin⟩ := hx'.at_ hlt
          have hrow := HF.out.trans (setF_at ht)
          rw [Hl.out] at hrow
          have Ht := Lib.hid ht
          obtain ⟨q, xn, xi, xA, xc, xt⟩ := t
          simp only at e0 e1 e2 e3 hrow
          obtain ⟨xr, xu, x0, x1, xl⟩ := hin
          simp only at xr xu x0 x1 xl
          obtain ⟨n3, hn3⟩ : ∃ n3, n3 = xt.length := ⟨_, rfl⟩
          rw [← hn3] at e3 xr xl
          -- the column ahead
          have prev : ∀ p, j = p + 1 → wr.cell? ⟨b2, o2 + p * 4, none⟩ = some (.int .i64 L) := by
            intro p hp
            subst hp
            obtain ⟨_, t', ht', hc'⟩ := HL.out.2 (by omega)
            obtain ⟨b3, o3, t3, hA3, _, ht3, f0, _⟩ := hx'.at_ (show p < n2 by omega)
            injection hA3 with hA3
            injection hA3 with h3 h4
            subst h3 h4
            rw [Nat.add_sub_cancel] at ht'
            rw [ht'] at ht3
            injection ht3 with ht3
            subst ht3
            rw [← hc']
            exact f0
          have hjc : (j = 0 ∧ L = keys - 1) ∨ ∃ p, j = p + 1 ∧ keys ≤ L := by
            cases j with
            | zero => exact .inl ⟨rfl, HL.out.1 rfl⟩
            | succ p => exact .inr ⟨p, rfl, (HL.out.2 (by omega)).1⟩
          have i0 : (0 : Int) ≤ (j : Int) := by omega
          have i1 : (j : Int) < (n2 : Int) := by omega
          by_cases hbad : q ≤ L ∨ (n : Int) ≤ q
          · have HN := Lib.hid (hrow.trans (if_pos hbad))
            clear hrow hn3 ht HF
            rcases hjc with ⟨rfl, hLk⟩ | ⟨p, rfl, hLk⟩
            · have key : decide (q < keys) = true ∨ (decide (q < keys) = false ∧ decide ((n : Int) ≤ q) = true) := by
                simp only [decide_eq_true_eq, decide_eq_false_iff_not]; omega
              have z1 : (0 : Int) < (n2 : Int) := by omega
              rw [Nat.zero_mul, Nat.add_zero] at e0
              clear prev hbad hLk i0 i1
              rcases key with q1 | ⟨q1, q2⟩
              all_goals
                go_wp2
                go_ret
                exact ⟨by rw [HN.out]; rfl, hE⟩
            · have pv := prev p rfl
              have key : decide (q < keys) = true ∨ (decide (q < keys) = false ∧ decide ((n : Int) ≤ q) = true) ∨ (decide (q < keys) = false ∧ decide ((n : Int) ≤ q) = false ∧ decide (q ≤ L) = true) := by
                simp only [decide_eq_true_eq, decide_eq_false_iff_not]; omega
              have p0 : (0 : Int) < (p : Int) + 1 := by omega
              have pi0 : (0 : Int) ≤ (p : Int) + 1 := by omega
              have pi1 : (p : Int) + 1 < (n2 : Int) := by omega
              have pj0 : (0 : Int) ≤ (p : Int) := by omega
              have pj1 : (p : Int) < (n2 : Int) := by omega
              clear prev hbad hLk
              rcases key with q1 | ⟨q1, q2⟩ | ⟨q1, q2, q3⟩
              all_goals
                go_wp2
                go_ret
                exact ⟨by rw [HN.out]; rfl, hE⟩
          · rw [if_neg hbad] at hrow
            obtain ⟨qq, rfl⟩ := Int.eq_ofNat_of_zero_le (show 0 ≤ q by omega)
            have q1 : decide ((qq : Int) ≤ L) = false := decide_eq_false (by omega)
            have q2 : decide ((n : Int) ≤ (qq : Int)) = false := decide_eq_false (by omega)
            have q2' : decide (n ≤ qq) = false := decide_eq_false (by omega)
            have q3 : decide ((qq : Int) < keys) = false := decide_eq_false (by rcases hjc with ⟨_, h⟩ | ⟨_, _, h⟩ <;> omega)
            have i2 : (qq : Int) < (n : Int) := by omega
            have i3 : (0 : Int) ≤ (qq : Int) := by omega
            have hkq : keys ≤ (qq : Int) := by rcases hjc with ⟨_, h⟩ | ⟨_, _, h⟩ <;> omega
            obtain ⟨b, o, d, rfl, hb, hd, c0, c1, c2'⟩ := (hs.rd.ext hE).at_ (show qq < n by omega)
            rw [Int.toNat_natCast, colAt_of hd] at hrow
            obtain ⟨nm, kd, nl⟩ := d
            simp only at c0 c1 c2'
            obtain ⟨v, hv⟩ : ∃ v, v = chk kd nl xn xi xt := ⟨_, rfl⟩
            have hvv : chkC ⟨nm, kd, nl⟩ ⟨xn, xi, xA, xc, xt⟩ = v := hv.symm
            rw [hvv] at hrow
            have Hrow := Lib.hid hrow
            have HC : Hid (∀ W, Ext wr W → Calls Try.prog 58 #[.int .i64 kd, .bool nl, .agg #[.bool xn, .int .i64 xi, .slice xA n3 xc]] W fun e w' => e = .returned (.int .i64 v) ∧ Ext W w') := Lib.hid (fun W hW => by
              rw [hv]; exact refCheck_any kd nl xn xi xA n3 xc xt W (xr.ext hW) x0 x1 (by omega))
            have K : Hid (∀ w', Ext wr w' → w'.cell? ⟨w.heap.size, 0, none⟩ = some (.slice (some ⟨b, o, none⟩) n c) ∧ w'.cell? ⟨b, o + qq * 3 + 1, none⟩ = some (.int .i64 kd) ∧ w'.cell? ⟨b, o + qq * 3 + 2, none⟩ = some (.bool nl) ∧ w'.cell? ⟨b2, o2 + j * 4 + 1, none⟩ = some (.bool xn) ∧ w'.cell? ⟨b2, o2 + j * 4 + 2, none⟩ = some (.int .i64 xi) ∧ w'.cell? ⟨b2, o2 + j * 4 + 3, none⟩ = some (.slice xA n3 xc)) := Lib.hid (fun w' he =>
              ⟨(he.cells _ _ z0).trans k0, (he.cells b _ hb).trans c1, (he.cells b _ hb).trans c2', (he.cells b2 _ hb2).trans e1, (he.cells b2 _ hb2).trans e2, (he.cells b2 _ hb2).trans e3⟩)
            have g8 := K.out _ (Ext.refl wr)
            clear hrow hvv hv hn3 ht hd hbad HF
            have fin : ∀ (w3 : World), Ext wr w3 → Ext w w3 ∧ AtS w3 w.heap.size (some ⟨b, o, none⟩) n c keys := fun w3 h => ⟨hE.trans h, (AtS.mk k0 k1 z0).ext h⟩
            have Hfin := Lib.hid fin
            have HLn : Hid ((j + 1 = 0 → (qq : Int) = keys - 1) ∧ (0 < j + 1 → keys ≤ (qq : Int) ∧ ∃ t, ts[j + 1 - 1]? = some t ∧ t.col = (qq : Int))) := Lib.hid ⟨fun q => absurd q (by omega), fun _ => ⟨hkq, _, by rw [Nat.add_sub_cancel]; exact Ht.out, rfl⟩⟩
            clear fin
            rcases hjc with ⟨hj0, _⟩ | ⟨p, hjp, _⟩
            · have j1 : decide ((0 : Int) < (j : Int)) = false := decide_eq_false (by omega)
              have j1' : decide (0 < j) = false := decide_eq_false (by omega)
              clear prev hj0
              go_wp2_with fail
              go_region_held3 (fun w' => w'.cell? ⟨w.heap.size, 0, none⟩ = some (.slice (some ⟨b, o, none⟩) n c) ∧ w'.cell? ⟨b, o + qq * 3 + 1, none⟩ = some (.int .i64 kd) ∧ w'.cell? ⟨b, o + qq * 3 + 2, none⟩ = some (.bool nl) ∧ w'.cell? ⟨b2, o2 + j * 4 + 1, none⟩ = some (.bool xn) ∧ w'.cell? ⟨b2, o2 + j * 4 + 2, none⟩ = some (.int .i64 xi) ∧ w'.cell? ⟨b2, o2 + j * 4 + 3, none⟩ = some (.slice xA n3 xc))
                (first | exact g8 | (refine K.out _ ?_; (repeat (first | exact Ext.refl _ | (with_reducible refine Ext.trans ?_ he3) | apply Ext.drew | apply Ext.alloc | fail))) | fail)
                (first
                  | (go_at_call 58; (with_reducible refine (HC.out _ ?_).mono ?_); (focus ((repeat (first | exact Ext.refl _ | (with_reducible refine Ext.trans ?_ he3) | apply Ext.drew | apply Ext.alloc | fail)); done)); rintro e w3 ⟨rfl, he3⟩)
                  | fail)
              obtain ⟨hE3, s3⟩ := Hfin.out w3 (by (repeat (first | exact Ext.refl _ | (with_reducible refine Ext.trans ?_ he3) | apply Ext.drew | apply Ext.alloc | fail)))
              by_cases v0 : v = 0
              · have HN := Lib.hid (Hrow.out.trans (if_neg (fun r => r v0)))
                have b2 : (v != 0) = false := by simp [v0]
                clear v0
                go_wp2
                go_roundw
                case rel => exact ⟨j + 1, (qq : Int), by omega, by go_num, by omega, HLn.out, hE3, HN.out, s3⟩
                case measure => simp [intOf]; omega
              · have HN := Lib.hid (Hrow.out.trans (if_pos v0))
                have b2 : (v != 0) = true := by simp [v0]
                clear v0
                go_wp2
                go_ret
                exact ⟨by rw [HN.out]; rfl, hE3⟩
            · have pv := prev p hjp
              clear prev
              subst hjp
              have p0 : (0 : Int) < (p : Int) + 1 := by omega
              have pi0 : (0 : Int) ≤ (p : Int) + 1 := by omega
              have pi1 : (p : Int) + 1 < (n2 : Int) := by omega
              have pj0 : (0 : Int) ≤ (p : Int) := by omega
              have pj1 : (p : Int) < (n2 : Int) := by omega
              go_wp2_with fail
              go_region_held3 (fun w' => w'.cell? ⟨w.heap.size, 0, none⟩ = some (.slice (some ⟨b, o, none⟩) n c) ∧ w'.cell? ⟨b, o + qq * 3 + 1, none⟩ = some (.int .i64 kd) ∧ w'.cell? ⟨b, o + qq * 3 + 2, none⟩ = some (.bool nl) ∧ w'.cell? ⟨b2, o2 + (p + 1) * 4 + 1, none⟩ = some (.bool xn) ∧ w'.cell? ⟨b2, o2 + (p + 1) * 4 + 2, none⟩ = some (.int .i64 xi) ∧ w'.cell? ⟨b2, o2 + (p + 1) * 4 + 3, none⟩ = some (.slice xA n3 xc))
                (first | exact g8 | (refine K.out _ ?_; (repeat (first | exact Ext.refl _ | (with_reducible refine Ext.trans ?_ he3) | apply Ext.drew | apply Ext.alloc | fail))) | fail)
                (first
                  | (go_at_call 58; (with_reducible refine (HC.out _ ?_).mono ?_); (focus ((repeat (first | exact Ext.refl _ | (with_reducible refine Ext.trans ?_ he3) | apply Ext.drew | apply Ext.alloc | fail)); done)); rintro e w3 ⟨rfl, he3⟩)
                  | fail)
              obtain ⟨hE3, s3⟩ := Hfin.out w3 (by (repeat (first | exact Ext.refl _ | (with_reducible refine Ext.trans ?_ he3) | apply Ext.drew | apply Ext.alloc | fail)))
              by_cases v0 : v = 0
              · have HN := Lib.hid (Hrow.out.trans (if_neg (fun r => r v0)))
                have b2 : (v != 0) = false := by simp [v0]
                clear v0
                go_wp2
                go_roundw
                case rel => exact ⟨p + 1 + 1, (qq : Int), by omega, by go_num, by omega, HLn.out, hE3, HN.out, s3⟩
                case measure => simp [intOf]; omega
              · have HN := Lib.hid (Hrow.out.trans (if_pos v0))
                have b2 : (v != 0) = true := by simp [v0]
                clear v0
                go_wp2
                go_ret
                exact ⟨by rw [HN.out]; rfl, hE3⟩
        · obtain rfl : j = n2 := by omega
          have HN := Lib.hid (HF.out.trans (setF_end (Nat.le_of_eq Hl2.out)))
          go_wp2
          go_ret
          exact ⟨by rw [HN.out]; rfl, hE⟩
  · rw [if_pos e0] at hR
    have b1 : (E != 0) = true := by simp [e0]
    clear hEe e0
    subst hR
    go_enter Try.func21, Try.ntmps21
    go_wp2_with fail
    refine (refScheck_any A n c keys cs _ h1.rd h1.nm h1.le).mono ?_
    rintro e w1 ⟨rfl, he1⟩
    rw [← HE.out]
    go_wp2
    go_ret
    exact ⟨rfl, hE0.trans he1⟩

end Go.Proofs.Ytpjichclpnebjaa

-- part H10
/-
  Layer 6: operations, the program's and the document's.
-/
namespace Go.Proofs.Ytpjichclpnebjaa
open Go.RowKit

/-- An operation lies at block g. -/
structure AtO (w : World) (g : Nat) (k : Int) (A2 : Option Addr) (n2 c2 : Nat) (A3 : Option Addr) (n3 c3 : Nat) : Prop where
  c0 : w.cell? ⟨g, 0, none⟩ = some (.int .i64 k)
  c1 : w.cell? ⟨g, 1, none⟩ = some (.slice A2 n2 c2)
  c2 : w.cell? ⟨g, 2, none⟩ = some (.slice A3 n3 c3)
  lt : g < w.heap.size
theorem AtO.ext {w w' : World} {g : Nat} {k : Int} {A2 : Option Addr} {n2 c2 : Nat} {A3 : Option Addr} {n3 c3 : Nat} (h : AtO w g k A2 n2 c2 A3 n3 c3) (he : Ext w w') : AtO w' g k A2 n2 c2 A3 n3 c3 :=
  ⟨(he.cells g 0 h.lt).trans h.c0, (he.cells g 1 h.lt).trans h.c1, (he.cells g 2 h.lt).trans h.c2, Nat.lt_of_lt_of_le h.lt he.size⟩
theorem AtO.box (w : World) (X : Obj) (k : Int) (A2 : Option Addr) (n2 c2 : Nat) (A3 : Option Addr) (n3 c3 : Nat) : AtO ((w.alloc X).alloc (.cells #[.int .i64 k, .slice A2 n2 c2, .slice A3 n3 c3] 28)) (w.heap.size + 1) k A2 n2 c2 A3 n3 c3 := by
  have h : (w.alloc X).heap.size = w.heap.size + 1 := by simp
  rw [← h]
  exact ⟨cell_of_row _ _ 0 _ _ (0, 0) (heap_alloc_new _ _), cell_of_row _ _ 1 _ _ (0, 0) (heap_alloc_new _ _), cell_of_row _ _ 2 _ _ (0, 0) (heap_alloc_new _ _), by simp⟩

/-- An operation's first error. -/
def opV (keys : Int) (cs : List Col) (k : Int) (xs : List Ci) : Int := if k = 1 then rowE cs xs else rowE (cs.take keys.toNat) xs
def opS (keys : Int) (cs : List Col) (k : Int) (xs : List Ci) (ts : List Si) : Int :=
  if schE keys cs ≠ 0 then schE keys cs else if k < 1 ∨ 3 < k then 1 else if opV keys cs k xs ≠ 0 then opV keys cs k xs else if k = 2 then setsE keys cs ts else if 0 < ts.length then 61 else 0

set_option maxHeartbeats 3200000 in
set_option maxRecDepth 100000 in
theorem sop_any (A : Option Addr) (n c : Nat) (keys : Int) (cs : List Col) (k : Int) (A2 : Option Addr) (n2 c2 : Nat) (xs : List Ci) (A3 : Option Addr) (n3 c3 : Nat) (ts : List Si) (w : World) (hs : SchIn w A n c cs) (hx : RdX w A2 n2 xs) (ht : RdT w A3 n3 ts) (hn2 : n2 ≤ 140737488355328) (hn3 : n3 ≤ 140737488355328) :
    Calls Try.prog 14 #[.agg #[.slice A n c, .int .i64 keys], .agg #[.int .i64 k, .slice A2 n2 c2, .slice A3 n3 c3]] w fun e w' => e = .returned (.int .i64 (opS keys cs k xs ts)) ∧ Ext w w' := by
  have hE : Ext w ((w.alloc (.cells #[.slice A n c, .int .i64 keys] 24)).alloc (.cells #[.int .i64 k, .slice A2 n2 c2, .slice A3 n3 c3] 28)) := ((Ext.refl w).alloc _).alloc _
  have h1 := hs.ext hE
  have h2 := hx.ext hE
  have h3 := ht.ext hE
  have hcap := hs.cap
  have hnle := hs.le
  have hmax := hs.max
  have hln := hs.rd.1
  have hlt := ht.1
  have sb := (AtS.box w A n c keys).ext ((Ext.refl _).alloc (.cells #[.int .i64 k, .slice A2 n2 c2, .slice A3 n3 c3] 28))
  have ob := AtO.box w (.cells #[.slice A n c, .int .i64 keys] 24) k A2 n2 c2 A3 n3 c3
  obtain ⟨R, hR⟩ : ∃ R, R = opS keys cs k xs ts := ⟨_, rfl⟩
  rw [← hR]
  unfold opS at hR
  rw [hlt] at hR
  obtain ⟨E, hEe⟩ : ∃ E, E = schE keys cs := ⟨_, rfl⟩
  rw [← hEe] at hR
  have HE := Lib.hid hEe
  by_cases e0 : E = 0
  · rw [if_neg (fun q => q e0)] at hR
    have hinv := schE_inv (hEe.symm.trans e0)
    rw [hln] at hinv
    obtain ⟨kk, rfl⟩ := Int.eq_ofNat_of_zero_le (show 0 ≤ keys by omega)
    have hkn : kk ≤ n := by omega
    have hk1 : (1 : Int) ≤ (kk : Int) := by omega
    have hk3 : (kk : Int) ≤ 3 := by omega
    have b1 : (E != 0) = false := by simp [e0]
    obtain ⟨b, o, hA, _⟩ := hs.rd.2 (show 0 < n by omega)
    obtain ⟨v, hv⟩ : ∃ v, v = opV (kk : Int) cs k xs := ⟨_, rfl⟩
    rw [← hv] at hR
    have hs0 : schE (kk : Int) cs = 0 := hEe.symm.trans e0
    have Hs0 := Lib.hid hs0
    clear hEe e0 hinv hln hlt hs0
    subst hA
    by_cases kb : k < 1 ∨ 3 < k
    · rw [if_pos kb] at hR
      subst hR
      have b2 : (k == 1) = false := by rw [beq_eq_false_iff_ne]; omega
      have b3 : (k == 2) = false := by rw [beq_eq_false_iff_ne]; omega
      have b4 : (k == 3) = false := by rw [beq_eq_false_iff_ne]; omega
      clear kb hv
      go_enter Try.func14, Try.ntmps14
      go_wp2_with fail
      refine (scheck_any _ n c (kk : Int) cs _ h1.rd h1.nm h1.le).mono ?_
      rintro e w1 ⟨rfl, he1⟩
      rw [← HE.out]
      obtain ⟨k0, k1, kz⟩ := sb.ext he1
      obtain ⟨o0, o1, o2, oz⟩ := ob.ext he1
      go_wp2
      go_ret
      exact ⟨rfl, hE.trans he1⟩
    · rw [if_neg kb] at hR
      obtain rfl | rfl | rfl : k = 1 ∨ k = 2 ∨ k = 3 := by omega
      · rw [opV, if_pos rfl] at hv
        have Hv := Lib.hid hv
        clear kb hv
        by_cases v0 : v = 0
        · rw [if_neg (fun q => q v0), if_neg (by decide)] at hR
          have b5 : (v != 0) = false := by simp [v0]
          clear v0
          by_cases m0 : 0 < n3
          · rw [if_pos m0] at hR
            have b6 : decide ((0 : Int) < (n3 : Int)) = true := decide_eq_true (by omega)
            have b6' : decide (0 < n3) = true := decide_eq_true m0
            clear m0
            subst hR
            go_enter Try.func14, Try.ntmps14
            go_wp2_with fail
            refine (scheck_any _ n c (kk : Int) cs _ h1.rd h1.nm h1.le).mono ?_
            rintro e w1 ⟨rfl, he1⟩
            rw [← HE.out]
            obtain ⟨k0, k1, kz⟩ := sb.ext he1
            obtain ⟨o0, o1, o2, oz⟩ := ob.ext he1
            go_wp2_with fail
            refine (checkCells_any _ n c cs A2 n2 c2 xs _ (h1.rd.ext he1) (h2.ext he1) h1.le hn2).mono ?_
            rintro e w2 ⟨rfl, he2⟩
            rw [← Hv.out]
            obtain ⟨k0', k1', kz'⟩ := (AtS.mk k0 k1 kz).ext he2
            obtain ⟨o0', o1', o2', oz'⟩ := (AtO.mk o0 o1 o2 oz).ext he2
            clear k0 k1 o0 o1 o2
            go_wp2
            go_ret
            exact ⟨rfl, (hE.trans he1).trans he2⟩
          · rw [if_neg m0] at hR
            have b6 : decide ((0 : Int) < (n3 : Int)) = false := decide_eq_false (by omega)
            have b6' : decide (0 < n3) = false := decide_eq_false m0
            clear m0
            subst hR
            go_enter Try.func14, Try.ntmps14
            go_wp2_with fail
            refine (scheck_any _ n c (kk : Int) cs _ h1.rd h1.nm h1.le).mono ?_
            rintro e w1 ⟨rfl, he1⟩
            rw [← HE.out]
            obtain ⟨k0, k1, kz⟩ := sb.ext he1
            obtain ⟨o0, o1, o2, oz⟩ := ob.ext he1
            go_wp2_with fail
            refine (checkCells_any _ n c cs A2 n2 c2 xs _ (h1.rd.ext he1) (h2.ext he1) h1.le hn2).mono ?_
            rintro e w2 ⟨rfl, he2⟩
            rw [← Hv.out]
            obtain ⟨k0', k1', kz'⟩ := (AtS.mk k0 k1 kz).ext he2
            obtain ⟨o0', o1', o2', oz'⟩ := (AtO.mk o0 o1 o2 oz).ext he2
            clear k0 k1 o0 o1 o2
            go_wp2
            go_ret
            exact ⟨rfl, (hE.trans he1).trans he2⟩
        · rw [if_pos v0] at hR
          have b5 : (v != 0) = true := by simp [v0]
          clear v0
          subst hR
          go_enter Try.func14, Try.ntmps14
          go_wp2_with fail
          refine (scheck_any _ n c (kk : Int) cs _ h1.rd h1.nm h1.le).mono ?_
          rintro e w1 ⟨rfl, he1⟩
          rw [← HE.out]
          obtain ⟨k0, k1, kz⟩ := sb.ext he1
          obtain ⟨o0, o1, o2, oz⟩ := ob.ext he1
          go_wp2_with fail
          refine (checkCells_any _ n c cs A2 n2 c2 xs _ (h1.rd.ext he1) (h2.ext he1) h1.le hn2).mono ?_
          rintro e w2 ⟨rfl, he2⟩
          rw [← Hv.out]
          obtain ⟨k0', k1', kz'⟩ := (AtS.mk k0 k1 kz).ext he2
          obtain ⟨o0', o1', o2', oz'⟩ := (AtO.mk o0 o1 o2 oz).ext he2
          clear k0 k1 o0 o1 o2
          go_wp2
          go_ret
          exact ⟨rfl, (hE.trans he1).trans he2⟩
      · rw [opV, if_neg (by decide), Int.toNat_natCast] at hv
        have Hv := Lib.hid hv
        clear kb hv
        by_cases v0 : v = 0
        · rw [if_neg (fun q => q v0), if_pos rfl] at hR
          have b5 : (v != 0) = false := by simp [v0]
          clear v0
          have HR := Lib.hid hR
          clear hR
          go_enter Try.func14, Try.ntmps14
          go_wp2_with fail
          refine (scheck_any _ n c (kk : Int) cs _ h1.rd h1.nm h1.le).mono ?_
          rintro e w1 ⟨rfl, he1⟩
          rw [← HE.out]
          obtain ⟨k0, k1, kz⟩ := sb.ext he1
          obtain ⟨o0, o1, o2, oz⟩ := ob.ext he1
          go_wp2_with fail
          refine (checkCells_any _ kk c (cs.take kk) A2 n2 c2 xs _ ((h1.rd.ext he1).take hkn) (h2.ext he1) (by omega) hn2).mono ?_
          rintro e w2 ⟨rfl, he2⟩
          rw [← Hv.out]
          obtain ⟨k0', k1', kz'⟩ := (AtS.mk k0 k1 kz).ext he2
          obtain ⟨o0', o1', o2', oz'⟩ := (AtO.mk o0 o1 o2 oz).ext he2
          clear k0 k1 o0 o1 o2
          go_wp2_with fail
          refine (checkSets_any _ n c (kk : Int) cs A3 n3 c3 ts _ ((h1.ext he1).ext he2) ((h3.ext he1).ext he2) hk1 hk3 hn3).mono ?_
          rintro e w3 ⟨rfl, he3⟩
          rw [← HR.out]
          go_wp2
          go_ret
          exact ⟨rfl, ((hE.trans he1).trans he2).trans he3⟩
        · rw [if_pos v0] at hR
          have b5 : (v != 0) = true := by simp [v0]
          clear v0
          subst hR
          go_enter Try.func14, Try.ntmps14
          go_wp2_with fail
          refine (scheck_any _ n c (kk : Int) cs _ h1.rd h1.nm h1.le).mono ?_
          rintro e w1 ⟨rfl, he1⟩
          rw [← HE.out]
          obtain ⟨k0, k1, kz⟩ := sb.ext he1
          obtain ⟨o0, o1, o2, oz⟩ := ob.ext he1
          go_wp2_with fail
          refine (checkCells_any _ kk c (cs.take kk) A2 n2 c2 xs _ ((h1.rd.ext he1).take hkn) (h2.ext he1) (by omega) hn2).mono ?_
          rintro e w2 ⟨rfl, he2⟩
          rw [← Hv.out]
          obtain ⟨k0', k1', kz'⟩ := (AtS.mk k0 k1 kz).ext he2
          obtain ⟨o0', o1', o2', oz'⟩ := (AtO.mk o0 o1 o2 oz).ext he2
          clear k0 k1 o0 o1 o2
          go_wp2
          go_ret
          exact ⟨rfl, (hE.trans he1).trans he2⟩
      · rw [opV, if_neg (by decide), Int.toNat_natCast] at hv
        have Hv := Lib.hid hv
        clear kb hv
        by_cases v0 : v = 0
        · rw [if_neg (fun q => q v0), if_neg (by decide)] at hR
          have b5 : (v != 0) = false := by simp [v0]
          clear v0
          by_cases m0 : 0 < n3
          · rw [if_pos m0] at hR
            have b6 : decide ((0 : Int) < (n3 : Int)) = true := decide_eq_true (by omega)
            have b6' : decide (0 < n3) = true := decide_eq_true m0
            clear m0
            subst hR
            go_enter Try.func14, Try.ntmps14
            go_wp2_with fail
            refine (scheck_any _ n c (kk : Int) cs _ h1.rd h1.nm h1.le).mono ?_
            rintro e w1 ⟨rfl, he1⟩
            rw [← HE.out]
            obtain ⟨k0, k1, kz⟩ := sb.ext he1
            obtain ⟨o0, o1, o2, oz⟩ := ob.ext he1
            go_wp2_with fail
            refine (checkCells_any _ kk c (cs.take kk) A2 n2 c2 xs _ ((h1.rd.ext he1).take hkn) (h2.ext he1) (by omega) hn2).mono ?_
            rintro e w2 ⟨rfl, he2⟩
            rw [← Hv.out]
            obtain ⟨k0', k1', kz'⟩ := (AtS.mk k0 k1 kz).ext he2
            obtain ⟨o0', o1', o2', oz'⟩ := (AtO.mk o0 o1 o2 oz).ext he2
            clear k0 k1 o0 o1 o2
            go_wp2
            go_ret
            exact ⟨rfl, (hE.trans he1).trans he2⟩
          · rw [if_neg m0] at hR
            have b6 : decide ((0 : Int) < (n3 : Int)) = false := decide_eq_false (by omega)
            have b6' : decide (0 < n3) = false := decide_eq_false m0
            clear m0
            subst hR
            go_enter Try.func14, Try.ntmps14
            go_wp2_with fail
            refine (scheck_any _ n c (kk : Int) cs _ h1.rd h1.nm h1.le).mono ?_
            rintro e w1 ⟨rfl, he1⟩
            rw [← HE.out]
            obtain ⟨k0, k1, kz⟩ := sb.ext he1
            obtain ⟨o0, o1, o2, oz⟩ := ob.ext he1
            go_wp2_with fail
            refine (checkCells_any _ kk c (cs.take kk) A2 n2 c2 xs _ ((h1.rd.ext he1).take hkn) (h2.ext he1) (by omega) hn2).mono ?_
            rintro e w2 ⟨rfl, he2⟩
            rw [← Hv.out]
            obtain ⟨k0', k1', kz'⟩ := (AtS.mk k0 k1 kz).ext he2
            obtain ⟨o0', o1', o2', oz'⟩ := (AtO.mk o0 o1 o2 oz).ext he2
            clear k0 k1 o0 o1 o2
            go_wp2
            go_ret
            exact ⟨rfl, (hE.trans he1).trans he2⟩
        · rw [if_pos v0] at hR
          have b5 : (v != 0) = true := by simp [v0]
          clear v0
          subst hR
          go_enter Try.func14, Try.ntmps14
          go_wp2_with fail
          refine (scheck_any _ n c (kk : Int) cs _ h1.rd h1.nm h1.le).mono ?_
          rintro e w1 ⟨rfl, he1⟩
          rw [← HE.out]
          obtain ⟨k0, k1, kz⟩ := sb.ext he1
          obtain ⟨o0, o1, o2, oz⟩ := ob.ext he1
          go_wp2_with fail
          refine (checkCells_any _ kk c (cs.take kk) A2 n2 c2 xs _ ((h1.rd.ext he1).take hkn) (h2.ext he1) (by omega) hn2).mono ?_
          rintro e w2 ⟨rfl, he2⟩
          rw [← Hv.out]
          obtain ⟨k0', k1', kz'⟩ := (AtS.mk k0 k1 kz).ext he2
          obtain ⟨o0', o1', o2', oz'⟩ := (AtO.mk o0 o1 o2 oz).ext he2
          clear k0 k1 o0 o1 o2
          go_wp2
          go_ret
          exact ⟨rfl, (hE.trans he1).trans he2⟩
  · rw [if_pos e0] at hR
    have b1 : (E != 0) = true := by simp [e0]
    clear hEe e0 hln hlt
    subst hR
    go_enter Try.func14, Try.ntmps14
    go_wp2_with fail
    refine (scheck_any A n c keys cs _ h1.rd h1.nm h1.le).mono ?_
    rintro e w1 ⟨rfl, he1⟩
    rw [← HE.out]
    go_wp2
    go_ret
    exact ⟨rfl, hE.trans he1⟩

set_option maxHeartbeats 3200000 in
set_option maxRecDepth 100000 in
theorem refSop_any (A : Option Addr) (n c : Nat) (keys : Int) (cs : List Col) (k : Int) (A2 : Option Addr) (n2 c2 : Nat) (xs : List Ci) (A3 : Option Addr) (n3 c3 : Nat) (ts : List Si) (w : World) (hs : SchIn w A n c cs) (hx : RdX w A2 n2 xs) (ht : RdT w A3 n3 ts) (hn2 : n2 ≤ 140737488355328) (hn3 : n3 ≤ 140737488355328) :
    Calls Try.prog 15 #[.agg #[.slice A n c, .int .i64 keys], .agg #[.int .i64 k, .slice A2 n2 c2, .slice A3 n3 c3]] w fun e w' => e = .returned (.int .i64 (opS keys cs k xs ts)) ∧ Ext w w' := by
  have hE : Ext w ((w.alloc (.cells #[.slice A n c, .int .i64 keys] 24)).alloc (.cells #[.int .i64 k, .slice A2 n2 c2, .slice A3 n3 c3] 28)) := ((Ext.refl w).alloc _).alloc _
  have h1 := hs.ext hE
  have h2 := hx.ext hE
  have h3 := ht.ext hE
  have hcap := hs.cap
  have hnle := hs.le
  have hmax := hs.max
  have hln := hs.rd.1
  have hlt := ht.1
  have sb := (AtS.box w A n c keys).ext ((Ext.refl _).alloc (.cells #[.int .i64 k, .slice A2 n2 c2, .slice A3 n3 c3] 28))
  have ob := AtO.box w (.cells #[.slice A n c, .int .i64 keys] 24) k A2 n2 c2 A3 n3 c3
  obtain ⟨R, hR⟩ : ∃ R, R = opS keys cs k xs ts := ⟨_, rfl⟩
  rw [← hR]
  unfold opS at hR
  rw [hlt] at hR
  obtain ⟨E, hEe⟩ : ∃ E, E = schE keys cs := ⟨_, rfl⟩
  rw [← hEe] at hR
  have HE := Lib.hid hEe
  by_cases e0 : E = 0
  · rw [if_neg (fun q => q e0)] at hR
    have hinv := schE_inv (hEe.symm.trans e0)
    rw [hln] at hinv
    obtain ⟨kk, rfl⟩ := Int.eq_ofNat_of_zero_le (show 0 ≤ keys by omega)
    have hkn : kk ≤ n := by omega
    have hk1 : (1 : Int) ≤ (kk : Int) := by omega
    have hk3 : (kk : Int) ≤ 3 := by omega
    have b1 : (E != 0) = false := by simp [e0]
    obtain ⟨b, o, hA, _⟩ := hs.rd.2 (show 0 < n by omega)
    obtain ⟨v, hv⟩ : ∃ v, v = opV (kk : Int) cs k xs := ⟨_, rfl⟩
    rw [← hv] at hR
    have hs0 : schE (kk : Int) cs = 0 := hEe.symm.trans e0
    have Hs0 := Lib.hid hs0
    clear hEe e0 hinv hln hlt hs0
    subst hA
    by_cases kb : k < 1 ∨ 3 < k
    · rw [if_pos kb] at hR
      subst hR
      have key : decide (k < 1) = true ∨ (decide (k < 1) = false ∧ decide ((3 : Int) < k) = true) := by
        simp only [decide_eq_true_eq, decide_eq_false_iff_not]; omega
      clear kb hv
      rcases key with b2 | ⟨b2, b3⟩
      all_goals
        go_enter Try.func15, Try.ntmps15
        go_wp2_with fail
        refine (refScheck_any _ n c (kk : Int) cs _ h1.rd h1.nm h1.le).mono ?_
        rintro e w1 ⟨rfl, he1⟩
        rw [← HE.out]
        obtain ⟨k0, k1, kz⟩ := sb.ext he1
        obtain ⟨o0, o1, o2, oz⟩ := ob.ext he1
        go_wp2
        go_ret
        exact ⟨rfl, hE.trans he1⟩
    · rw [if_neg kb] at hR
      obtain rfl | rfl | rfl : k = 1 ∨ k = 2 ∨ k = 3 := by omega
      · rw [opV, if_pos rfl] at hv
        have Hv : Hid (v = rowS (kk : Int) cs xs) := Lib.hid (by rw [rowS, if_neg (fun q => q Hs0.out)]; exact hv)
        clear kb hv
        by_cases v0 : v = 0
        · rw [if_neg (fun q => q v0), if_neg (by decide)] at hR
          have b5 : (v != 0) = false := by simp [v0]
          clear v0
          by_cases m0 : 0 < n3
          · rw [if_pos m0] at hR
            have b6 : decide ((0 : Int) < (n3 : Int)) = true := decide_eq_true (by omega)
            have b6' : decide (0 < n3) = true := decide_eq_true m0
            clear m0
            subst hR
            go_enter Try.func15, Try.ntmps15
            go_wp2_with fail
            refine (refScheck_any _ n c (kk : Int) cs _ h1.rd h1.nm h1.le).mono ?_
            rintro e w1 ⟨rfl, he1⟩
            rw [← HE.out]
            obtain ⟨k0, k1, kz⟩ := sb.ext he1
            obtain ⟨o0, o1, o2, oz⟩ := ob.ext he1
            go_wp2_with fail
            refine (refSrow_any _ n c (kk : Int) cs A2 n2 c2 xs _ (h1.ext he1) (h2.ext he1) hn2).mono ?_
            rintro e w2 ⟨rfl, he2⟩
            rw [← Hv.out]
            obtain ⟨k0', k1', kz'⟩ := (AtS.mk k0 k1 kz).ext he2
            obtain ⟨o0', o1', o2', oz'⟩ := (AtO.mk o0 o1 o2 oz).ext he2
            clear k0 k1 o0 o1 o2
            go_wp2
            go_ret
            exact ⟨rfl, (hE.trans he1).trans he2⟩
          · rw [if_neg m0] at hR
            have b6 : decide ((0 : Int) < (n3 : Int)) = false := decide_eq_false (by omega)
            have b6' : decide (0 < n3) = false := decide_eq_false m0
            clear m0
            subst hR
            go_enter Try.func15, Try.ntmps15
            go_wp2_with fail
            refine (refScheck_any _ n c (kk : Int) cs _ h1.rd h1.nm h1.le).mono ?_
            rintro e w1 ⟨rfl, he1⟩
            rw [← HE.out]
            obtain ⟨k0, k1, kz⟩ := sb.ext he1
            obtain ⟨o0, o1, o2, oz⟩ := ob.ext he1
            go_wp2_with fail
            refine (refSrow_any _ n c (kk : Int) cs A2 n2 c2 xs _ (h1.ext he1) (h2.ext he1) hn2).mono ?_
            rintro e w2 ⟨rfl, he2⟩
            rw [← Hv.out]
            obtain ⟨k0', k1', kz'⟩ := (AtS.mk k0 k1 kz).ext he2
            obtain ⟨o0', o1', o2', oz'⟩ := (AtO.mk o0 o1 o2 oz).ext he2
            clear k0 k1 o0 o1 o2
            go_wp2
            go_ret
            exact ⟨rfl, (hE.trans he1).trans he2⟩
        · rw [if_pos v0] at hR
          have b5 : (v != 0) = true := by simp [v0]
          clear v0
          subst hR
          go_enter Try.func15, Try.ntmps15
          go_wp2_with fail
          refine (refScheck_any _ n c (kk : Int) cs _ h1.rd h1.nm h1.le).mono ?_
          rintro e w1 ⟨rfl, he1⟩
          rw [← HE.out]
          obtain ⟨k0, k1, kz⟩ := sb.ext he1
          obtain ⟨o0, o1, o2, oz⟩ := ob.ext he1
          go_wp2_with fail
          refine (refSrow_any _ n c (kk : Int) cs A2 n2 c2 xs _ (h1.ext he1) (h2.ext he1) hn2).mono ?_
          rintro e w2 ⟨rfl, he2⟩
          rw [← Hv.out]
          obtain ⟨k0', k1', kz'⟩ := (AtS.mk k0 k1 kz).ext he2
          obtain ⟨o0', o1', o2', oz'⟩ := (AtO.mk o0 o1 o2 oz).ext he2
          clear k0 k1 o0 o1 o2
          go_wp2
          go_ret
          exact ⟨rfl, (hE.trans he1).trans he2⟩
      · rw [opV, if_neg (by decide), Int.toNat_natCast] at hv
        have Hv : Hid (v = keyS (kk : Int) cs xs) := Lib.hid (by rw [keyS, if_neg (fun q => q Hs0.out), Int.toNat_natCast]; exact hv)
        clear kb hv
        by_cases v0 : v = 0
        · rw [if_neg (fun q => q v0), if_pos rfl] at hR
          have b5 : (v != 0) = false := by simp [v0]
          clear v0
          have HR : Hid (R = setsS (kk : Int) cs ts) := Lib.hid (by rw [setsS, if_neg (fun q => q Hs0.out)]; exact hR)
          clear hR
          go_enter Try.func15, Try.ntmps15
          go_wp2_with fail
          refine (refScheck_any _ n c (kk : Int) cs _ h1.rd h1.nm h1.le).mono ?_
          rintro e w1 ⟨rfl, he1⟩
          rw [← HE.out]
          obtain ⟨k0, k1, kz⟩ := sb.ext he1
          obtain ⟨o0, o1, o2, oz⟩ := ob.ext he1
          go_wp2_with fail
          refine (refSkey_any _ n c (kk : Int) cs A2 n2 c2 xs _ (h1.ext he1) (h2.ext he1) hn2).mono ?_
          rintro e w2 ⟨rfl, he2⟩
          rw [← Hv.out]
          obtain ⟨k0', k1', kz'⟩ := (AtS.mk k0 k1 kz).ext he2
          obtain ⟨o0', o1', o2', oz'⟩ := (AtO.mk o0 o1 o2 oz).ext he2
          clear k0 k1 o0 o1 o2
          go_wp2_with fail
          refine (refSsets_any _ n c (kk : Int) cs A3 n3 c3 ts _ ((h1.ext he1).ext he2) ((h3.ext he1).ext he2) hn3).mono ?_
          rintro e w3 ⟨rfl, he3⟩
          rw [← HR.out]
          go_wp2
          go_ret
          exact ⟨rfl, ((hE.trans he1).trans he2).trans he3⟩
        · rw [if_pos v0] at hR
          have b5 : (v != 0) = true := by simp [v0]
          clear v0
          subst hR
          go_enter Try.func15, Try.ntmps15
          go_wp2_with fail
          refine (refScheck_any _ n c (kk : Int) cs _ h1.rd h1.nm h1.le).mono ?_
          rintro e w1 ⟨rfl, he1⟩
          rw [← HE.out]
          obtain ⟨k0, k1, kz⟩ := sb.ext he1
          obtain ⟨o0, o1, o2, oz⟩ := ob.ext he1
          go_wp2_with fail
          refine (refSkey_any _ n c (kk : Int) cs A2 n2 c2 xs _ (h1.ext he1) (h2.ext he1) hn2).mono ?_
          rintro e w2 ⟨rfl, he2⟩
          rw [← Hv.out]
          obtain ⟨k0', k1', kz'⟩ := (AtS.mk k0 k1 kz).ext he2
          obtain ⟨o0', o1', o2', oz'⟩ := (AtO.mk o0 o1 o2 oz).ext he2
          clear k0 k1 o0 o1 o2
          go_wp2
          go_ret
          exact ⟨rfl, (hE.trans he1).trans he2⟩
      · rw [opV, if_neg (by decide), Int.toNat_natCast] at hv
        have Hv : Hid (v = keyS (kk : Int) cs xs) := Lib.hid (by rw [keyS, if_neg (fun q => q Hs0.out), Int.toNat_natCast]; exact hv)
        clear kb hv
        by_cases v0 : v = 0
        · rw [if_neg (fun q => q v0), if_neg (by decide)] at hR
          have b5 : (v != 0) = false := by simp [v0]
          clear v0
          by_cases m0 : 0 < n3
          · rw [if_pos m0] at hR
            have b6 : decide ((0 : Int) < (n3 : Int)) = true := decide_eq_true (by omega)
            have b6' : decide (0 < n3) = true := decide_eq_true m0
            clear m0
            subst hR
            go_enter Try.func15, Try.ntmps15
            go_wp2_with fail
            refine (refScheck_any _ n c (kk : Int) cs _ h1.rd h1.nm h1.le).mono ?_
            rintro e w1 ⟨rfl, he1⟩
            rw [← HE.out]
            obtain ⟨k0, k1, kz⟩ := sb.ext he1
            obtain ⟨o0, o1, o2, oz⟩ := ob.ext he1
            go_wp2_with fail
            refine (refSkey_any _ n c (kk : Int) cs A2 n2 c2 xs _ (h1.ext he1) (h2.ext he1) hn2).mono ?_
            rintro e w2 ⟨rfl, he2⟩
            rw [← Hv.out]
            obtain ⟨k0', k1', kz'⟩ := (AtS.mk k0 k1 kz).ext he2
            obtain ⟨o0', o1', o2', oz'⟩ := (AtO.mk o0 o1 o2 oz).ext he2
            clear k0 k1 o0 o1 o2
            go_wp2
            go_ret
            exact ⟨rfl, (hE.trans he1).trans he2⟩
          · rw [if_neg m0] at hR
            have b6 : decide ((0 : Int) < (n3 : Int)) = false := decide_eq_false (by omega)
            have b6' : decide (0 < n3) = false := decide_eq_false m0
            clear m0
            subst hR
            go_enter Try.func15, Try.ntmps15
            go_wp2_with fail
            refine (refScheck_any _ n c (kk : Int) cs _ h1.rd h1.nm h1.le).mono ?_
            rintro e w1 ⟨rfl, he1⟩
            rw [← HE.out]
            obtain ⟨k0, k1, kz⟩ := sb.ext he1
            obtain ⟨o0, o1, o2, oz⟩ := ob.ext he1
            go_wp2_with fail
            refine (refSkey_any _ n c (kk : Int) cs A2 n2 c2 xs _ (h1.ext he1) (h2.ext he1) hn2).mono ?_
            rintro e w2 ⟨rfl, he2⟩
            rw [← Hv.out]
            obtain ⟨k0', k1', kz'⟩ := (AtS.mk k0 k1 kz).ext he2
            obtain ⟨o0', o1', o2', oz'⟩ := (AtO.mk o0 o1 o2 oz).ext he2
            clear k0 k1 o0 o1 o2
            go_wp2
            go_ret
            exact ⟨rfl, (hE.trans he1).trans he2⟩
        · rw [if_pos v0] at hR
          have b5 : (v != 0) = true := by simp [v0]
          clear v0
          subst hR
          go_enter Try.func15, Try.ntmps15
          go_wp2_with fail
          refine (refScheck_any _ n c (kk : Int) cs _ h1.rd h1.nm h1.le).mono ?_
          rintro e w1 ⟨rfl, he1⟩
          rw [← HE.out]
          obtain ⟨k0, k1, kz⟩ := sb.ext he1
          obtain ⟨o0, o1, o2, oz⟩ := ob.ext he1
          go_wp2_with fail
          refine (refSkey_any _ n c (kk : Int) cs A2 n2 c2 xs _ (h1.ext he1) (h2.ext he1) hn2).mono ?_
          rintro e w2 ⟨rfl, he2⟩
          rw [← Hv.out]
          obtain ⟨k0', k1', kz'⟩ := (AtS.mk k0 k1 kz).ext he2
          obtain ⟨o0', o1', o2', oz'⟩ := (AtO.mk o0 o1 o2 oz).ext he2
          clear k0 k1 o0 o1 o2
          go_wp2
          go_ret
          exact ⟨rfl, (hE.trans he1).trans he2⟩
  · rw [if_pos e0] at hR
    have b1 : (E != 0) = true := by simp [e0]
    clear hEe e0 hln hlt
    subst hR
    go_enter Try.func15, Try.ntmps15
    go_wp2_with fail
    refine (refScheck_any A n c keys cs _ h1.rd h1.nm h1.le).mono ?_
    rintro e w1 ⟨rfl, he1⟩
    rw [← HE.out]
    go_wp2
    go_ret
    exact ⟨rfl, hE.trans he1⟩

end Go.Proofs.Ytpjichclpnebjaa

-- part H11
/-
  Rows of cells compared.
-/
namespace Go.Proofs.Ytpjichclpnebjaa
open Go.RowKit

/-- The same cells? -/
def alkC (x y : Ci) : Bool := alk x.nul x.num x.txt y.nul y.num y.txt
def alkF : List Ci → List Ci → Bool
  | x :: r, y :: s => if alkC x y = true then alkF r s else false
  | _, _ => true
def alkR (xs ys : List Ci) : Bool := if xs.length ≠ ys.length then false else alkF xs ys

theorem alkF_at {xs ys : List Ci} {j : Nat} {x y : Ci} (hx : xs[j]? = some x) (hy : ys[j]? = some y) : alkF (xs.drop j) (ys.drop j) = if alkC x y = true then alkF (xs.drop (j + 1)) (ys.drop (j + 1)) else false := by
  obtain ⟨h1, rfl⟩ := List.getElem?_eq_some_iff.1 hx
  obtain ⟨h2, rfl⟩ := List.getElem?_eq_some_iff.1 hy
  rw [List.drop_eq_getElem_cons h1, List.drop_eq_getElem_cons h2]
  rfl
theorem alkF_end {xs ys : List Ci} {j : Nat} (h : xs.length ≤ j) : alkF (xs.drop j) (ys.drop j) = true := by
  rw [List.drop_of_length_le h]
  cases ys.drop j <;> rfl
/-- What a cell is worth, wherever its text lies. -/
def Ci.val (x : Ci) : Bool × Int × List Nat := (x.nul, x.num, x.txt)
theorem alkC_iff {x y : Ci} : alkC x y = true ↔ x.val = y.val := by
  unfold alkC Ci.val
  rw [alk_iff]
  simp
theorem alkR_iff {xs ys : List Ci} : alkR xs ys = true ↔ xs.map Ci.val = ys.map Ci.val := by
  induction xs generalizing ys with
  | nil => cases ys <;> simp [alkR, alkF]
  | cons x r ih =>
    cases ys with
    | nil => simp [alkR]
    | cons y s =>
      have ih' := ih (ys := s)
      unfold alkR at ih' ⊢
      by_cases hl : r.length = s.length
      · rw [if_neg (fun q => q hl)] at ih'
        rw [if_neg (fun q => q (by simp [hl]))]
        rw [List.map_cons, List.map_cons, List.cons.injEq, ← ih', ← alkC_iff]
        show (if alkC x y = true then alkF r s else false) = true ↔ _
        split <;> simp_all
      · rw [if_pos (by simpa using hl)]
        simp only [Bool.false_eq_true, false_iff]
        intro q
        have := congrArg List.length q
        simp at this
        exact hl this

set_option maxHeartbeats 3200000 in
set_option maxRecDepth 100000 in
theorem alikeRow_any (A : Option Addr) (n c : Nat) (xs : List Ci) (A2 : Option Addr) (n2 c2 : Nat) (ys : List Ci) (w : World) (hx : RdX w A n xs) (hy : RdX w A2 n2 ys) (hn : n ≤ 140737488355328) (hn2 : n2 ≤ 140737488355328) :
    Calls Try.prog 28 #[.slice A n c, .slice A2 n2 c2] w fun e w' => e = .returned (.bool (alkR xs ys)) ∧ Ext w w' := by
  have hl := hx.1
  have hl2 := hy.1
  obtain ⟨R, hR⟩ : ∃ R, R = alkR xs ys := ⟨_, rfl⟩
  rw [← hR]
  unfold alkR at hR
  rw [hl, hl2] at hR
  by_cases heq : n = n2
  · subst heq
    rw [if_neg (fun q => q rfl)] at hR
    have HR := Lib.hid hR
    have Hl := Lib.hid hl
    have b1 : ((n : Int) != (n : Int)) = false := by simp
    clear hR hl hl2
    go_enter Try.func28, Try.ntmps28
    go_wp2
    go_loopw [5] (fun i wr => ∃ j : Nat, j ≤ n ∧ i = .int .i64 j ∧ Ext w wr ∧ Hid (R = alkF (xs.drop j) (ys.drop j))) (fun i _ => n - (intOf i).toNat)
    case atStart => exact ⟨0, Nat.zero_le _, rfl, Ext.refl w, HR.out⟩
    case round =>
      obtain ⟨j, hj, rfl, hE, HF⟩ := hrel
      by_cases hlt : j < n
      · obtain ⟨b, o, x, rfl, hb, hd, c0, c1, c2', hin⟩ := (hx.ext hE).at_ hlt
        obtain ⟨b2, o2, y, rfl, hb2, hy2, e0, e1, e2, hin2⟩ := (hy.ext hE).at_ hlt
        have hrow := HF.out.trans (alkF_at hd hy2)
        obtain ⟨xn, xi, xA, xc, xt⟩ := x
        obtain ⟨yn, yi, yA, yc, yt⟩ := y
        simp only at c0 c1 c2' e0 e1 e2
        obtain ⟨xr, xu, x0, x1, xl⟩ := hin
        obtain ⟨yr, yu, y0, y1, yl⟩ := hin2
        simp only at xr xu x0 x1 xl yr yu y0 y1 yl
        obtain ⟨n3, hn3⟩ : ∃ n3, n3 = xt.length := ⟨_, rfl⟩
        rw [← hn3] at c2' xr xl
        obtain ⟨n4, hn4⟩ : ∃ n4, n4 = yt.length := ⟨_, rfl⟩
        rw [← hn4] at e2 yr yl
        obtain ⟨q, hq⟩ : ∃ q, q = alk xn xi xt yn yi yt := ⟨_, rfl⟩
        have hqq : alkC ⟨xn, xi, xA, xc, xt⟩ ⟨yn, yi, yA, yc, yt⟩ = q := hq.symm
        rw [hqq] at hrow
        have HC : Hid (∀ W, Ext wr W → Calls Try.prog 47 #[.agg #[.bool xn, .int .i64 xi, .slice xA n3 xc], .agg #[.bool yn, .int .i64 yi, .slice yA n4 yc]] W fun e w' => e = .returned (.bool q) ∧ Ext W w') := Lib.hid (fun W hW => by
          rw [hq]; exact alike_any xn xi xA n3 xc xt yn yi yA n4 yc yt W (xr.ext hW) (yr.ext hW) (by omega) (by omega))
        have K : Hid (∀ w', Ext wr w' → w'.cell? ⟨b, o + j * 3, none⟩ = some (.bool xn) ∧ w'.cell? ⟨b, o + j * 3 + 1, none⟩ = some (.int .i64 xi) ∧ w'.cell? ⟨b, o + j * 3 + 2, none⟩ = some (.slice xA n3 xc) ∧ w'.cell? ⟨b2, o2 + j * 3, none⟩ = some (.bool yn) ∧ w'.cell? ⟨b2, o2 + j * 3 + 1, none⟩ = some (.int .i64 yi) ∧ w'.cell? ⟨b2, o2 + j * 3 + 2, none⟩ = some (.slice yA n4 yc)) := Lib.hid (fun w' he =>
          ⟨(he.cells b _ hb).trans c0, (he.cells b _ hb).trans c1, (he.cells b _ hb).trans c2', (he.cells b2 _ hb2).trans e0, (he.cells b2 _ hb2).trans e1, (he.cells b2 _ hb2).trans e2⟩)
        have Hrow := Lib.hid hrow
        have i0 : (0 : Int) ≤ (j : Int) := by omega
        have i1 : (j : Int) < (n : Int) := by omega
        have g8 := K.out _ (Ext.refl wr)
        clear hrow hqq hq hn3 hn4 hd hy2 xr xu x0 x1 xl yr yu y0 y1 yl c0 c1 c2' e0 e1 e2
        go_wp2_with fail
        go_region_held3 (fun w' => w'.cell? ⟨b, o + j * 3, none⟩ = some (.bool xn) ∧ w'.cell? ⟨b, o + j * 3 + 1, none⟩ = some (.int .i64 xi) ∧ w'.cell? ⟨b, o + j * 3 + 2, none⟩ = some (.slice xA n3 xc) ∧ w'.cell? ⟨b2, o2 + j * 3, none⟩ = some (.bool yn) ∧ w'.cell? ⟨b2, o2 + j * 3 + 1, none⟩ = some (.int .i64 yi) ∧ w'.cell? ⟨b2, o2 + j * 3 + 2, none⟩ = some (.slice yA n4 yc))
          (first | exact g8 | (refine K.out _ ?_; (repeat (first | exact Ext.refl _ | (with_reducible refine Ext.trans ?_ he3) | apply Ext.drew | apply Ext.alloc | fail))) | fail)
          (first
            | (go_at_call 47; (with_reducible refine (HC.out _ ?_).mono ?_); (focus ((repeat (first | exact Ext.refl _ | (with_reducible refine Ext.trans ?_ he3) | apply Ext.drew | apply Ext.alloc | fail)); done)); rintro e w3 ⟨rfl, he3⟩)
            | fail)
        have hE3 : Ext w w3 := hE.trans (by (repeat (first | exact Ext.refl _ | (with_reducible refine Ext.trans ?_ he3) | apply Ext.drew | apply Ext.alloc | fail)))
        cases q with
        | true =>
          have HN := Lib.hid (Hrow.out.trans (if_pos rfl))
          go_wp2
          go_roundw
          case rel => exact ⟨j + 1, by omega, by go_num, hE3, HN.out⟩
          case measure => simp [intOf]; omega
        | false =>
          have HN := Lib.hid (Hrow.out.trans (if_neg (by decide)))
          go_wp2
          go_ret
          exact ⟨by rw [HN.out]; rfl, hE3⟩
      · obtain rfl : j = n := by omega
        have HN := Lib.hid (HF.out.trans (alkF_end (Nat.le_of_eq Hl.out)))
        go_wp2
        go_ret
        exact ⟨by rw [HN.out]; rfl, hE⟩
  · rw [if_pos heq] at hR
    have b1 : ((n : Int) != (n2 : Int)) = true := by rw [bne_iff_ne]; omega
    clear heq hl hl2
    subst hR
    go_enter Try.func28, Try.ntmps28
    go_wp2
    go_ret
    exact ⟨rfl, Ext.refl w⟩

end Go.Proofs.Ytpjichclpnebjaa
