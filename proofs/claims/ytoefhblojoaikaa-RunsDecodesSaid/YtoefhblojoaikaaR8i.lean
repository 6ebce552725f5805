/-
  Layer 8: the document's Join.
-/
import Derived.Test.YtoefhblojoaikaaR8h
namespace Go.Proofs.Ytoefhblojoaikaa
open Go.RowKit

theorem joinF_same {vs : List Int} {rs : List (Int × Int)} {j : Nat} {v k : Int} (h : rs[j]? = some (v, k)) (hc : ¬ k < 1) (hl : vs.getLast? = some v) : joinF vs (rs.drop j) = ([], 5) := by rw [joinF_at h, if_neg hc, if_pos hl]
theorem joinF_long {vs : List Int} {rs : List (Int × Int)} {j : Nat} {v k : Int} (h : rs[j]? = some (v, k)) (hc : ¬ k < 1) (hl : vs.getLast? ≠ some v) (hg : 4096 - (vs.length : Int) < k) : joinF vs (rs.drop j) = ([], 4) := by rw [joinF_at h, if_neg hc, if_neg hl, if_pos hg]
theorem joinF_next {vs : List Int} {rs : List (Int × Int)} {j k : Nat} {v : Int} (h : rs[j]? = some (v, (k : Int))) (hc : ¬ (k : Int) < 1) (hl : vs.getLast? ≠ some v) (hg : ¬ 4096 - (vs.length : Int) < k) : joinF vs (rs.drop j) = joinF (vs ++ List.replicate k v) (rs.drop (j + 1)) := by rw [joinF_at h, if_neg hc, if_neg hl, if_neg hg, Int.toNat_natCast]

set_option maxHeartbeats 3200000 in
theorem refJoin_any (A : Option Addr) (n c : Nat) (rs : List (Int × Int)) (w : World) (hx : RdG shR w A n rs) (hr : ∀ r ∈ rs, R64 r.2) (hn : n ≤ 8796093022208) :
    Calls Try.prog 22 #[.slice A n c] w (JoinPost (joinF [] rs) w) := by
  have Hl := Lib.hid hx.len
  obtain ⟨R, hR⟩ : ∃ R, R = joinF [] rs := ⟨_, rfl⟩
  rw [← hR]
  have HR := Lib.hid hR
  have Hr := Lib.hid hr
  clear hR hr
  go_enter Try.func22, Try.ntmps22
  go_wp2
  go_loopw [4, 5] (fun y i wr => ∃ (j L : Nat) (vs : List Int) (A' : Option Addr) (c' : Nat), j ≤ n ∧ L ≤ 4096 ∧ L = vs.length ∧ i = .int .i64 j ∧ y = .slice A' L c' ∧ OwnG shZ 2 wr w.heap.size A' c' vs ∧ Hid (R = joinF vs (rs.drop j)) ∧ Hid ((j = 0 → vs = []) ∧ ∀ p, j = p + 1 → ∃ q, rs[p]? = some q ∧ vs.getLast? = some q.1) ∧ Below w.heap.size w wr) (fun _ i _ => n - (intOf i).toNat)
  case atStart => exact ⟨0, 0, [], _, _, Nat.zero_le _, Nat.zero_le _, rfl, rfl, rfl, OwnG.made _ _ _ (Nat.le_refl _), Lib.hid (by rw [HR.out]; simp), Lib.hid ⟨fun _ => rfl, fun p h => absurd h (by omega)⟩, (Ext.refl w).alloc _⟩
  case round =>
    obtain ⟨j, L, vs, A', c', hj, hL4, hL, rfl, rfl, hown, HJ, HP, hb⟩ := hrel
    have hz : w.heap.size ≤ wr.heap.size := hb.size
    have Hown := Lib.hid hown
    have HL := Lib.hid hL
    have Hb := Lib.hid hb
    clear hown hL hb
    by_cases hlt : j < n
    · obtain ⟨b, o, hA, hbl, hcells⟩ := hx.2 (by omega)
      have hxj : rs[j]? = some (rs.getD j (0, 0)) := by rw [List.getD, List.getElem?_eq_getElem (by have := Hl.out; omega)]; rfl
      obtain ⟨⟨v, k0⟩, hq⟩ : ∃ q, q = rs.getD j (0, 0) := ⟨_, rfl⟩
      rw [← hq] at hxj
      have HC : Hid (∀ W, Below w.heap.size w W → ∀ t x, rs[t]? = some x → W.cell? ⟨b, o + t * 2, none⟩ = some (.int .i64 x.1) ∧ W.cell? ⟨b, o + t * 2 + 1, none⟩ = some (.int .i64 x.2)) := Lib.hid fun W hW t x ht =>
        ⟨(Below.cell hW (p := ⟨b, o + t * 2, none⟩) hbl).trans (hcells t x ht 0 _ rfl), (Below.cell hW (p := ⟨b, o + t * 2 + 1, none⟩) hbl).trans (hcells t x ht 1 _ rfl)⟩
      obtain ⟨hc0, hc1⟩ := HC.out _ Hb.out j _ hxj
      simp only at hc0 hc1
      have hk := Hr.out _ (List.mem_of_getElem? hxj)
      simp only at hk
      have Hxj := Lib.hid hxj
      subst hA
      clear hcells hxj hq
      by_cases hk1 : k0 < 1
      · have HE := Lib.hid (HJ.out.trans (joinF_bad Hxj.out hk1))
        clear hk HJ HP
        go_wp2_with fail
        go_ret2
        exact ⟨none, 0, by rw [HE.out]; rfl, by rw [HE.out]; exact OwnG.nil _ _ _ _, Hb.out⟩
      · obtain ⟨k, rfl⟩ : ∃ k : Nat, k0 = (k : Int) := ⟨k0.toNat, by omega⟩
        have hd : decide ((k : Int) < 1) = false := decide_eq_false hk1
        have Hk := Lib.hid hk
        have Hk1 := Lib.hid hk1
        clear hk hk1
        rcases Nat.eq_zero_or_pos j with hj0 | hjp
        · subst hj0
          have hv0 : vs = [] := HP.out.1 rfl
          subst hv0
          have hL0 : L = 0 := HL.out
          subst hL0
          have hlast : ([] : List Int).getLast? ≠ some v := by simp
          rw [Nat.zero_mul, Nat.add_zero] at hc0 hc1
          clear HP
          go_wp2_with fail
          go_quiet (fail)
          have HNE := Lib.hid hlast
          by_cases hbig : 4096 - ((0 : Nat) : Int) < k
          · have HE := Lib.hid (HJ.out.trans (joinF_long Hxj.out (by have := Hk1.out; omega) HNE.out (by rw [← HL.out]; exact hbig)))
            clear HJ HNE hlast
            go_wp2_with fail
            go_ret2
            exact ⟨none, 0, by rw [HE.out]; rfl, by rw [HE.out]; exact OwnG.nil _ _ _ _, Ext.drewN Hb.out _⟩
          · have HE := Lib.hid (HJ.out.trans (joinF_next Hxj.out (by have := Hk1.out; omega) HNE.out (by rw [← HL.out]; exact hbig)))
            have hd2 : decide (4096 - ((0 : Nat) : Int) < (k : Int)) = false := decide_eq_false hbig
            have hkL : k + 0 ≤ 4096 := by omega
            have hk1' : 1 ≤ k := by have := Hk1.out; omega
            clear HJ HNE hlast
            go_wp2_with fail
            go_loopw [4, 6] (fun y i wr2 => ∃ (t : Nat) (A2 : Option Addr) (c2 : Nat), t ≤ k ∧ i = .int .i64 t ∧ y = .slice A2 (0 + t) c2 ∧ OwnG shZ 2 wr2 w.heap.size A2 c2 ([] ++ List.replicate t v) ∧ Below w.heap.size w wr2) (fun _ i _ => k - (intOf i).toNat)
            case atStart => exact ⟨0, A', c', Nat.zero_le _, rfl, rfl, by simpa using Hown.out.ext (Ext.of_drewN wr _), Ext.drewN Hb.out _⟩
            case round =>
              obtain ⟨t, A2, c2, ht, rfl, rfl, hown2, hb2⟩ := hrel
              have hz2 : w.heap.size ≤ wr.heap.size := hb2.size
              obtain ⟨hd0, hd1⟩ := HC.out _ hb2 0 _ Hxj.out
              simp only at hd0 hd1
              rw [Nat.zero_mul, Nat.add_zero] at hd0 hd1
              by_cases hlt2 : t < k
              · have hl : ([] ++ List.replicate t v).length = 0 + t := by rw [List.length_append, List.length_replicate, ← HL.out]
                have Hl2 := Lib.hid hl
                have Ho := Lib.hid hown2
                have Hb2 := Lib.hid hb2
                have hE1 : ∀ o, Ext wr (wr.alloc o) := fun o => (Ext.refl _).alloc o
                clear hl hown2 hb2
                go_wp2_with (at_builtin; refine wpList_pushG (w0 := w) (base := w.heap.size) shZ v 2 rfl _ _ 22 rfl _ 8 Try.underlying22 Try.infoI64 rfl (by decide) (Ho.out.ext (hE1 _)) (0 + t) Hl2.out rfl rfl (heap_alloc_new _ _) (by omega) (by omega) (Below.alloc Hb2.out hz2 _) (by simp; omega) ?_; intro A3 c3 w3 hown3 _ hb3 hz3)
                go_roundw
                case rel => exact ⟨t + 1, A3, c3, by omega, by go_num, (by first | rfl | (congr 1; omega)), by rw [List.replicate_succ', ← List.append_assoc]; exact hown3, hb3⟩
                case measure => simp [intOf]; omega
              · obtain rfl : t = k := by omega
                have hl : ([] ++ List.replicate t v).length = 0 + t := by rw [List.length_append, List.length_replicate, ← HL.out]
                have HP2 := Lib.hid (show ([] ++ List.replicate t v).getLast? = some v by
                  obtain ⟨t', rfl⟩ : ∃ t', t = t' + 1 := ⟨t - 1, by omega⟩
                  exact last_rep _ _ _)
                have Hl2 := Lib.hid hl
                have HPV : Hid (∃ q, rs[0]? = some q ∧ ([] ++ List.replicate t v).getLast? = some q.1) := Lib.hid ⟨_, Hxj.out, HP2.out⟩
                clear hl
                go_wp2_with fail
                go_roundw
                case rel => exact ⟨0 + 1, 0 + t, [] ++ List.replicate t v, A2, c2, by omega, by omega, Hl2.out.symm, by go_num, rfl, hown2, HE, Lib.hid ⟨fun h => absurd h (by omega), fun p2 h => by
                  have e : p2 = 0 := by omega
                  subst e
                  exact HPV.out⟩, hb2⟩
                case measure => simp [intOf]; omega
        · obtain ⟨p, rfl⟩ : ∃ p, j = p + 1 := ⟨j - 1, by omega⟩
          obtain ⟨⟨v', k'⟩, hq', hlast⟩ := HP.out.2 p rfl
          obtain ⟨hp0, hp1⟩ := HC.out _ Hb.out p _ hq'
          simp only at hp0 hp1 hlast
          have hb1 : ((p : Int) + 1 - 1) < (n : Int) := by omega
          have hb2 : (0 : Int) ≤ (p : Int) + 1 - 1 := by omega
          by_cases hvv : v = v'
          · subst hvv
            have HE := Lib.hid (HJ.out.trans (joinF_same Hxj.out Hk1.out hlast))
            clear HJ HP hlast hp1 hq'
            go_wp2_with fail
            go_quiet (fail)
            go_wp2_with fail
            go_ret2
            exact ⟨none, 0, by rw [HE.out]; rfl, by rw [HE.out]; exact OwnG.nil _ _ _ _, Ext.drewN Hb.out _⟩
          · have hne : (v == v') = false := by simpa using hvv
            have hlast2 : vs.getLast? ≠ some v := by rw [hlast]; intro e; injection e with e; exact hvv e.symm
            clear HP hp1 hq' hlast hvv
            have hlast := hlast2
            clear hlast2
            go_wp2_with fail
            go_quiet (fail)
            have HNE := Lib.hid hlast
            by_cases hbig : 4096 - (L : Int) < k
            · have HE := Lib.hid (HJ.out.trans (joinF_long Hxj.out (by have := Hk1.out; omega) HNE.out (by rw [← HL.out]; exact hbig)))
              clear HJ HNE hlast
              go_wp2_with fail
              go_ret2
              exact ⟨none, 0, by rw [HE.out]; rfl, by rw [HE.out]; exact OwnG.nil _ _ _ _, Ext.drewN Hb.out _⟩
            · have HE := Lib.hid (HJ.out.trans (joinF_next Hxj.out (by have := Hk1.out; omega) HNE.out (by rw [← HL.out]; exact hbig)))
              have hd2 : decide (4096 - (L : Int) < (k : Int)) = false := decide_eq_false hbig
              have hkL : k + L ≤ 4096 := by omega
              have hk1' : 1 ≤ k := by have := Hk1.out; omega
              clear HJ HNE hlast
              go_wp2_with fail
              go_loopw [4, 6] (fun y i wr2 => ∃ (t : Nat) (A2 : Option Addr) (c2 : Nat), t ≤ k ∧ i = .int .i64 t ∧ y = .slice A2 (L + t) c2 ∧ OwnG shZ 2 wr2 w.heap.size A2 c2 (vs ++ List.replicate t v) ∧ Below w.heap.size w wr2) (fun _ i _ => k - (intOf i).toNat)
              case atStart => exact ⟨0, A', c', Nat.zero_le _, rfl, rfl, by simpa using Hown.out.ext (Ext.of_drewN wr _), Ext.drewN Hb.out _⟩
              case round =>
                obtain ⟨t, A2, c2, ht, rfl, rfl, hown2, hb2⟩ := hrel
                have hz2 : w.heap.size ≤ wr.heap.size := hb2.size
                obtain ⟨hd0, hd1⟩ := HC.out _ hb2 (p + 1) _ Hxj.out
                simp only at hd0 hd1
                by_cases hlt2 : t < k
                · have hl : (vs ++ List.replicate t v).length = L + t := by rw [List.length_append, List.length_replicate, ← HL.out]
                  have Hl2 := Lib.hid hl
                  have Ho := Lib.hid hown2
                  have Hb2 := Lib.hid hb2
                  have hE1 : ∀ o, Ext wr (wr.alloc o) := fun o => (Ext.refl _).alloc o
                  clear hl hown2 hb2
                  go_wp2_with (at_builtin; refine wpList_pushG (w0 := w) (base := w.heap.size) shZ v 2 rfl _ _ 22 rfl _ 8 Try.underlying22 Try.infoI64 rfl (by decide) (Ho.out.ext (hE1 _)) (L + t) Hl2.out rfl rfl (heap_alloc_new _ _) (by omega) (by omega) (Below.alloc Hb2.out hz2 _) (by simp; omega) ?_; intro A3 c3 w3 hown3 _ hb3 hz3)
                  go_roundw
                  case rel => exact ⟨t + 1, A3, c3, by omega, by go_num, (by first | rfl | (congr 1; omega)), by rw [List.replicate_succ', ← List.append_assoc]; exact hown3, hb3⟩
                  case measure => simp [intOf]; omega
                · obtain rfl : t = k := by omega
                  have hl : (vs ++ List.replicate t v).length = L + t := by rw [List.length_append, List.length_replicate, ← HL.out]
                  have HP2 := Lib.hid (show (vs ++ List.replicate t v).getLast? = some v by
                    obtain ⟨t', rfl⟩ : ∃ t', t = t' + 1 := ⟨t - 1, by omega⟩
                    exact last_rep _ _ _)
                  have Hl2 := Lib.hid hl
                  have HPV : Hid (∃ q, rs[(p + 1)]? = some q ∧ (vs ++ List.replicate t v).getLast? = some q.1) := Lib.hid ⟨_, Hxj.out, HP2.out⟩
                  clear hl
                  go_wp2_with fail
                  go_roundw
                  case rel => exact ⟨(p + 1) + 1, L + t, vs ++ List.replicate t v, A2, c2, by omega, by omega, Hl2.out.symm, by go_num, rfl, hown2, HE, Lib.hid ⟨fun h => absurd h (by omega), fun p2 h => by
                    have e : p2 = (p + 1) := by omega
                    subst e
                    exact HPV.out⟩, hb2⟩
                  case measure => simp [intOf]; omega
    · obtain rfl : j = n := by omega
      have HE := Lib.hid (HJ.out.trans (joinF_end (by have := Hl.out; omega)))
      have h1 := HL.out
      subst h1
      go_wp2_with fail
      go_ret2
      exact ⟨A', c', by rw [HE.out]; rfl, by rw [HE.out]; exact Hown.out, Hb.out⟩

end Go.Proofs.Ytoefhblojoaikaa
