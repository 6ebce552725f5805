/-
  Layer 8: the document's Decode.
-/
import Derived.Test.YtoefhblojoaikaaR8j
namespace Go.Proofs.Ytoefhblojoaikaa
open Go.RowKit

theorem decR_open {bs : List Nat} {m : Nat} {vs : List Int} {a a1 a2 : Int} {u k : Nat} (h1 : vget bs a = (u, a1, 0)) (h2 : vget bs a1 = (k, a2, 0)) :
    decR bs (m + 1) vs a = if k = 0 ∨ vs.getLast? = some (unfS u) then ([], 5) else if 4096 - (vs.length : Int) < k then ([], 4) else decR bs m (vs ++ List.replicate k (unfS u)) a2 := by
  rw [decR, h1]
  simp only
  rw [h2]
  simp only [ne_eq, not_true_eq_false, if_false]
theorem decR_e1 {bs : List Nat} {m : Nat} {vs : List Int} {a a1 e : Int} {u : Nat} (h1 : vget bs a = (u, a1, e)) (he : e ≠ 0) : decR bs (m + 1) vs a = ([], e) := by
  rw [decR, h1]
  simp only
  rw [if_pos he]
theorem decR_e2 {bs : List Nat} {m : Nat} {vs : List Int} {a a1 a2 e : Int} {u k : Nat} (h1 : vget bs a = (u, a1, 0)) (h2 : vget bs a1 = (k, a2, e)) (he : e ≠ 0) : decR bs (m + 1) vs a = ([], e) := by
  rw [decR, h1]
  simp only
  rw [h2, if_neg (by simp)]
  simp only
  rw [if_pos he]

set_option maxHeartbeats 6400000 in
set_option maxRecDepth 100000 in
theorem refDecode_any (B : Option Addr) (nb cb : Nat) (bs : List Nat) (w : World) (hx : Rd .u8 w B nb bs) (hu : U8 bs) (hnb : nb ≤ 140737488355328) :
    Calls Try.prog 26 #[.slice B nb cb] w (JoinPost (decode8 bs) w) := by
  have Hl := Lib.hid hx.len
  have hbl : ∀ at_, (vget bs at_).1 < 18446744073709551616 := fun at_ => (vget_bounds (a := at_) hu (by rw [hx.len]; exact hnb)).1
  obtain ⟨R, hR⟩ : ∃ R, R = decode8 bs := ⟨_, rfl⟩
  rw [← hR]
  unfold decode8 at hR
  have G1 : ∀ W at_, Ext w W → Calls Try.prog 49 #[.slice B nb cb, .int .i64 at_] W (GetPost bs at_ W) := fun W at_ hW => refGet_any B nb cb at_ bs W (hx.ext hW) hu hnb
  rcases hg : vget bs 0 with ⟨M, a, e1⟩
  rw [hg] at hR
  simp only at hR
  have HG := Lib.hid G1
  have Hg := Lib.hid hg
  have HR := Lib.hid hR
  have Hbl := Lib.hid hbl
  clear G1 hg hR hbl hx hu
  go_enter Try.func26, Try.ntmps26
  go_wp2_with fail
  refine (HG.out _ 0 (Ext.refl w)).mono ?_
  rintro e w1 ⟨rfl, rfl⟩
  rw [Hg.out]
  simp only
  by_cases h1 : e1 = 0
  · subst h1
    by_cases h2 : 4096 < M
    · have HE := Lib.hid (show R = ([], 4) by rw [HR.out, if_neg (by simp), if_pos h2])
      have hb1 : (4096 : Int) < (M : Int) := by omega
      go_wp2_with fail
      go_ret2
      exact ⟨none, 0, by rw [HE.out]; rfl, by rw [HE.out]; exact OwnG.nil _ _ _ _, Ext.refl w⟩
    · have HE := Lib.hid (show R = decR bs M [] a by rw [HR.out, if_neg (by simp), if_neg h2])
      have hb1 : decide ((4096 : Int) < (M : Int)) = false := decide_eq_false (by omega)
      go_wp2_with fail
      go_loopw [5, 7, 8] (fun p y i wr => ∃ (j L : Nat) (at_ : Int) (vs : List Int) (A' : Option Addr) (c' : Nat), j ≤ M ∧ L ≤ 4096 ∧ L = vs.length ∧ p = .int .i64 at_ ∧ i = .int .u64 j ∧ y = .slice A' L c' ∧ OwnG shZ 2 wr w.heap.size A' c' vs ∧ Hid (R = decR bs (M - j) vs at_) ∧ (L = 0 ↔ j = 0) ∧ Below w.heap.size w wr) (fun _ _ i _ => M - (intOf i).toNat)
      case atStart => exact ⟨0, 0, a, [], _, _, Nat.zero_le _, Nat.zero_le _, rfl, rfl, rfl, rfl, OwnG.made _ _ _ (Nat.le_refl _), HE, Iff.rfl, (Ext.refl w).alloc _⟩
      case round =>
        obtain ⟨j, L, at_, vs, A', c', hj, hL4, hL, rfl, rfl, rfl, hown, HJ, hLj, hb⟩ := hrel
        have HL := Lib.hid hL
        have hz : w.heap.size ≤ wr.heap.size := hb.size
        have Ho := Lib.hid hown
        have Hb := Lib.hid hb
        clear hL hown hb
        by_cases hlt : j < M
        · have HJ2 := Lib.hid (HJ.out.trans (by rw [show M - j = (M - (j + 1)) + 1 from by omega]))
          rcases hg1 : vget bs at_ with ⟨u, a1, e2⟩
          have hub := Hbl.out at_
          rw [hg1] at hub
          simp only at hub
          have Hub := Lib.hid hub
          have Hg1 := Lib.hid hg1
          clear hg1 hub HJ
          go_wp2_with fail
          refine (HG.out _ at_ Hb.out).mono ?_
          rintro e w1 ⟨rfl, rfl⟩
          rw [Hg1.out]
          simp only
          by_cases h3 : e2 = 0
          · subst h3
            rcases hg2 : vget bs a1 with ⟨k, a2, e3⟩
            have Hg2 := Lib.hid hg2
            clear hg2
            go_wp2_with fail
            refine (HG.out _ a1 Hb.out).mono ?_
            rintro e w1 ⟨rfl, rfl⟩
            rw [Hg2.out]
            simp only
            by_cases h4 : e3 = 0
            · subst h4
              obtain ⟨v, hv⟩ : ∃ v, v = unfS u := ⟨_, rfl⟩
              have HE2 := Lib.hid (HJ2.out.trans (decR_open Hg1.out Hg2.out))
              rw [← hv] at HE2
              have Hv := Lib.hid hv
              clear hv HJ2
              go_wp2_with fail
              refine (refUnfold_any (u : Int) _ (by omega) (by have := Hub.out; omega)).mono ?_
              rintro e w1 ⟨rfl, rfl⟩
              rw [← Hv.out]
              by_cases h5 : k = 0
              · subst h5
                have HE3 := Lib.hid (show R = ([], 5) by rw [HE2.out, if_pos (.inl rfl)])
                go_wp2_with fail
                go_ret2
                exact ⟨none, 0, by rw [HE3.out]; rfl, by rw [HE3.out]; exact OwnG.nil _ _ _ _, Hb.out⟩
              · have hk0 : ((k : Int) == 0) = false := by rw [beq_eq_false_iff_ne]; omega
                have Hk0 := Lib.hid h5
                rcases Nat.eq_zero_or_pos j with hj0 | hjp
                · subst hj0
                  obtain rfl : L = 0 := hLj.2 rfl
                  obtain rfl : vs = [] := List.eq_nil_of_length_eq_zero HL.out.symm
                  have HNE := Lib.hid (show ¬ (k = 0 ∨ ([] : List Int).getLast? = some v) by rintro (h | h); exact Hk0.out h; simp at h)
                  clear hLj h5
                  have hw : IntKind.u64.wrap (4096 - ((0 : Nat) : Int)) = 4096 - ((0 : Nat) : Int) := IntWalk.u64_in _ (by omega)
                  by_cases hbig : 4096 - ((0 : Nat) : Int) < (k : Int)
                  · have HE3 := Lib.hid (show R = ([], 4) by rw [HE2.out, if_neg HNE.out, if_pos (by rw [← HL.out]; exact hbig)])
                    clear HE2
                    go_wp2_with fail
                    go_ret2
                    exact ⟨none, 0, by rw [HE3.out]; rfl, by rw [HE3.out]; exact OwnG.nil _ _ _ _, Hb.out⟩
                  · have HE3 := Lib.hid (show R = decR bs (M - (0 + 1)) ([] ++ List.replicate k v) a2 by rw [HE2.out, if_neg HNE.out, if_neg (by rw [← HL.out]; exact hbig)])
                    have hd2 : decide (4096 - ((0 : Nat) : Int) < (k : Int)) = false := decide_eq_false hbig
                    have hkL : k + 0 ≤ 4096 := by omega
                    have hk1 : 1 ≤ k := by have := Hk0.out; omega
                    clear HE2
                    go_wp2_with fail
                    go_loopw [7, 16] (fun y i wr2 => ∃ (t : Nat) (A2 : Option Addr) (c2 : Nat), t ≤ k ∧ i = .int .u64 t ∧ y = .slice A2 (0 + t) c2 ∧ OwnG shZ 2 wr2 w.heap.size A2 c2 ([] ++ List.replicate t v) ∧ Below w.heap.size w wr2) (fun _ i _ => k - (intOf i).toNat)
                    case atStart => exact ⟨0, A', c', Nat.zero_le _, rfl, rfl, by simpa using Ho.out, Hb.out⟩
                    case round =>
                      obtain ⟨t, A2, c2, ht, rfl, rfl, hown2, hb2⟩ := hrel
                      have hz2 : w.heap.size ≤ wr.heap.size := hb2.size
                      by_cases hlt2 : t < k
                      · have hl : ([] ++ List.replicate t v).length = 0 + t := by rw [List.length_append, List.length_replicate, ← HL.out]
                        have Hl2 := Lib.hid hl
                        have Ho2 := Lib.hid hown2
                        have Hb2 := Lib.hid hb2
                        have hu1 : IntKind.u64.wrap ((t : Int) + 1) = (t : Int) + 1 := IntWalk.u64_in _ (by omega)
                        have hE1 : ∀ o, Ext wr (wr.alloc o) := fun o => (Ext.refl _).alloc o
                        clear hl hown2 hb2
                        go_wp2_with (at_builtin; refine wpList_pushG (w0 := w) (base := w.heap.size) shZ v 2 rfl _ _ 22 rfl _ 8 Try.underlying22 Try.infoI64 rfl (by decide) (Ho2.out.ext (hE1 _)) (0 + t) Hl2.out rfl rfl (heap_alloc_new _ _) (by omega) (by omega) (Below.alloc Hb2.out hz2 _) (by simp; omega) ?_; intro A3 c3 w3 hown3 _ hb3 hz3)
                        go_roundw
                        case rel => exact ⟨t + 1, A3, c3, by omega, by go_num, (by first | rfl | (congr 1; omega)), by rw [List.replicate_succ', ← List.append_assoc]; exact hown3, hb3⟩
                        case measure => simp [intOf]; omega
                      · obtain rfl : t = k := by omega
                        have hl : ([] ++ List.replicate t v).length = 0 + t := by rw [List.length_append, List.length_replicate, ← HL.out]
                        have Hl2 := Lib.hid hl
                        have hu1 : IntKind.u64.wrap ((0 : Int) + 1) = (0 : Int) + 1 := IntWalk.u64_in _ (by omega)
                        clear hl
                        go_wp2_with fail
                        go_roundw
                        case rel => exact ⟨0 + 1, 0 + t, a2, [] ++ List.replicate t v, A2, c2, by omega, by omega, Hl2.out.symm, rfl, by go_num, rfl, hown2, HE3, by omega, hb2⟩
                        case measure => simp [intOf]; omega
                · obtain ⟨p, rfl⟩ : ∃ p, j = p + 1 := ⟨j - 1, by omega⟩
                  obtain ⟨m, rfl⟩ : ∃ m, L = m + 1 := ⟨L - 1, by omega⟩
                  obtain ⟨b', o', hA', hbl', hc'⟩ := (Ho.out.rd' HL.out.symm).atZ (j := m) (by omega)
                  have hla := last_getD HL.out.symm
                  obtain ⟨x, hx⟩ : ∃ x, x = vs.getD m 0 := ⟨_, rfl⟩
                  rw [← hx] at hla hc'
                  have hp0 : decide ((0 : Int) < (p : Int) + 1) = true := decide_eq_true (by omega)
                  subst hA'
                  clear hx hLj h5
                  by_cases hxv : x = v
                  · have HE3 := Lib.hid (show R = ([], 5) by rw [HE2.out, if_pos (.inr (by rw [hla, hxv]))])
                    have hne : (x == v) = true := by simpa using hxv
                    clear HE2 hla hxv
                    go_wp2_with fail
                    go_ret2
                    exact ⟨none, 0, by rw [HE3.out]; rfl, by rw [HE3.out]; exact OwnG.nil _ _ _ _, Hb.out⟩
                  · have hne : (x == v) = false := by simpa using hxv
                    have HNE := Lib.hid (show ¬ (k = 0 ∨ vs.getLast? = some v) by rintro (h | h); exact Hk0.out h; rw [hla] at h; injection h with h; exact hxv h)
                    clear hla hxv
                    have hw : IntKind.u64.wrap (4096 - ((m : Int) + 1)) = 4096 - ((m : Int) + 1) := IntWalk.u64_in _ (by omega)
                    by_cases hbig : 4096 - ((m : Int) + 1) < (k : Int)
                    · have HE3 := Lib.hid (show R = ([], 4) by rw [HE2.out, if_neg HNE.out, if_pos (by rw [← HL.out]; exact hbig)])
                      clear HE2
                      go_wp2_with fail
                      go_ret2
                      exact ⟨none, 0, by rw [HE3.out]; rfl, by rw [HE3.out]; exact OwnG.nil _ _ _ _, Hb.out⟩
                    · have HE3 := Lib.hid (show R = decR bs (M - (p + 1 + 1)) (vs ++ List.replicate k v) a2 by rw [HE2.out, if_neg HNE.out, if_neg (by rw [← HL.out]; exact hbig)])
                      have hd2 : decide (4096 - ((m : Int) + 1) < (k : Int)) = false := decide_eq_false hbig
                      have hkL : k + m + 1 ≤ 4096 := by omega
                      have hk1 : 1 ≤ k := by have := Hk0.out; omega
                      clear HE2
                      go_wp2_with fail
                      go_loopw [7, 16] (fun y i wr2 => ∃ (t : Nat) (A2 : Option Addr) (c2 : Nat), t ≤ k ∧ i = .int .u64 t ∧ y = .slice A2 (m + 1 + t) c2 ∧ OwnG shZ 2 wr2 w.heap.size A2 c2 (vs ++ List.replicate t v) ∧ Below w.heap.size w wr2) (fun _ i _ => k - (intOf i).toNat)
                      case atStart => exact ⟨0, some ⟨b', o', none⟩, c', Nat.zero_le _, rfl, rfl, by simpa using Ho.out, Hb.out⟩
                      case round =>
                        obtain ⟨t, A2, c2, ht, rfl, rfl, hown2, hb2⟩ := hrel
                        have hz2 : w.heap.size ≤ wr.heap.size := hb2.size
                        by_cases hlt2 : t < k
                        · have hl : (vs ++ List.replicate t v).length = m + 1 + t := by rw [List.length_append, List.length_replicate, ← HL.out]
                          have Hl2 := Lib.hid hl
                          have Ho2 := Lib.hid hown2
                          have Hb2 := Lib.hid hb2
                          have hu1 : IntKind.u64.wrap ((t : Int) + 1) = (t : Int) + 1 := IntWalk.u64_in _ (by omega)
                          have hE1 : ∀ o, Ext wr (wr.alloc o) := fun o => (Ext.refl _).alloc o
                          clear hl hown2 hb2
                          go_wp2_with (at_builtin; refine wpList_pushG (w0 := w) (base := w.heap.size) shZ v 2 rfl _ _ 22 rfl _ 8 Try.underlying22 Try.infoI64 rfl (by decide) (Ho2.out.ext (hE1 _)) (m + 1 + t) Hl2.out rfl rfl (heap_alloc_new _ _) (by omega) (by omega) (Below.alloc Hb2.out hz2 _) (by simp; omega) ?_; intro A3 c3 w3 hown3 _ hb3 hz3)
                          go_roundw
                          case rel => exact ⟨t + 1, A3, c3, by omega, by go_num, (by first | rfl | (congr 1; omega)), by rw [List.replicate_succ', ← List.append_assoc]; exact hown3, hb3⟩
                          case measure => simp [intOf]; omega
                        · obtain rfl : t = k := by omega
                          have hl : (vs ++ List.replicate t v).length = m + 1 + t := by rw [List.length_append, List.length_replicate, ← HL.out]
                          have Hl2 := Lib.hid hl
                          have hu1 : IntKind.u64.wrap ((p : Int) + 1 + 1) = (p : Int) + 1 + 1 := IntWalk.u64_in _ (by omega)
                          clear hl
                          go_wp2_with fail
                          go_roundw
                          case rel => exact ⟨p + 1 + 1, m + 1 + t, a2, vs ++ List.replicate t v, A2, c2, by omega, by omega, Hl2.out.symm, rfl, by go_num, rfl, hown2, HE3, by omega, hb2⟩
                          case measure => simp [intOf]; omega
            · have hb0 : (e3 != 0) = true := by simpa using h4
              have HE3 := Lib.hid (HJ2.out.trans (decR_e2 Hg1.out Hg2.out h4))
              clear h4 HJ2
              go_wp2_with fail
              go_ret2
              exact ⟨none, 0, by rw [HE3.out]; rfl, by rw [HE3.out]; exact OwnG.nil _ _ _ _, Hb.out⟩
          · have hb0 : (e2 != 0) = true := by simpa using h3
            have HE3 := Lib.hid (HJ2.out.trans (decR_e1 Hg1.out h3))
            clear h3 HJ2
            go_wp2_with fail
            go_ret2
            exact ⟨none, 0, by rw [HE3.out]; rfl, by rw [HE3.out]; exact OwnG.nil _ _ _ _, Hb.out⟩
        · obtain rfl : j = M := by omega
          have HS := Lib.hid (show R = if at_ < (bs.length : Int) then ([], 3) else (vs, 0) by rw [HJ.out, Nat.sub_self, decR])
          have h1 := HL.out
          subst h1
          by_cases h5 : at_ < (nb : Int)
          · have HS2 := Lib.hid (show R = ([], 3) by rw [HS.out, if_pos (by rw [Hl.out]; exact h5)])
            clear HS
            go_wp2_with fail
            go_ret2
            exact ⟨none, 0, by rw [HS2.out]; rfl, by rw [HS2.out]; exact OwnG.nil _ _ _ _, Hb.out⟩
          · have HS2 := Lib.hid (show R = (vs, 0) by rw [HS.out, if_neg (by rw [Hl.out]; exact h5)])
            have hb0 : decide (at_ < (nb : Int)) = false := decide_eq_false h5
            clear HS h5
            go_wp2_with fail
            go_ret2
            exact ⟨A', c', by rw [HS2.out]; rfl, by rw [HS2.out]; exact Ho.out, Hb.out⟩
  · have hb0 : (e1 != 0) = true := by simpa using h1
    have HE := Lib.hid (show R = ([], e1) by rw [HR.out, if_pos h1])
    clear h1
    go_wp2_with fail
    go_ret2
    exact ⟨none, 0, by rw [HE.out]; rfl, by rw [HE.out]; exact OwnG.nil _ _ _ _, Ext.refl w⟩

end Go.Proofs.Ytoefhblojoaikaa
