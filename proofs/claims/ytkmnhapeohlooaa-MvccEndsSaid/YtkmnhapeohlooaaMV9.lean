/-
  Layer 17: timestamps rise: walked.
-/
import Derived.Test.YtkmnhapeohlooaaMV8
namespace Go.Proofs.Ytkmnhapeohlooaa
open Go.RowKit Go.Maps
set_option maxRecDepth 100000

/-- All that is in flight has been given out. -/
def Rise (s : CkS) : Prop := ∀ x ∈ s.fl, x ≤ s.last

theorem clean_mono {s s' : CkS} (hn : s.next ≤ s'.next) (hf : ∀ x ∈ s'.fl, x ∈ s.fl ∨ s.next ≤ x) : s.clean ≤ s'.clean := by
  unfold CkS.clean
  obtain ⟨a1, a2, a3⟩ := leastL_spec s.fl s.next
  obtain ⟨b1, b2, b3⟩ := leastL_spec s'.fl s'.next
  have : leastL s.fl s.next ≤ leastL s'.fl s'.next := by
    rcases b3 with b3 | b3
    · omega
    · rcases hf _ b3 with q | q
      · exact a2 _ q
      · omega
  omega
theorem clean_lt (s : CkS) : s.clean < s.next := by
  have := (leastL_spec s.fl s.next).1
  unfold CkS.clean
  omega
theorem clean_fl {s : CkS} {x : Int} (h : x ∈ s.fl) : s.clean < x := by
  have := (leastL_spec s.fl s.next).2.1 x h
  unfold CkS.clean
  omega
theorem next_ge (s : CkS) : s.last + 1 ≤ s.next ∧ s.now ≤ s.next := by
  unfold CkS.next
  split <;> omega

theorem other_keeps {s : CkS} {N : Nat} (ho : s.Ok N) (hr : Rise s) (k t : Int) : (s.other k t).last = s.last ∧ Rise (s.other k t) ∧ s.clean ≤ (s.other k t).clean := by
  have htick : s.next ≤ (s.tick t).next := by
    have h1 : s.now ≤ (s.tick t).now := by
      have := ho.now
      simp only [CkS.tick]
      split
      · omega
      · split <;> omega
    have e : (s.tick t).last = s.last := rfl
    unfold CkS.next
    rw [e]
    split <;> split <;> omega
  have hfin : ∀ u, (s.fin u).last = s.last ∧ Rise (s.fin u) ∧ s.clean ≤ (s.fin u).clean := fun u =>
    ⟨rfl, fun x hx => hr x (List.mem_of_mem_erase hx), clean_mono (Int.le_refl _) (fun x hx => .inl (List.mem_of_mem_erase hx))⟩
  have hsame : ∀ s' : CkS, s'.fl = s.fl → s'.last = s.last → s'.now = s.now → s'.last = s.last ∧ Rise s' ∧ s.clean ≤ s'.clean := fun s' e1 e2 e3 =>
    ⟨e2, (by unfold Rise; rw [e1, e2]; exact hr), (by unfold CkS.clean CkS.next; rw [e1, e2, e3]; exact Int.le_refl _)⟩
  unfold CkS.other
  split
  · exact ⟨rfl, hr, clean_mono htick (fun x hx => .inl hx)⟩
  split
  · exact hfin t
  split
  · exact hfin t
  split
  · unfold CkS.move
    split <;> exact hsame _ rfl rfl rfl
  split
  · unfold CkS.pin
    split
    · exact hsame _ rfl rfl rfl
    · split <;> exact hsame _ rfl rfl rfl
  split
  · exact hsame _ rfl rfl rfl
  split
  · split
    · exact hsame _ rfl rfl rfl
    · exact hfin _
  · exact hsame _ rfl rfl rfl

/-- What a call leaves of a clock. -/
structure Aft (w w' : World) (b0 base sb bf bp N : Nat) (s s' : CkS) (last : Int) : Prop where
  ck : Ck w' b0 base sb bf bp (N + 1) s'
  fr : Fr b0 base w w'
  last : s'.last = last
  ok : s'.Ok (N + 1)
  rise : Rise s'
  clean : s.clean ≤ s'.clean

theorem other_step {w : World} {b0 base sb bf bp N : Nat} {s : CkS} (h : Ck w b0 base sb bf bp N s) (ho : s.Ok N) (hr : Rise s) (hN : N ≤ 17592186044416) (k t : Int) (ht : R64 t) :
    Calls Try.prog 26 #[.pointer (some ⟨sb, 0, none⟩), .agg #[.int .i64 k, .int .i64 t]] w fun e w' => e = .returned (.tuple #[]) ∧ ∃ s', Aft w w' b0 base sb bf bp N s s' s.last := by
  refine (other_any h ho hN k t ht).mono ?_
  rintro e w' ⟨rfl, k1, f1⟩
  obtain ⟨h1, h2, h3⟩ := other_keeps ho hr k t
  exact ⟨rfl, _, k1, f1, h1, ho.other k t, h2, h3⟩

theorem begin_step {w : World} {b0 base sb bf bp N : Nat} {s : CkS} (h : Ck w b0 base sb bf bp N s) (ho : s.Ok N) (hr : Rise s) (hN : N ≤ 17592186044416) :
    Calls Try.prog 25 #[.pointer (some ⟨sb, 0, none⟩)] w fun e w' => (e = .returned (.tuple #[.int .i64 0, .int .i64 170]) ∧ ∃ s', Aft w w' b0 base sb bf bp N s s' s.last) ∨
      (∃ t : Int, e = .returned (.tuple #[.int .i64 t, .int .i64 0]) ∧ s.last < t ∧ s.now ≤ t ∧ s.clean < t ∧ t ≤ 1099511627776 ∧ ∃ s', Aft w w' b0 base sb bf bp N s s' t) := by
  refine (mbegin_any h ho hN).mono ?_
  rintro e w' ⟨rfl, k1, f1⟩
  have o1 := ho.begin
  have hn := next_ge s
  have hc := clean_lt s
  by_cases q : s.next > 1099511627776
  · have e1 : s.begin = (s, 0, 170) := by unfold CkS.begin; rw [if_pos q]
    rw [e1] at k1 o1 ⊢
    exact .inl ⟨rfl, s, k1, f1, rfl, o1, hr, Int.le_refl _⟩
  · have e1 : s.begin = ({ s with last := s.next, fl := s.fl ++ [s.next] }, s.next, 0) := by unfold CkS.begin; rw [if_neg q]
    rw [e1] at k1 o1 ⊢
    refine .inr ⟨s.next, rfl, by omega, hn.2, hc, by omega, _, k1, f1, rfl, o1, ?_, clean_mono ?_ ?_⟩
    · intro x hx
      show x ≤ s.next
      rcases List.mem_append.1 hx with hx | hx
      · have := hr x hx
        omega
      · have := List.mem_singleton.1 hx
        omega
    · show s.next ≤ CkS.next _
      unfold CkS.next
      show (if s.last + 1 > s.now then s.last + 1 else s.now) ≤ if (if s.last + 1 > s.now then s.last + 1 else s.now) + 1 > s.now then (if s.last + 1 > s.now then s.last + 1 else s.now) + 1 else s.now
      split <;> split <;> omega
    · intro x hx
      rcases List.mem_append.1 hx with hx | hx
      · exact .inl hx
      · have := List.mem_singleton.1 hx
        exact .inr (by omega)

theorem RdG.shR_at {w : World} {A : Option Addr} {n : Nat} {xs : List (Int × Int)} (h : RdG shR w A n xs) {j : Nat} (hj : j < n) :
    ∃ b o k t, A = some ⟨b, o, none⟩ ∧ b < w.heap.size ∧ xs[j]? = some (k, t) ∧ w.cell? ⟨b, o + j * 2, none⟩ = some (.int .i64 k) ∧ w.cell? ⟨b, o + j * 2 + 1, none⟩ = some (.int .i64 t) := by
  obtain ⟨b, o, x, e, hb, hx, hc⟩ := h.at_ hj
  obtain ⟨k, t⟩ := x
  exact ⟨b, o, k, t, e, hb, hx, hc 0 _ rfl, hc 1 _ rfl⟩

set_option maxHeartbeats 6400000 in
theorem walk_MvccRises (A : Option Addr) (n c : Nat) (ops : List (Int × Int)) (w : World) (hx : RdG shR w A n ops) (hr : ∀ o ∈ ops, R64 o.2) (hn : n ≤ 8796093022208) :
    Calls Try.prog 4 #[.slice A n c] w fun e w' => e = .returned (.bool true) ∧ Ext w w' := by
  have Hr := Lib.hid hr
  clear hr
  go_enter Try.func4, Try.ntmps4
  go_wp2_with fail
  refine (mnew_any _).mono ?_
  rintro e w0 ⟨sb, bf, bp, rfl, k0, he0⟩
  obtain ⟨B, hB⟩ : ∃ B, B = w0.heap.size := ⟨_, rfl⟩
  rw [← hB] at k0
  clear hB
  go_wp2_with fail
  refine (alive17_any _).mono ?_
  rintro e w1 ⟨rfl, he1⟩
  have k1 := k0.ext he1
  have hE1 := he0.trans he1
  clear k0 he0 he1
  go_wp2_with fail
  go_loopw [4, 5, 22] (fun v u i wr => ∃ (j : Nat) (s : CkS), j ≤ n ∧ i = .int .i64 j ∧ v = .int .i64 s.last ∧ u = .int .i64 s.clean ∧ Hid (Ck wr w.heap.size B sb bf bp j s) ∧ Hid (s.Ok j) ∧ Hid (Rise s) ∧ Ext w wr) (fun _ _ i _ => n - (intOf i).toNat)
  case atStart => exact ⟨0, CkS.new, Nat.zero_le _, rfl, rfl, rfl, Lib.hid k1, Lib.hid CkS.Ok.new, Lib.hid (by intro x hx; cases hx), hE1⟩
  case round =>
    clear k1 hE1
    obtain ⟨j, s, hj, rfl, rfl, rfl, Hk, Ho, HR, hE⟩ := hrel
    by_cases hlt : j < n
    · obtain ⟨b, o, k, t, rfl, hb, hxj, hc0, hc1⟩ := (hx.ext hE).shR_at hlt
      have ht : R64 t := Hr.out _ (List.mem_of_getElem? hxj)
      have Ht := Lib.hid ht
      have hN : j ≤ 17592186044416 := by omega
      obtain ⟨la, hla⟩ : ∃ la, la = s.last := ⟨_, rfl⟩
      obtain ⟨cl, hcl⟩ : ∃ cl, cl = s.clean := ⟨_, rfl⟩
      rw [← hla, ← hcl]
      have Hla := Lib.hid hla
      have Hcl := Lib.hid hcl
      have hX : Ext wr (wr.alloc (.cells #[.int .i64 k, .int .i64 t] 31)) := (Ext.refl wr).alloc _
      have HX := Lib.hid hX
      have Hk1 := Lib.hid (Hk.out.ext hX)
      clear hxj ht hla hcl hX
      by_cases q5 : k = 5
      · subst q5
        go_wp2_with fail
        go_roundw
        case rel => exact ⟨j + 1, s, by omega, by go_num, by rw [Hla.out], by rw [Hcl.out], Lib.hid (Hk1.out.mono (Nat.le_succ _)), Lib.hid (Ho.out.mono (Nat.le_succ _)), HR, hE.trans HX.out⟩
        case measure => simp [intOf]; omega
      · have b5 : (k == 5) = false := by simpa using q5
        by_cases q2 : k = 2
        · subst q2
          have CN := Lib.hid (mnow_any Hk1.out)
          have CB := Lib.hid (begin_step Hk1.out Ho.out HR.out hN)
          obtain ⟨nw, hnw⟩ : ∃ nw, nw = s.now := ⟨_, rfl⟩
          rw [← hnw] at CN CB
          rw [← Hla.out, ← Hcl.out] at CB
          clear hnw
          go_wp2_with fail
          refine CN.out.mono ?_
          rintro e w2 ⟨rfl, rfl⟩
          go_wp2_with fail
          refine CB.out.mono ?_
          rintro e w2 (⟨rfl, S, hA⟩ | ⟨T, rfl, t1, t2, t3, t4, S, hA⟩)
          · have HA := Lib.hid hA
            clear hA
            have K2 := Lib.hid HA.out.ck
            have O2 := Lib.hid HA.out.ok
            have Hle : Hid (cl ≤ S.clean) := Lib.hid (by rw [Hcl.out]; exact HA.out.clean)
            have T1 := Lib.hid (fun W (hW : Ext w2 W) => mclean_any (K2.out.ext hW) O2.out)
            have T2 := Lib.hid (fun W (hW : Ext w2 W) => mlast_any (K2.out.ext hW))
            have T3 := Lib.hid (fun W (hW : Ext w2 W) => mflight_any (K2.out.ext hW) O2.out (by omega))
            have Hfl : Hid (∀ x ∈ sortZ S.fl, S.clean < x ∧ x ≤ la) := Lib.hid (fun x hx => by
              have h1 := (sortZ_perm S.fl).mem_iff.1 hx
              exact ⟨clean_fl h1, by rw [← HA.out.last]; exact HA.out.rise x h1⟩)
            have Hsl := Lib.hid (sortZ_len S.fl)
            obtain ⟨C2, hC2⟩ : ∃ C2, C2 = S.clean := ⟨_, rfl⟩
            obtain ⟨L, hL⟩ : ∃ L, L = S.fl.length := ⟨_, rfl⟩
            have HC2 := Lib.hid hC2
            have hLb : L ≤ 17592186044417 := by have := O2.out.fl; omega
            rw [← hC2] at T1 Hfl Hle
            rw [← hL] at T3 Hsl
            rw [HA.out.last] at T2
            have dd : decide (C2 < cl) = false := decide_eq_false (by have := Hle.out; omega)
            clear hC2 hL
            go_wp2_with fail
            refine (T1.out _ (Ext.refl _)).mono ?_
            rintro e w3 ⟨rfl, he3⟩
            go_wp2_with fail
            refine (T2.out _ he3).mono ?_
            rintro e w4 ⟨rfl, rfl⟩
            go_wp2_with fail
            refine (T1.out _ he3).mono ?_
            rintro e w4 ⟨rfl, he4⟩
            have he5 := he3.trans he4
            clear he3 he4
            go_wp2_with fail
            refine (T3.out _ he5).mono ?_
            rintro e w5 ⟨A2, c2, rfl, hown, he6⟩
            have he7 := he5.trans he6
            have hrd := hown.rd' Hsl.out
            clear hown he6 he5
            go_wp2_with fail
            have hE2 : Ext w w5 := Fr.ext hE ((HX.out.fr _ _).trans (HA.out.fr.trans (he7.fr _ _))) (Nat.le_refl _)
            have HE2 := Lib.hid hE2
            have HK5 := Lib.hid (K2.out.ext he7)
            clear hE2 he7
            go_loopw [81] (fun i ws => ∃ m : Nat, m ≤ L ∧ i = .int .i64 m ∧ ws = w5) (fun i _ => L - (intOf i).toNat)
            case atStart => exact ⟨0, Nat.zero_le _, rfl, rfl⟩
            case round =>
              obtain ⟨m, hm, rfl, rfl⟩ := hrel
              by_cases hlm : m < L
              · obtain ⟨b3, o3, rfl, hb3, hc3⟩ := hrd.atZ hlm
                obtain ⟨y, hy⟩ : ∃ y, y = (sortZ S.fl).getD m 0 := ⟨_, rfl⟩
                have hy2 := Hfl.out y (by rw [hy, List.getD, List.getElem?_eq_getElem (by have := Hsl.out; omega)]; exact List.getElem_mem _)
                rw [← hy] at hc3
                have g1 : decide (y ≤ C2) = false := decide_eq_false (by omega)
                have g2 : decide (la < y) = false := decide_eq_false (by omega)
                clear hy hy2
                go_wp2_with fail
                go_roundw
                case rel => exact ⟨m + 1, by omega, by go_num, (by trivial)⟩
                case measure => simp [intOf]; omega
              · obtain rfl : m = L := by omega
                go_wp2_with fail
                go_roundw
                case rel => exact ⟨j + 1, S, by omega, by go_num, by rw [HA.out.last], by rw [HC2.out], HK5, O2, Lib.hid HA.out.rise, HE2.out⟩
                case measure => simp [intOf]; omega
          · have d1 : decide (T ≤ la) = false := decide_eq_false (by omega)
            have d2 : decide (T < nw) = false := decide_eq_false (by omega)
            have d3 : decide (T ≤ cl) = false := decide_eq_false (by omega)
            have d4 : decide (1099511627776 < T) = false := decide_eq_false (by omega)
            have HA := Lib.hid hA
            clear hA t1 t2 t3 t4
            have K2 := Lib.hid HA.out.ck
            have O2 := Lib.hid HA.out.ok
            have Hle : Hid (cl ≤ S.clean) := Lib.hid (by rw [Hcl.out]; exact HA.out.clean)
            have T1 := Lib.hid (fun W (hW : Ext w2 W) => mclean_any (K2.out.ext hW) O2.out)
            have T2 := Lib.hid (fun W (hW : Ext w2 W) => mlast_any (K2.out.ext hW))
            have T3 := Lib.hid (fun W (hW : Ext w2 W) => mflight_any (K2.out.ext hW) O2.out (by omega))
            have Hfl : Hid (∀ x ∈ sortZ S.fl, S.clean < x ∧ x ≤ T) := Lib.hid (fun x hx => by
              have h1 := (sortZ_perm S.fl).mem_iff.1 hx
              exact ⟨clean_fl h1, by rw [← HA.out.last]; exact HA.out.rise x h1⟩)
            have Hsl := Lib.hid (sortZ_len S.fl)
            obtain ⟨C2, hC2⟩ : ∃ C2, C2 = S.clean := ⟨_, rfl⟩
            obtain ⟨L, hL⟩ : ∃ L, L = S.fl.length := ⟨_, rfl⟩
            have HC2 := Lib.hid hC2
            have hLb : L ≤ 17592186044417 := by have := O2.out.fl; omega
            rw [← hC2] at T1 Hfl Hle
            rw [← hL] at T3 Hsl
            rw [HA.out.last] at T2
            have dd : decide (C2 < cl) = false := decide_eq_false (by have := Hle.out; omega)
            clear hC2 hL
            go_wp2_with fail
            refine (T1.out _ (Ext.refl _)).mono ?_
            rintro e w3 ⟨rfl, he3⟩
            go_wp2_with fail
            refine (T2.out _ he3).mono ?_
            rintro e w4 ⟨rfl, rfl⟩
            go_wp2_with fail
            refine (T1.out _ he3).mono ?_
            rintro e w4 ⟨rfl, he4⟩
            have he5 := he3.trans he4
            clear he3 he4
            go_wp2_with fail
            refine (T3.out _ he5).mono ?_
            rintro e w5 ⟨A2, c2, rfl, hown, he6⟩
            have he7 := he5.trans he6
            have hrd := hown.rd' Hsl.out
            clear hown he6 he5
            go_wp2_with fail
            have hE2 : Ext w w5 := Fr.ext hE ((HX.out.fr _ _).trans (HA.out.fr.trans (he7.fr _ _))) (Nat.le_refl _)
            have HE2 := Lib.hid hE2
            have HK5 := Lib.hid (K2.out.ext he7)
            clear hE2 he7
            go_loopw [81] (fun i ws => ∃ m : Nat, m ≤ L ∧ i = .int .i64 m ∧ ws = w5) (fun i _ => L - (intOf i).toNat)
            case atStart => exact ⟨0, Nat.zero_le _, rfl, rfl⟩
            case round =>
              obtain ⟨m, hm, rfl, rfl⟩ := hrel
              by_cases hlm : m < L
              · obtain ⟨b3, o3, rfl, hb3, hc3⟩ := hrd.atZ hlm
                obtain ⟨y, hy⟩ : ∃ y, y = (sortZ S.fl).getD m 0 := ⟨_, rfl⟩
                have hy2 := Hfl.out y (by rw [hy, List.getD, List.getElem?_eq_getElem (by have := Hsl.out; omega)]; exact List.getElem_mem _)
                rw [← hy] at hc3
                have g1 : decide (y ≤ C2) = false := decide_eq_false (by omega)
                have g2 : decide (T < y) = false := decide_eq_false (by omega)
                clear hy hy2
                go_wp2_with fail
                go_roundw
                case rel => exact ⟨m + 1, by omega, by go_num, (by trivial)⟩
                case measure => simp [intOf]; omega
              · obtain rfl : m = L := by omega
                go_wp2_with fail
                go_roundw
                case rel => exact ⟨j + 1, S, by omega, by go_num, by rw [HA.out.last], by rw [HC2.out], HK5, O2, Lib.hid HA.out.rise, HE2.out⟩
                case measure => simp [intOf]; omega
        · have b2 : (k == 2) = false := by simpa using q2
          have CB := Lib.hid (other_step Hk1.out Ho.out HR.out hN k t Ht.out)
          rw [← Hla.out] at CB
          go_wp2_with fail
          refine CB.out.mono ?_
          rintro e w2 ⟨rfl, S, hA⟩
          have HA := Lib.hid hA
          clear hA
          have K2 := Lib.hid HA.out.ck
          have O2 := Lib.hid HA.out.ok
          have Hle : Hid (cl ≤ S.clean) := Lib.hid (by rw [Hcl.out]; exact HA.out.clean)
          have T1 := Lib.hid (fun W (hW : Ext w2 W) => mclean_any (K2.out.ext hW) O2.out)
          have T2 := Lib.hid (fun W (hW : Ext w2 W) => mlast_any (K2.out.ext hW))
          have T3 := Lib.hid (fun W (hW : Ext w2 W) => mflight_any (K2.out.ext hW) O2.out (by omega))
          have Hfl : Hid (∀ x ∈ sortZ S.fl, S.clean < x ∧ x ≤ la) := Lib.hid (fun x hx => by
            have h1 := (sortZ_perm S.fl).mem_iff.1 hx
            exact ⟨clean_fl h1, by rw [← HA.out.last]; exact HA.out.rise x h1⟩)
          have Hsl := Lib.hid (sortZ_len S.fl)
          obtain ⟨C2, hC2⟩ : ∃ C2, C2 = S.clean := ⟨_, rfl⟩
          obtain ⟨L, hL⟩ : ∃ L, L = S.fl.length := ⟨_, rfl⟩
          have HC2 := Lib.hid hC2
          have hLb : L ≤ 17592186044417 := by have := O2.out.fl; omega
          rw [← hC2] at T1 Hfl Hle
          rw [← hL] at T3 Hsl
          rw [HA.out.last] at T2
          have dd : decide (C2 < cl) = false := decide_eq_false (by have := Hle.out; omega)
          clear hC2 hL
          go_wp2_with fail
          refine (T1.out _ (Ext.refl _)).mono ?_
          rintro e w3 ⟨rfl, he3⟩
          go_wp2_with fail
          refine (T2.out _ he3).mono ?_
          rintro e w4 ⟨rfl, rfl⟩
          go_wp2_with fail
          refine (T1.out _ he3).mono ?_
          rintro e w4 ⟨rfl, he4⟩
          have he5 := he3.trans he4
          clear he3 he4
          go_wp2_with fail
          refine (T3.out _ he5).mono ?_
          rintro e w5 ⟨A2, c2, rfl, hown, he6⟩
          have he7 := he5.trans he6
          have hrd := hown.rd' Hsl.out
          clear hown he6 he5
          go_wp2_with fail
          have hE2 : Ext w w5 := Fr.ext hE ((HX.out.fr _ _).trans (HA.out.fr.trans (he7.fr _ _))) (Nat.le_refl _)
          have HE2 := Lib.hid hE2
          have HK5 := Lib.hid (K2.out.ext he7)
          clear hE2 he7
          go_loopw [81] (fun i ws => ∃ m : Nat, m ≤ L ∧ i = .int .i64 m ∧ ws = w5) (fun i _ => L - (intOf i).toNat)
          case atStart => exact ⟨0, Nat.zero_le _, rfl, rfl⟩
          case round =>
            obtain ⟨m, hm, rfl, rfl⟩ := hrel
            by_cases hlm : m < L
            · obtain ⟨b3, o3, rfl, hb3, hc3⟩ := hrd.atZ hlm
              obtain ⟨y, hy⟩ : ∃ y, y = (sortZ S.fl).getD m 0 := ⟨_, rfl⟩
              have hy2 := Hfl.out y (by rw [hy, List.getD, List.getElem?_eq_getElem (by have := Hsl.out; omega)]; exact List.getElem_mem _)
              rw [← hy] at hc3
              have g1 : decide (y ≤ C2) = false := decide_eq_false (by omega)
              have g2 : decide (la < y) = false := decide_eq_false (by omega)
              clear hy hy2
              go_wp2_with fail
              go_roundw
              case rel => exact ⟨m + 1, by omega, by go_num, (by trivial)⟩
              case measure => simp [intOf]; omega
            · obtain rfl : m = L := by omega
              go_wp2_with fail
              go_roundw
              case rel => exact ⟨j + 1, S, by omega, by go_num, by rw [HA.out.last], by rw [HC2.out], HK5, O2, Lib.hid HA.out.rise, HE2.out⟩
              case measure => simp [intOf]; omega
    · obtain rfl : j = n := by omega
      go_wp2_with fail
      go_ret
      exact ⟨rfl, hE⟩

end Go.Proofs.Ytkmnhapeohlooaa
