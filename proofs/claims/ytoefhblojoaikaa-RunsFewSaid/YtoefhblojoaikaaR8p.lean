/-
  Layer 8: the statement RunsFew, walked.
-/
import Derived.Test.YtoefhblojoaikaaR8n
namespace Go.Proofs.Ytoefhblojoaikaa
open Go.RowKit

theorem gat_len {rs : List (Int × Int)} {u v : Int} (h : lastV none rs = some u) : (gat rs v).length = if u = v then rs.length else rs.length + 1 := by
  rcases snoc_or rs with rfl | ⟨a, ⟨x, c⟩, rfl⟩
  · simp [lastV] at h
  · rw [lastV_snoc] at h
    injection h with h
    simp only at h
    subst h
    by_cases hx : x = v
    · subst hx
      rw [gat_same, if_pos rfl]; simp
    · rw [gat_new hx, if_neg hx]; simp
theorem rsp_len0 {vs : List Int} (h : 0 < vs.length) : (rsp (vs.take (0 + 1))).length = 1 := by
  rw [rsp_take h]; rfl
theorem rsp_lenS {vs : List Int} {p : Nat} (hv : R64s vs) (h : p + 1 < vs.length) : (rsp (vs.take (p + 1 + 1))).length = if vs.getD p 0 = vs.getD (p + 1) 0 then (rsp (vs.take (p + 1))).length else (rsp (vs.take (p + 1))).length + 1 := by
  rw [rsp_take h]
  refine gat_len ?_
  rw [rsp_last (hv.take _), last_getD (m := p) (by rw [List.length_take]; omega)]
  simp [List.getD]

/-- What of the runs lies where: run j's value stands at the sum of the counts ahead. -/
theorem flat_at {rs : List (Int × Int)} {j k : Nat} {v : Int} (h : rs[j]? = some (v, (k : Int))) (hk : 1 ≤ k) :
    (flat (rs.take (j + 1))).length = (flat (rs.take j)).length + k ∧ (flat (rs.take j)).length < (flat rs).length ∧ (flat rs).getD (flat (rs.take j)).length 0 = v ∧ (flat (rs.take j)).length + k ≤ (flat rs).length := by
  have e1 := take_nextG rs j h
  have e2 : flat rs = flat (rs.take j) ++ (List.replicate k v ++ flat (rs.drop (j + 1))) := by
    obtain ⟨h1, h2⟩ := List.getElem?_eq_some_iff.1 h
    have := List.take_append_drop j rs
    rw [List.drop_eq_getElem_cons h1, h2] at this
    conv => lhs; rw [← this]
    rw [flat_append, flat_cons, Int.toNat_natCast]
  refine ⟨?_, ?_, ?_, ?_⟩
  · rw [e1, flat_append, List.length_append, flat_cons, flat_nil, List.append_nil, List.length_replicate, Int.toNat_natCast]
  · rw [e2, List.length_append, List.length_append, List.length_replicate]; omega
  · rw [e2, List.getD, List.getElem?_append_right (Nat.le_refl _), Nat.sub_self]
    obtain ⟨t, rfl⟩ : ∃ t, k = t + 1 := ⟨k - 1, by omega⟩
    rfl
  · rw [e2, List.length_append, List.length_append, List.length_replicate]; omega
theorem good_next {rs : List (Int × Int)} {p : Nat} {a b : Int × Int} (h : GoodR none rs) (ha : rs[p]? = some a) (hb : rs[p + 1]? = some b) : a.1 ≠ b.1 := by
  have e := List.take_append_drop (p + 1) rs
  rw [← e] at h
  have h2 := (GoodR.append.1 h).2
  rw [take_nextG rs p ha, lastV_snoc] at h2
  obtain ⟨h1, h3⟩ := List.getElem?_eq_some_iff.1 hb
  rw [List.drop_eq_getElem_cons h1, h3] at h2
  intro hab
  exact h2.1 (by rw [hab])

set_option maxHeartbeats 6400000 in
theorem walk_RunsFew (A : Option Addr) (n c : Nat) (vs : List Int) (w : World) (hx : RdG shZ w A n vs) (hv : R64s vs) (hn : n * 8 ≤ 140737488351232) :
    Calls Try.prog 7 #[.slice A n c] w fun e w' => e = .returned (.bool true) ∧ Ext w w' := by
  have Hl := Lib.hid hx.len
  by_cases hbig : 4096 < n
  · have hs : split8 vs = ([], 4) := by unfold split8; rw [if_pos (by have := Hl.out; omega)]
    have HS1 : Hid (∀ (B : Option Addr) (cb : Nat) (W : World), RdG shZ W B n vs → Calls Try.prog 14 #[.slice B n cb] W fun e w' => ∃ A' c', e = .returned (.tuple #[.slice A' 0 c', .int .i64 4]) ∧ Ext W w') := Lib.hid (fun B cb W h1 => by
      have h := split_any B n cb vs W h1 hv
      unfold SplitPost at h
      rw [hs] at h
      exact h.mono fun e w' ⟨A', c', h1, _, h2⟩ => ⟨A', c', h1, h2⟩)
    clear hs hv
    go_enter Try.func7, Try.ntmps7
    go_wp2_with fail
    refine (alive8 _).mono ?_
    rintro e w1 ⟨rfl, he1⟩
    go_wp2_with fail
    refine (HS1.out _ _ _ (hx.ext he1)).mono ?_
    rintro e w3 ⟨A3, c3, rfl, he3⟩
    go_wp2_with fail
    go_ret
    exact ⟨rfl, he1.trans he3⟩
  · have hl4 : vs.length ≤ 4096 := by have := Hl.out; omega
    have hs : split8 vs = (rsp vs, 0) := by unfold split8; rw [if_neg (by omega)]
    have hgood := rsp_good hv
    have hflat := rsp_flat hv
    have heach := rsp_each hv hl4
    have hrl := (rsp_len hv).1
    have HW0 := Lib.hid (fun (h : 0 < vs.length) => rsp_len0 h)
    have HWS := Lib.hid (fun (p : Nat) (h : p + 1 < vs.length) => rsp_lenS hv h)
    obtain ⟨L, hL⟩ : ∃ L, L = rsp vs := ⟨_, rfl⟩
    rw [← hL] at hs hgood hflat heach hrl
    obtain ⟨m, hm⟩ : ∃ m, m = L.length := ⟨_, rfl⟩
    rw [← hm] at hrl
    have Hm := Lib.hid hm.symm
    have HS1 : Hid (∀ (B : Option Addr) (cb : Nat) (W : World), RdG shZ W B n vs → Calls Try.prog 14 #[.slice B n cb] W fun e w' => ∃ A' c', e = .returned (.tuple #[.slice A' m c', .int .i64 0]) ∧ OwnG shR 33 w' W.heap.size A' c' L ∧ Ext W w') := Lib.hid (fun B cb W h1 => by
      have h := split_any B n cb vs W h1 hv
      unfold SplitPost at h
      rw [hs] at h
      simp only [← hm] at h
      exact h)
    have HL := Lib.hid hL
    have Hg := Lib.hid hgood
    have Hf := Lib.hid hflat
    have He := Lib.hid heach
    have hb4 : decide ((4096 : Int) < (n : Int)) = false := decide_eq_false (by omega)
    have hn4 : n ≤ 4096 := by omega
    clear hs hv hL hgood hflat heach hm hl4 hbig
    go_enter Try.func7, Try.ntmps7
    go_wp2_with fail
    refine (alive8 _).mono ?_
    rintro e w1 ⟨rfl, he1⟩
    go_wp2_with fail
    refine (HS1.out _ _ _ (hx.ext he1)).mono ?_
    rintro e w3 ⟨A3, c3, rfl, hown3, he3⟩
    have hx3 := (hx.ext he1).ext he3
    have hr3 := hown3.rd' Hm.out
    have hE3 := he1.trans he3
    clear hown3 he1 he3 hx
    go_wp2_with fail
    go_loopw [5, 29] (fun y i wr => ∃ (j t q : Nat), j ≤ n ∧ i = .int .i64 j ∧ y = .int .i64 t ∧ t = (rsp (vs.take j)).length ∧ t ≤ j ∧ wr = w3.drewN q) (fun _ i _ => n - (intOf i).toNat)
    case atStart => exact ⟨0, 0, 0, Nat.zero_le _, rfl, rfl, rfl, Nat.le_refl _, rfl⟩
    case round =>
      obtain ⟨j, t, q, hj, rfl, rfl, ht, htj, rfl⟩ := hrel
      have Ht := Lib.hid ht
      clear ht
      by_cases hlt : j < n
      · obtain ⟨b, o, hA, hbl, hc⟩ := hx3.2 (by omega)
        have hC : ∀ i, i < n → w3.cell? ⟨b, o + i, none⟩ = some (.int .i64 (vs.getD i 0)) := fun i hi => by
          have h := hc i (vs.getD i 0) (by rw [List.getD, List.getElem?_eq_getElem (by have := Hl.out; omega)]; rfl) 0 _ rfl
          rw [show o + i * shZ.sz + 0 = o + i from by show o + i * 1 + 0 = o + i; omega] at h
          exact h
        clear hc
        subst hA
        rcases Nat.eq_zero_or_pos j with hj0 | hjp
        · subst hj0
          have HN := Lib.hid (HW0.out (by have := Hl.out; omega))
          have ht0 : t = 0 := by omega
          subst ht0
          clear hC
          go_wp2_with fail
          go_quiet (fail)
          go_wp2_with fail
          go_roundw
          case rel => exact ⟨0 + 1, 1, _, by omega, by go_num, rfl, HN.out.symm, by omega, rfl⟩
          case measure => simp [intOf]; omega
        · obtain ⟨p, rfl⟩ : ∃ p, j = p + 1 := ⟨j - 1, by omega⟩
          have hc0 := hC p (by omega)
          have hc1 := hC (p + 1) hlt
          have HN := Lib.hid (HWS.out p (by have := Hl.out; omega))
          obtain ⟨x, hxx⟩ : ∃ x, x = vs.getD p 0 := ⟨_, rfl⟩
          obtain ⟨y, hyy⟩ : ∃ y, y = vs.getD (p + 1) 0 := ⟨_, rfl⟩
          rw [← hxx, ← hyy] at HN
          rw [← hxx] at hc0
          rw [← hyy] at hc1
          have hb1 : ((p : Int) + 1 - 1) < (n : Int) := by omega
          have hb2 : (0 : Int) ≤ (p : Int) + 1 - 1 := by omega
          have hp0 : ((p : Int) + 1 == 0) = false := by rw [beq_eq_false_iff_ne]; omega
          have hq0 : (w3.drewN q).cell? ⟨b, o + p, none⟩ = some (.int .i64 x) := hc0
          have hq1 : (w3.drewN q).cell? ⟨b, o + (p + 1), none⟩ = some (.int .i64 y) := hc1
          clear hC hxx hyy
          by_cases hxy : x = y
          · subst hxy
            have HN2 := Lib.hid (show t = (rsp (vs.take (p + 1 + 1))).length by rw [HN.out, if_pos rfl]; exact Ht.out)
            go_wp2_with fail
            go_quiet (fail)
            go_wp2_with fail
            go_roundw
            case rel => exact ⟨p + 1 + 1, t, _, by omega, by go_num, rfl, HN2.out, by omega, rfl⟩
            case measure => simp [intOf]; omega
          · have HN2 := Lib.hid (show t + 1 = (rsp (vs.take (p + 1 + 1))).length by rw [HN.out, if_neg hxy, Ht.out])
            have hne : (y != x) = true := by rw [bne_iff_ne]; exact fun h => hxy h.symm
            clear hxy
            go_wp2_with fail
            go_quiet (fail)
            go_wp2_with fail
            go_roundw
            case rel => exact ⟨p + 1 + 1, t + 1, _, by omega, by go_num, by go_num, HN2.out, by omega, rfl⟩
            case measure => simp [intOf]; omega
      · obtain rfl : j = n := by omega
        have htm : t = m := by rw [Ht.out, ← Hm.out, HL.out, List.take_of_length_le (by have := Hl.out; omega)]
        subst htm
        obtain ⟨Q, hQ⟩ : ∃ Q, Q = w3.drewN q := ⟨_, rfl⟩
        have hEQ : Ext w3 Q := by rw [hQ]; exact Ext.of_drewN w3 q
        rw [← hQ]
        clear hQ
        go_wp2_with fail
        go_loopw [7, 51] (fun y i wr => ∃ (a N : Nat), a ≤ t ∧ N ≤ 4096 ∧ i = .int .i64 a ∧ y = .int .i64 N ∧ N = (flat (L.take a)).length ∧ Ext w3 wr) (fun _ i _ => t - (intOf i).toNat)
        case atStart => exact ⟨0, 0, Nat.zero_le _, Nat.zero_le _, rfl, rfl, rfl, hEQ⟩
        case round =>
          obtain ⟨a, N, ha, hN4, rfl, rfl, hN, hE⟩ := hrel
          have HNN := Lib.hid hN
          clear hN
          by_cases hla : a < t
          · obtain ⟨b, o, hA, hbl, hcells⟩ := hr3.2 (by omega)
            have hC : ∀ W i r, Ext w3 W → L[i]? = some r → W.cell? ⟨b, o + i * 2, none⟩ = some (.int .i64 r.1) ∧ W.cell? ⟨b, o + i * 2 + 1, none⟩ = some (.int .i64 r.2) := fun W i r hW h =>
              ⟨(Below.cell hW (p := ⟨b, o + i * 2, none⟩) hbl).trans (hcells i r h 0 _ rfl), (Below.cell hW (p := ⟨b, o + i * 2 + 1, none⟩) hbl).trans (hcells i r h 1 _ rfl)⟩
            have hLa : L[a]? = some (L.getD a (0, 0)) := by rw [List.getD, List.getElem?_eq_getElem (by have := Hm.out; omega)]; rfl
            obtain ⟨⟨v, k0⟩, hvk⟩ : ∃ r, r = L.getD a (0, 0) := ⟨_, rfl⟩
            rw [← hvk] at hLa
            have hea := He.out _ (List.mem_of_getElem? hLa)
            have hga := Hg.out.mem _ (List.mem_of_getElem? hLa)
            simp only at hea hga
            obtain ⟨k, rfl⟩ : ∃ k : Nat, k0 = (k : Int) := ⟨k0.toNat, by omega⟩
            have hk1 : 1 ≤ k := by omega
            have hk4 : k ≤ 4096 := by omega
            obtain ⟨f1, f2, f3, f4⟩ := flat_at hLa hk1
            rw [← HNN.out] at f1 f2 f3 f4
            rw [Hf.out] at f2 f3 f4
            rw [Hl.out] at f2 f4
            obtain ⟨b0, o0, hA0, hbl0, hc0⟩ := (hx3.ext hE).atZ f2
            rw [f3] at hc0
            obtain ⟨hd0, hd1⟩ := hC wr a _ hE hLa
            simp only at hd0 hd1
            have HF1 := Lib.hid f1
            have hlk : decide ((k : Int) < 1) = false := decide_eq_false (by omega)
            have hNn : decide ((j : Int) ≤ (N : Int)) = false := decide_eq_false (by omega)
            have hNn2 : decide (j ≤ N) = false := decide_eq_false (by omega)
            have hf2 : (N : Int) < (j : Int) := by omega
            have hX : Ext wr (wr.alloc (.cells #[.int .i64 v, .int .i64 (k : Int)] 33)) := (Ext.refl wr).alloc _
            have hs0 : (wr.alloc (.cells #[.int .i64 v, .int .i64 (k : Int)] 33)).cell? ⟨b0, o0 + N, none⟩ = some (.int .i64 v) := (Below.cell hX (p := ⟨b0, o0 + N, none⟩) hbl0).trans hc0
            have hs1 : (wr.alloc (.cells #[.int .i64 v, .int .i64 (k : Int)] 33)).cell? ⟨wr.heap.size, 0, none⟩ = some (.int .i64 v) := by rw [cell_of_row _ wr.heap.size 0 _ _ (0, 0) (heap_alloc_new wr _)]; rfl
            have hs2 : (wr.alloc (.cells #[.int .i64 v, .int .i64 (k : Int)] 33)).cell? ⟨wr.heap.size, 1, none⟩ = some (.int .i64 (k : Int)) := by rw [cell_of_row _ wr.heap.size 1 _ _ (0, 0) (heap_alloc_new wr _)]; rfl
            have hvv : (v != v) = false := by simp
            subst hA
            subst hA0
            rcases Nat.eq_zero_or_pos a with ha0 | hap
            · subst ha0
              rw [Nat.zero_mul, Nat.add_zero] at hd0 hd1
              clear hcells hvk hea hga f1 f3 hC hLa
              go_wp2_with fail
              go_quiet (fail)
              go_wp2_with fail
              go_roundw
              case rel => exact ⟨0 + 1, N + k, by omega, by omega, by go_num, by go_num, HF1.out.symm, hE.trans ((hX.drewN _))⟩
              case measure => simp [intOf]; omega
            · obtain ⟨p, rfl⟩ : ∃ p, a = p + 1 := ⟨a - 1, by omega⟩
              have hLp : L[p]? = some (L.getD p (0, 0)) := by rw [List.getD, List.getElem?_eq_getElem (by have := Hm.out; omega)]; rfl
              have hne0 := good_next Hg.out hLp hLa
              obtain ⟨hp0, hp1⟩ := hC _ p _ (hE.trans hX) hLp
              obtain ⟨⟨v', k'⟩, hvk'⟩ : ∃ r, r = L.getD p (0, 0) := ⟨_, rfl⟩
              rw [← hvk'] at hp0 hne0
              simp only at hp0 hne0
              have hne : (v == v') = false := by rw [beq_eq_false_iff_ne]; exact fun h => hne0 h.symm
              have hb1 : ((p : Int) + 1 - 1) < (t : Int) := by omega
              have hb2 : (0 : Int) ≤ (p : Int) + 1 - 1 := by omega
              clear hcells hvk hea hga f1 f3 hC hLa hLp hne0 hvk' hp1
              go_wp2_with fail
              go_quiet (fail)
              go_wp2_with fail
              go_roundw
              case rel => exact ⟨p + 1 + 1, N + k, by omega, by omega, by go_num, by go_num, HF1.out.symm, hE.trans ((hX.drewN _))⟩
              case measure => simp [intOf]; omega
          · obtain rfl : a = t := by omega
            have hNn : N = j := by rw [HNN.out, List.take_of_length_le (by have := Hm.out; omega), Hf.out, Hl.out]
            subst hNn
            go_wp2_with fail
            go_ret
            exact ⟨rfl, hE3.trans hE⟩

end Go.Proofs.Ytoefhblojoaikaa
