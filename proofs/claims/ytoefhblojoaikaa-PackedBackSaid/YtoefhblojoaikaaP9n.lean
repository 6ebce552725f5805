/-
  Layer 9: the statement PackedBack, walked.
-/
import Derived.Test.YtoefhblojoaikaaP9l
namespace Go.Proofs.Ytoefhblojoaikaa
open Go.RowKit

/-- The greatest of numbers. -/
theorem foldl_max_ge (r : List Int) (x : Int) : x ≤ r.foldl max x ∧ ∀ v ∈ r, v ≤ r.foldl max x := by
  induction r generalizing x with
  | nil => exact ⟨Int.le_refl _, fun v hv => by cases hv⟩
  | cons y r ih =>
    obtain ⟨h1, h2⟩ := ih (max x y)
    refine ⟨by rw [List.foldl_cons]; omega, fun v hv => ?_⟩
    rw [List.foldl_cons]
    rcases List.mem_cons.1 hv with rfl | hv
    · omega
    · exact h2 v hv
theorem foldl_max_mem (r : List Int) (x : Int) : r.foldl max x = x ∨ r.foldl max x ∈ r := by
  induction r generalizing x with
  | nil => exact .inl rfl
  | cons y r ih =>
    rw [List.foldl_cons]
    rcases ih (max x y) with h | h
    · rcases Int.le_total x y with hxy | hxy
      · right; rw [h, show max x y = y by omega]; simp
      · left; rw [h]; omega
    · exact .inr (List.mem_cons_of_mem _ h)
theorem le_hi {xs : List Int} : ∀ v ∈ xs, v ≤ hi xs := by
  cases xs with
  | nil => intro v hv; cases hv
  | cons x r =>
    intro v hv
    rcases List.mem_cons.1 hv with rfl | hv
    · exact (foldl_max_ge r v).1
    · exact (foldl_max_ge r x).2 v hv
theorem hi_mem {xs : List Int} (h : 0 < xs.length) : hi xs ∈ xs := by
  cases xs with
  | nil => simp at h
  | cons x r =>
    rcases foldl_max_mem r x with h | h
    · show r.foldl max x ∈ x :: r
      rw [h]; simp
    · exact List.mem_cons_of_mem _ h

/-- Close numbers take few bytes. -/
theorem encP_few {vs : List Int} {t : Nat} (hv : R64s vs) (hn : 0 < vs.length) (h4 : vs.length ≤ 4096) (h : (hi vs - lo vs).toNat < 2 ^ t) : (encP vs).length ≤ 13 + (vs.length * t + 7) / 8 := by
  have hw : wid vs ≤ t := by
    refine wdt_le.2 fun x hx => ?_
    obtain ⟨v, hvm, rfl⟩ := List.mem_map.1 hx
    have h1 := le_hi v hvm
    refine Nat.lt_of_le_of_lt ?_ h
    omega
  have h2 := fold_range (hv _ (lo_mem hn))
  have a2 := vsize_le (u := (foldS (lo vs)).toNat) (by omega)
  have a1 : vsize vs.length ≤ 2 := by
    have : bl vs.length ≤ 13 := bl_le.2 (Nat.lt_of_le_of_lt h4 (by decide))
    unfold vsize
    omega
  have a3 : wid vs * vs.length ≤ t * vs.length := Nat.mul_le_mul_right _ hw
  rw [Nat.mul_comm t] at a3
  unfold encP
  rw [if_neg (by omega), List.length_append, List.length_append, List.length_append, vput_len, vput_len, packB_len, dst_len]
  simp only [List.length_singleton]
  omega

theorem wrap64_small (z : Int) (h0 : 0 ≤ z) (h1 : z ≤ 1000000) : wrap64 z = z := by unfold wrap64; omega
theorem few_num {p m : Nat} (hm : m ≤ 258048) (hp : p ≤ 13 + (m + 7) / 8) : decide ((p : Int) ≤ wrap64 (13 + wrap64 ((wrap64 (wrap64 (m : Int) + 7)).tdiv 8))) = true := by
  rw [wrap64_small (m : Int) (by omega) (by omega), wrap64_small ((m : Int) + 7) (by omega) (by omega), Int.tdiv_eq_ediv_of_nonneg (by omega), wrap64_small (((m : Int) + 7) / 8) (by omega) (by omega), wrap64_small (13 + ((m : Int) + 7) / 8) (by omega) (by omega)]
  exact decide_eq_true (by omega)
theorem u64_small (t : Nat) (h : t ≤ 63) : IntKind.u64.wrap (t : Int) = (t : Int) := IntWalk.u64_in _ (by omega)
theorem shr_zero {g t : Nat} (ht : t ≤ 63) (hs : (g : Int) / 2 ^ min (IntKind.u64.wrap (t : Int)).toNat 64 = 0) : g < 2 ^ t := by
  rw [u64_small t ht, Int.toNat_natCast, Nat.min_eq_left (by omega)] at hs
  have h2 : ((g / 2 ^ t : Nat) : Int) = 0 := by rw [Int.natCast_ediv, Int.natCast_pow]; exact hs
  have h3 : g / 2 ^ t = 0 := Int.ofNat.inj h2
  rcases Nat.div_eq_zero_iff.1 h3 with h | h
  · exact absurd h (Nat.ne_of_gt (Nat.two_pow_pos t))
  · exact h
/-- The law's own reckoning of the bound. -/
theorem few_key {vs : List Int} {p n t g : Nat} (hl : vs.length = n) (hn : n ≤ 4096) (ht : t ≤ 63) (hs : (g : Int) / 2 ^ min (IntKind.u64.wrap (t : Int)).toNat 64 = 0) (hf : g < 2 ^ t → p ≤ 13 + (vs.length * t + 7) / 8) :
    decide ((p : Int) ≤ wrap64 (13 + wrap64 ((wrap64 (wrap64 ((n : Int) * (t : Int)) + 7)).tdiv 8))) = true := by
  have hp := hf (shr_zero ht hs)
  rw [hl] at hp
  rw [← Int.natCast_mul]
  exact few_num (Nat.mul_le_mul hn ht) hp

set_option maxHeartbeats 6400000 in
theorem walk_PackedBack (A : Option Addr) (n c : Nat) (vs : List Int) (wd : Int) (w : World) (hx : RdG shZ w A n vs) (hv : R64s vs) (hn : n * 8 ≤ 140737488351232) :
    Calls Try.prog 10 #[.slice A n c, .int .i64 wd] w fun e w' => e = .returned (.bool true) ∧ Ext w w' := by
  have Hl := Lib.hid hx.len
  by_cases hbig : 4096 < n
  · have hs2 : encode9 vs = ([], 4) := by unfold encode9; rw [if_pos (by have := Hl.out; omega)]
    have HE1 : Hid (∀ (B : Option Addr) (cb : Nat) (W : World), RdG shZ W B n vs → Calls Try.prog 32 #[.slice B n cb] W fun e w' => ∃ A' c', e = .returned (.tuple #[.slice A' 0 c', .int .i64 4]) ∧ Ext W w') := Lib.hid (fun B cb W h1 => by
      have h := pencode_any B n cb vs W h1 hv
      unfold Enc9Post at h
      rw [hs2] at h
      exact h.mono fun e w' ⟨A', c', h1, _, h2⟩ => ⟨A', c', h1, h2⟩)
    clear hs2 hv
    go_enter Try.func10, Try.ntmps10
    go_wp2_with fail
    refine (alive9 _).mono ?_
    rintro e w1 ⟨rfl, he1⟩
    go_wp2_with fail
    refine (HE1.out _ _ _ (hx.ext he1)).mono ?_
    rintro e w4 ⟨A4, c4, rfl, he4⟩
    go_wp2_with fail
    go_ret
    exact ⟨rfl, he1.trans he4⟩
  · have hl4 : vs.length ≤ 4096 := by have := Hl.out; omega
    have hs2 : encode9 vs = (encP vs, 0) := by unfold encode9; rw [if_neg (by omega)]
    obtain ⟨hd1, hd2⟩ := back9 hv hl4
    have hpl := encP_len hv hl4
    have hpu := encP_u8 vs hv
    have HFew := Lib.hid (fun (t : Nat) (h0 : 0 < vs.length) (h : (hi vs - lo vs).toNat < 2 ^ t) => encP_few hv h0 hl4 h)
    have HR := Lib.hid (fun (h0 : 0 < vs.length) => And.intro (hv _ (lo_mem h0)) (And.intro (hv _ (hi_mem h0)) (le_hi _ (lo_mem h0))))
    obtain ⟨P, hP⟩ : ∃ P, P = encP vs := ⟨_, rfl⟩
    rw [← hP] at hd1 hd2 hs2 hpl hpu HFew
    obtain ⟨p, hp⟩ : ∃ p, p = P.length := ⟨_, rfl⟩
    rw [← hp] at hpl HFew
    have Hp := Lib.hid hp.symm
    have HE1 : Hid (∀ (B : Option Addr) (cb : Nat) (W : World), RdG shZ W B n vs → Calls Try.prog 32 #[.slice B n cb] W fun e w' => ∃ A' c', e = .returned (.tuple #[.slice A' p c', .int .i64 0]) ∧ Own .u8 5 w' W.heap.size A' c' P ∧ Ext W w') := Lib.hid (fun B cb W h1 => by
      have h := pencode_any B n cb vs W h1 hv
      unfold Enc9Post at h
      rw [hs2] at h
      simp only [← hp] at h
      exact h)
    have HD1 : Hid (∀ (B : Option Addr) (cb : Nat) (W : World), Rd .u8 W B p P → p ≤ cb → cb ≤ 9223372036854775807 → Calls Try.prog 34 #[.slice B p cb] W fun e w' => ∃ A' c', e = .returned (.tuple #[.slice A' n c', .int .i64 0]) ∧ OwnG shZ 2 w' W.heap.size A' c' vs ∧ Ext W w') := Lib.hid (fun B cb W h1 h2 h3 => by
      have h := pdecode_any B p cb P W h1 hpu (by omega) h2 h3
      unfold Dec9Post at h
      rw [hd1] at h
      simp only [Hl.out] at h
      exact h)
    have HD2 : Hid (∀ (B : Option Addr) (cb : Nat) (W : World), Rd .u8 W B (p + 1) (P ++ [0]) → p + 1 ≤ cb → cb ≤ 9223372036854775807 → Calls Try.prog 34 #[.slice B (p + 1 : Nat) cb] W fun e w' => ∃ A' c', e = .returned (.tuple #[.slice A' 0 c', .int .i64 3]) ∧ Ext W w') := Lib.hid (fun B cb W h1 h2 h3 => by
      have h := pdecode_any B (p + 1) cb (P ++ [0]) W h1 (by intro v hv; rcases List.mem_append.1 hv with h | h; exact hpu v h; simp at h; omega) (by omega) h2 h3
      unfold Dec9Post at h
      rw [hd2] at h
      exact h.mono fun e w' ⟨A', c', h1, _, h2⟩ => ⟨A', c', h1, h2⟩)
    have hb4 : decide ((4096 : Int) < (n : Int)) = false := decide_eq_false (by omega)
    have hn4 : n ≤ 4096 := by omega
    clear hs2 hd1 hd2 hpu hP hp hv hl4 hbig
    go_enter Try.func10, Try.ntmps10
    go_wp2_with fail
    refine (alive9 _).mono ?_
    rintro e w1 ⟨rfl, he1⟩
    have hx1 := hx.ext he1
    go_wp2_with fail
    refine (HE1.out _ _ _ hx1).mono ?_
    rintro e w4 ⟨A4, c4, rfl, hown4, he4⟩
    have hr4 := hown4.rd' Hp.out
    obtain ⟨q1, q2⟩ := hown4.cap
    rw [Hp.out] at q1
    clear hown4
    go_wp2_with fail
    refine (HD1.out _ _ _ hr4 q1 q2).mono ?_
    rintro e w6 ⟨A6, c6, rfl, hown6, he6⟩
    go_wp2_with fail
    refine (cat_any _ _ p _ 1 _ P [0] _ ((hr4.ext he6).ext ((Ext.refl w6).alloc _)) (Rd.lit_at .u8 5 w6 [0] rfl rfl) (by omega)).mono ?_
    rintro e w7 ⟨A7, c7, rfl, hown7, he7⟩
    obtain ⟨q3, q4⟩ := hown7.cap
    have hl7 : (P ++ [0]).length = p + 1 := by rw [List.length_append, Hp.out]; rfl
    rw [hl7] at q3
    have hr7 := hown7.rd' hl7
    have he67 := ((Ext.refl w6).alloc (.cells #[.int .u8 0] 5)).trans he7
    clear hl7 hown7
    go_wp2_with fail
    refine (HD2.out _ _ _ hr7 q3 q4).mono ?_
    rintro e w8 ⟨A8, c8, rfl, he8⟩
    have hxx := (((hx1.ext he4).ext he6).ext he67).ext he8
    have hE8 := (((he1.trans he4).trans he6).trans he67).trans he8
    go_wp2_with fail
    refine (sameZ_yes ((hown6.rd' Hl.out).ext (he67.trans he8)) hxx (by omega)).mono ?_
    rintro e w9 ⟨rfl, q9, rfl⟩
    have hx9 := hxx.drewN q9
    have hE9 := hE8.drewN q9
    obtain ⟨W, hW⟩ : ∃ W, W = w8.drewN q9 := ⟨_, rfl⟩
    rw [← hW] at hx9 hE9 ⊢
    clear hW hxx hE8 he1 he4 he6 he67 he7 he8 hown6 hr4 hr7 hx1 hx q1 q2 q3 q4
    rcases Nat.eq_zero_or_pos n with hn0 | hnp
    · subst hn0
      go_wp2_with fail
      go_ret
      exact ⟨rfl, hE9⟩
    · have hn0 : ((n : Int) == 0) = false := by rw [beq_eq_false_iff_ne]; omega
      by_cases hw0 : wd < 0
      · go_wp2_with fail
        go_ret
        exact ⟨rfl, hE9⟩
      · have hw0b : decide (wd < 0) = false := decide_eq_false hw0
        by_cases hw63 : 63 < wd
        · go_wp2_with fail
          go_ret
          exact ⟨rfl, hE9⟩
        · have hw63b : decide ((63 : Int) < wd) = false := decide_eq_false hw63
          obtain ⟨t, rfl⟩ : ∃ t : Nat, wd = (t : Int) := ⟨wd.toNat, by omega⟩
          obtain ⟨r1, r2, r3⟩ := HR.out (by have := Hl.out; omega)
          have hwr := wrap_dist r2 r1 r3
          obtain ⟨x, hx'⟩ : ∃ x, x = lo vs := ⟨_, rfl⟩
          obtain ⟨y, hy'⟩ : ∃ y, y = hi vs := ⟨_, rfl⟩
          obtain ⟨g, hg⟩ : ∃ g : Nat, hi vs - lo vs = (g : Int) := ⟨(hi vs - lo vs).toNat, by omega⟩
          rw [hg] at hwr
          have HF := Lib.hid (fun (h : g < 2 ^ t) => HFew.out t (by have := Hl.out; omega) (by rw [hg, Int.toNat_natCast]; exact h))
          have Hx' := Lib.hid hx'
          have Hy' := Lib.hid hy'
          rw [← hx', ← hy'] at hwr
          have Ht := Lib.hid (show t ≤ 63 by omega)
          clear hx' hy' r1 r2 r3 hg hw0 hw63
          go_wp2_with fail
          refine (greatest_any A n c vs _ hx9 hnp (by omega)).mono ?_
          rintro e w10 ⟨rfl, rfl⟩
          rw [← Hy'.out]
          go_wp2_with fail
          refine (least_any A n c vs _ hx9 hnp (by omega)).mono ?_
          rintro e w10 ⟨rfl, rfl⟩
          rw [← Hx'.out]
          go_wp2_with fail
          rotate_left
          · go_ret
            exact ⟨rfl, hE9⟩
          · rename_i hsh
            have key : decide ((p : Int) ≤ wrap64 (13 + wrap64 ((wrap64 (wrap64 ((n : Int) * (t : Int)) + 7)).tdiv 8))) = true := few_key Hl.out hn4 Ht.out hsh HF.out
            go_ret
            refine ⟨?_, hE9⟩
            show Ending.returned (.bool _) = _
            rw [key]

end Go.Proofs.Ytoefhblojoaikaa
