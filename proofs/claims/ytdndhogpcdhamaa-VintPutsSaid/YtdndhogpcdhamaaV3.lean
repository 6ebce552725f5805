import Derived.Test.YtdndhogpcdhamaaV2
import Derived.WalkSpells
namespace Go.Proofs.Ytdndhogpcdhamaa
open Go.RowKit

/-- What is got is the only way to write it. -/
theorem vgetF_ok {l : List Nat} : ∀ {i u v k : Nat}, U8 l → i ≤ 9 → u < 2 ^ (7 * i) → vgetF i u l = (v, k, 0) →
    i < k ∧ k ≤ i + l.length ∧ v < 18446744073709551616 ∧ ∃ x, v = u + x * 2 ^ (7 * i) ∧ l.take (k - i) = vput x ∧ (0 < i → 0 < x) := by
  induction l with
  | nil => intro i u v k _ _ _ h; rw [vgetF_nil] at h; injection h with _ h; injection h with _ h; cases h
  | cons c r ih =>
    intro i u v k hl hi hu h
    have hc : c < 256 := hl c List.mem_cons_self
    by_cases h9 : i = 9 ∧ 1 < c
    · rw [vgetF_wide h9.1 h9.2] at h; injection h with _ h; injection h with _ h; cases h
    · obtain ⟨hb1, hb2⟩ := vget_bound hi hu h9
      by_cases h128 : c < 128
      · by_cases hz : c = 0 ∧ 0 < i
        · rw [vgetF_form h9 hz.1 hz.2] at h; injection h with _ h; injection h with _ h; cases h
        · rw [vgetF_end h9 h128 hz] at h
          injection h with h1 h
          injection h with h2 _
          rw [Nat.mod_eq_of_lt h128] at h1 hb1
          refine ⟨by omega, by rw [List.length_cons]; omega, by omega, c, h1.symm, ?_, by omega⟩
          rw [show k - i = 1 from by omega, vput_small h128]
          rfl
      · rw [vgetF_more h9 h128] at h
        have hi9 : i < 9 := by omega
        obtain ⟨q1, q2, q3, x, e1, e2, e3⟩ := ih (fun y hy => hl y (List.mem_cons_of_mem _ hy)) (by omega) (hb2 hi9) h
        have hx := e3 (by omega)
        refine ⟨by omega, by rw [List.length_cons]; omega, q3, c % 128 + 128 * x, ?_, ?_, by omega⟩
        · rw [e1, show 7 * (i + 1) = 7 + 7 * i from by omega, Nat.pow_add, Nat.add_mul, Nat.add_assoc, ← Nat.mul_assoc, Nat.mul_comm x]
        · rw [show k - i = (k - (i + 1)) + 1 from by omega, List.take_succ_cons, e2, vput_big (u := c % 128 + 128 * x) (by omega), show (c % 128 + 128 * x) / 128 = x from by omega, show (c % 128 + 128 * x) % 128 + 128 = c from by omega]

/-- What was put is got. -/
theorem vgetF_put (rest : List Nat) : ∀ {s i w u : Nat}, i + s ≤ 9 → u < 2 ^ (7 * s + 7) → (i + s = 9 → u < 2 ^ (7 * s + 1)) → (0 < s → 128 ^ s ≤ u) → (0 < i → 0 < u) →
    vgetF i w (vputN s u ++ rest) = (w + u * 2 ^ (7 * i), i + s + 1, 0) := by
  intro s
  induction s with
  | zero =>
    intro i w u h1 h2 h3 _ h5
    have e : (2 : Nat) ^ (7 * 0 + 7) = 128 := rfl
    have e2 : (2 : Nat) ^ (7 * 0 + 1) = 2 := rfl
    rw [e] at h2
    rw [e2] at h3
    show vgetF i w (u :: rest) = _
    rw [vgetF_end (by omega) h2 (by omega), Nat.mod_eq_of_lt h2]
  | succ s ih =>
    intro i w u h1 h2 h3 h4 h5
    have h4' := h4 (by omega)
    have hp : 128 ≤ 128 ^ (s + 1) := by have := Nat.pow_le_pow_right (n := 128) (by omega) (show 1 ≤ s + 1 by omega); simpa using this
    show vgetF i w ((u % 128 + 128) :: (vputN s (u / 128) ++ rest)) = _
    rw [vgetF_more (by omega) (by omega), ih (by omega) (shift_lt h2) ?_ ?_ (by omega)]
    · simp only [Prod.mk.injEq, and_true]
      refine ⟨?_, by omega⟩
      rw [show (u % 128 + 128) % 128 = u % 128 from by omega, show 7 * (i + 1) = 7 + 7 * i from by omega, Nat.pow_add, show (2 : Nat) ^ 7 = 128 from rfl, ← Nat.mul_assoc, Nat.add_assoc, ← Nat.add_mul]
      congr 2
      omega
    · intro h
      have h6 := h3 (by omega)
      apply Nat.div_lt_of_lt_mul
      rw [show (128 : Nat) = 2 ^ 7 from rfl, ← Nat.pow_add, show 7 + (7 * s + 1) = 7 * (s + 1) + 1 from by omega]
      exact h6
    · intro _
      rw [Nat.le_div_iff_mul_le (by omega), ← Nat.pow_succ]
      exact h4'

theorem vgetF_short : ∀ {s i w u : Nat}, i + s ≤ 9 → vgetF i w ((vputN s u).take s) = (0, 0, 2) := by
  intro s
  induction s with
  | zero => intro i w u _; rw [List.take_zero]; exact vgetF_nil i w
  | succ s ih =>
    intro i w u h
    show vgetF i w ((u % 128 + 128) :: ((vputN s (u / 128)).take s)) = _
    rw [vgetF_more (by omega) (by omega), ih (by omega)]

theorem vput_form {u : Nat} (hu : u < 18446744073709551616) : ∃ s, vput u = vputN s u ∧ vsize u = s + 1 ∧ s ≤ 9 ∧ u < 2 ^ (7 * s + 7) ∧ (s = 9 → u < 2 ^ (7 * s + 1)) ∧ (0 < s → 128 ^ s ≤ u) := by
  have h64 := bl_64 hu
  have hb := bl_le.1 (Nat.le_refl (bl u))
  refine ⟨(bl u - 1) / 7, rfl, rfl, by omega, Nat.lt_of_lt_of_le hb (Nat.pow_le_pow_right (by omega) (by omega)), fun h => ?_, fun h => ?_⟩
  · rw [h]; exact hu
  · rcases Nat.lt_or_ge u (128 ^ ((bl u - 1) / 7)) with hlt | hge
    · rw [show (128 : Nat) = 2 ^ 7 from rfl, ← Nat.pow_mul, ← bl_le] at hlt
      omega
    · exact hge

theorem vgetF_vput {u : Nat} (hu : u < 18446744073709551616) (rest : List Nat) : vgetF 0 0 (vput u ++ rest) = (u, vsize u, 0) := by
  obtain ⟨s, e1, e2, e3, e4, e5, e6⟩ := vput_form hu
  rw [e1, e2, vgetF_put rest (by omega) e4 (fun h => e5 (by omega)) e6 (by omega)]
  simp

theorem vget_cut {u : Nat} (hu : u < 18446744073709551616) : vgetF 0 0 ((vput u).take (vsize u - 1)) = (0, 0, 2) := by
  obtain ⟨s, e1, e2, e3, _⟩ := vput_form hu
  rw [e1, e2, Nat.add_sub_cancel, vgetF_short (by omega)]

/-- A number that was got: where it stands, and as what. -/
theorem vget_at {bs : List Nat} {a n : Int} {v : Nat} (hb : U8 bs) (h : vget bs a = (v, n, 0)) : 0 ≤ a ∧ a < n ∧ n ≤ bs.length ∧ v < 18446744073709551616 ∧ vput v = (bs.drop a.toNat).take (n.toNat - a.toNat) := by
  unfold vget at h
  by_cases h1 : a < 0 ∨ (bs.length : Int) < a
  · rw [if_pos h1] at h; injection h with _ h; injection h with _ h; omega
  · rw [if_neg h1] at h
    rcases hR : vgetF 0 0 (bs.drop a.toNat) with ⟨v', k', e'⟩
    rw [hR] at h
    simp only at h
    by_cases h2 : e' = 0
    · rw [if_pos h2] at h
      injection h with e1 h
      injection h with e2 _
      subst e1
      subst h2
      obtain ⟨q1, q2, q3, x, e3, e4, _⟩ := vgetF_ok (fun y hy => hb y (List.mem_of_mem_drop hy)) (by omega) (by decide) hR
      rw [List.length_drop] at q2
      simp at e3
      subst e3
      exact ⟨by omega, by omega, by omega, q3, by rw [← e4]; congr 1; omega⟩
    · rw [if_neg h2] at h
      injection h with _ h
      injection h with _ h
      omega

/-- Numbers one behind the other: the list, the place behind it, the error's number. -/
def vmany (bs : List Nat) : Nat → Int → List Nat × Int × Int
  | 0, a => ([], a, 0)
  | k + 1, a => if (vget bs a).2.2 = 0 then (if (vmany bs k (vget bs a).2.1).2.2 = 0 then ((vget bs a).1 :: (vmany bs k (vget bs a).2.1).1, (vmany bs k (vget bs a).2.1).2.1, 0) else ([], 0, (vmany bs k (vget bs a).2.1).2.2)) else ([], 0, (vget bs a).2.2)

def vgl (bs : List Nat) (at_ most : Int) : List Nat × Int × Int :=
  if (vget bs at_).2.2 = 0 then (if max most 0 < ((vget bs at_).1 : Int) then ([], 0, 4) else vmany bs (vget bs at_).1 (vget bs at_).2.1) else ([], 0, (vget bs at_).2.2)

/-- The list that is read so far, and what comes behind it. -/
def vjoin (us : List Nat) (r : List Nat × Int × Int) : List Nat × Int × Int := if r.2.2 = 0 then (us ++ r.1, r.2.1, 0) else ([], 0, r.2.2)
theorem vmany_err (bs : List Nat) (k : Nat) (a : Int) : (vmany bs k a).2.2 ≠ 0 → vmany bs k a = ([], 0, (vmany bs k a).2.2) := by
  cases k with
  | zero => intro h; exact absurd rfl h
  | succ k =>
    intro h
    rw [vmany] at h ⊢
    by_cases h1 : (vget bs a).2.2 = 0
    · rw [if_pos h1] at h ⊢
      by_cases h2 : (vmany bs k (vget bs a).2.1).2.2 = 0
      · rw [if_pos h2] at h; exact absurd rfl h
      · rw [if_neg h2]
    · rw [if_neg h1]
theorem vjoin_nil (bs : List Nat) (k : Nat) (a : Int) : vjoin [] (vmany bs k a) = vmany bs k a := by
  unfold vjoin
  by_cases h : (vmany bs k a).2.2 = 0
  · rw [if_pos h, List.nil_append, ← h]
  · rw [if_neg h]; exact (vmany_err bs k a h).symm
theorem vjoin_step {bs us : List Nat} {k : Nat} {a n : Int} {v : Nat} (h : vget bs a = (v, n, 0)) : vjoin us (vmany bs (k + 1) a) = vjoin (us ++ [v]) (vmany bs k n) := by
  unfold vjoin
  rw [vmany, h]
  by_cases h2 : (vmany bs k n).2.2 = 0
  · simp [h2]
  · simp [h2]
theorem vjoin_err {bs us : List Nat} {k : Nat} {a e : Int} {v : Nat} {n : Int} (h : vget bs a = (v, n, e)) (he : e ≠ 0) : vjoin us (vmany bs (k + 1) a) = ([], 0, e) := by
  unfold vjoin
  rw [vmany, h]
  simp [he]
theorem vjoin_end {bs us : List Nat} {a : Int} : vjoin us (vmany bs 0 a) = (us, a, 0) := by
  unfold vjoin; simp [vmany]

/-- What GetList leaves. -/
def GlPost (bs : List Nat) (at_ most : Int) (w : World) (e : Ending) (w' : World) : Prop :=
  ∃ A' c', e = .returned (.tuple #[.slice A' (vgl bs at_ most).1.length c', .int .i64 (vgl bs at_ most).2.1, .int .i64 (vgl bs at_ most).2.2]) ∧ Own .u64 41 w' w.heap.size A' c' (vgl bs at_ most).1 ∧ Ext w w'

theorem GlPost.err {bs : List Nat} {at_ most r : Int} {w w' : World} (h : vgl bs at_ most = ([], 0, r)) (he : Ext w w') : GlPost bs at_ most w (.returned (.tuple #[.slice none 0 0, .int .i64 0, .int .i64 r])) w' := by
  refine ⟨none, 0, by rw [h]; rfl, by rw [h]; exact Own.nil .., he⟩
theorem GlPost.ok {bs us : List Nat} {at_ most n N : Int} {w w' : World} {A : Option Addr} {c m : Nat} (h : vgl bs at_ most = (us, n, 0)) (hm : us.length = m) (hN : N = n) (ho : Own .u64 41 w' w.heap.size A c us) (he : Ext w w') :
    GlPost bs at_ most w (.returned (.tuple #[.slice A m c, .int .i64 N, .int .i64 0])) w' := by
  subst hm; subst hN
  exact ⟨A, c, by rw [h], by rw [h]; exact ho, he⟩

theorem vget_bounds {bs : List Nat} {a : Int} (hb : U8 bs) (hl : bs.length ≤ 140737488355328) : (vget bs a).1 < 18446744073709551616 ∧ 0 ≤ (vget bs a).2.1 ∧ (vget bs a).2.1 ≤ bs.length := by
  rcases h : vget bs a with ⟨v, n, e⟩
  by_cases he : e = 0
  · subst he
    obtain ⟨h1, h2, h3, h4, _⟩ := vget_at hb h
    exact ⟨h4, by show 0 ≤ n; omega, h3⟩
  · unfold vget at h
    split at h
    · injection h with h1 h; injection h with h2 _; subst h1; subst h2; exact ⟨by show 0 < _; omega, Int.le_refl _, by show (0 : Int) ≤ _; omega⟩
    · split at h
      · injection h with _ h; injection h with _ h; exact absurd h.symm he
      · injection h with h1 h; injection h with h2 _; subst h1; subst h2; exact ⟨by show 0 < _; omega, Int.le_refl _, by show (0 : Int) ≤ _; omega⟩

set_option maxHeartbeats 1600000 in
set_option maxRecDepth 100000 in
theorem refGetList_any (A : Option Addr) (n c : Nat) (at_ most : Int) (bs : List Nat) (w : World) (hx : Rd .u8 w A n bs) (hu : U8 bs) (hn : n ≤ 2097152) (hm1 : -9223372036854775808 ≤ most) (hm2 : most ≤ 9223372036854775807) :
    Calls Try.prog 46 #[.slice A n c, .int .i64 at_, .int .i64 most] w (GlPost bs at_ most w) := by
  have hl := hx.len
  obtain ⟨k1, k2, k3⟩ := vget_bounds (a := at_) hu (by omega)
  rcases hg : vget bs at_ with ⟨N, a0, e0⟩
  rw [hg] at k1 k2 k3
  simp only at k1 k2 k3
  have Hg := Lib.hid hg
  have Hl := Lib.hid hl
  clear hg hl
  go_enter Try.func46, Try.ntmps46
  go_wp2_with fail
  refine (refGet_any _ _ _ _ bs _ hx hu (by omega)).mono ?_
  rintro e w1 ⟨rfl, rfl⟩
  rw [Hg.out]
  by_cases he0 : e0 = 0
  · subst he0
    obtain ⟨M, hM⟩ : ∃ M : Int, M = max most 0 := ⟨_, rfl⟩
    have hM0 : 0 ≤ M ∧ M ≤ 9223372036854775807 ∧ ((most < 0 ∧ M = 0) ∨ (0 ≤ most ∧ M = most)) := by omega
    obtain ⟨m0, m1, mc⟩ := hM0
    have HM := Lib.hid hM
    clear hM
    by_cases hlong : M < (N : Int)
    · have HE := Lib.hid (show vgl bs at_ most = ([], 0, 4) by unfold vgl; rw [Hg.out]; simp only [if_true]; rw [if_pos (by rw [← HM.out]; exact hlong)])
      rcases mc with ⟨s1, rfl⟩ | ⟨s1, rfl⟩
      all_goals
        go_wp2
        go_ret3
        exact GlPost.err HE.out (Ext.refl _)
    · have HK := Lib.hid (show vgl bs at_ most = vmany bs N a0 by unfold vgl; rw [Hg.out]; simp only [if_true]; rw [if_neg (by rw [← HM.out]; exact hlong)])
      obtain ⟨R, hR⟩ : ∃ R, R = vmany bs N a0 := ⟨_, rfl⟩
      rw [← hR] at HK
      have HR := Lib.hid hR
      have HJ := Lib.hid (vjoin_nil bs N a0)
      clear hR
      have hstart : Ext w w := Ext.refl w
      rcases mc with ⟨s1, hMm⟩ | ⟨s1, hMm⟩
      · subst hMm
        obtain rfl : N = 0 := by omega
        have HE := Lib.hid (HK.out.trans (show R = ([], a0, 0) from HR.out))
        clear hlong
        go_wp2
        go_loopw [10, 12, 13] (fun nx v i wr => i = .int .u64 0 ∧ nx = .int .i64 a0 ∧ v = .slice (some ⟨w.heap.size, 0, none⟩) 0 0 ∧ wr = w.alloc (.cells #[] 41)) (fun _ _ _ _ => 0)
        case atStart => exact ⟨rfl, rfl, rfl, rfl⟩
        case round =>
          obtain ⟨rfl, rfl, rfl, rfl⟩ := hrel
          go_wp2
          go_ret3
          exact GlPost.ok HE.out rfl rfl (Own.made _ _ _ (Nat.le_refl _)) ((Ext.refl _).alloc _)
      · subst hMm
        go_wp2
        go_loopw [10, 12, 13] (fun nx v i wr => ∃ (j : Nat) (us : List Nat) (a : Int) (A' : Option Addr) (c' : Nat), j ≤ N ∧ i = .int .u64 j ∧ (j : Int) ≤ a ∧ a ≤ n ∧ nx = .int .i64 a ∧ v = .slice A' j c' ∧ Hid (us.length = j ∧ vjoin us (vmany bs (N - j) a) = R) ∧ Own .u64 41 wr w.heap.size A' c' us ∧ Ext w wr) (fun _ _ i _ => N - (intOf i).toNat)
        case atStart => exact ⟨0, [], a0, _, _, Nat.zero_le _, rfl, by omega, by have := Hl.out; omega, rfl, rfl, ⟨rfl, by rw [HR.out]; exact HJ.out⟩, Own.made _ _ _ (Nat.le_refl _), (Ext.refl w).alloc _⟩
        case round =>
          obtain ⟨j, us, a, A', c', hj, rfl, hja, han, rfl, rfl, Hu, hown, he⟩ := hrel
          have hz := he.size
          by_cases hlt : j < N
          · rcases hgg : vget bs a with ⟨v, a2, e2⟩
            obtain ⟨q1, q2, q3⟩ := vget_bounds (a := a) hu (by have := Hl.out; omega)
            rw [hgg] at q1 q2 q3
            simp only at q1 q2 q3
            have Hgg := Lib.hid hgg
            have Hq1 := Lib.hid q1
            clear hgg q1
            by_cases he2 : e2 = 0
            · subst he2
              have hva := vget_at hu Hgg.out
              obtain ⟨_, hva2, hva3, _⟩ := hva
              have HN := Lib.hid (show (us ++ [v]).length = j + 1 ∧ vjoin (us ++ [v]) (vmany bs (N - (j + 1)) a2) = R from ⟨by rw [List.length_append, Hu.out.1]; rfl, by rw [← vjoin_step Hgg.out, show N - (j + 1) + 1 = N - j from by omega]; exact Hu.out.2⟩)
              have ha2n : a2 ≤ n := by have := Hl.out; omega
              clear hva3 q2 q3
              go_wp2_with fail
              refine (refGet_any _ _ _ _ bs _ (hx.ext he) hu (by omega)).mono ?_
              rintro e w2 ⟨rfl, rfl⟩
              rw [Hgg.out]
              go_wp2_with (at_builtin; go_must (refine wpList_push .u64 v 41 rfl _ _ 22 rfl _ 8 Try.underlying22 Try.infoU64 rfl hown j Hu.out.1 rfl rfl rfl (by omega) (by omega) he hz ?_); intro A1 c1 w1 hown1 hb1 hz1)
              go_roundw
              case rel => exact ⟨j + 1, us ++ [v], a2, A1, c1, by omega, by go_num, by omega, ha2n, rfl, rfl, HN.out, hown1, hb1⟩
              case measure => simp [intOf]; omega
            · have hne2 : (e2 != 0) = true := by rw [bne_iff_ne]; exact he2
              have HE := Lib.hid (HK.out.trans (show R = ([], 0, e2) by rw [← Hu.out.2, show N - j = (N - j - 1) + 1 from by omega, vjoin_err Hgg.out he2]))
              clear he2
              go_wp2_with fail
              refine (refGet_any _ _ _ _ bs _ (hx.ext he) hu (by omega)).mono ?_
              rintro e w2 ⟨rfl, rfl⟩
              rw [Hgg.out]
              go_wp2
              go_ret3
              exact GlPost.err HE.out he
          · obtain rfl : j = N := by omega
            have HE := Lib.hid (HK.out.trans (show R = (us, a, 0) by rw [← Hu.out.2, Nat.sub_self, vjoin_end]))
            go_wp2
            go_ret3
            exact GlPost.ok HE.out Hu.out.1 rfl hown he
  · have hne : (e0 != 0) = true := by rw [bne_iff_ne]; exact he0
    have HE := Lib.hid (show vgl bs at_ most = ([], 0, e0) by unfold vgl; rw [Hg.out]; simp [he0])
    clear he0
    go_wp2
    go_ret3
    exact GlPost.err HE.out (Ext.refl _)

set_option maxHeartbeats 1600000 in
set_option maxRecDepth 100000 in
theorem getList_any (A : Option Addr) (n c : Nat) (at_ most : Int) (bs : List Nat) (w : World) (hx : Rd .u8 w A n bs) (hu : U8 bs) (hn : n ≤ 2097152) (hcap : n ≤ c) (hcm : c ≤ 9223372036854775807) (hm1 : -9223372036854775808 ≤ most) (hm2 : most ≤ 9223372036854775807) :
    Calls Try.prog 45 #[.slice A n c, .int .i64 at_, .int .i64 most] w (GlPost bs at_ most w) := by
  have hl := hx.len
  obtain ⟨k1, k2, k3⟩ := vget_bounds (a := at_) hu (by omega)
  rcases hg : vget bs at_ with ⟨N, a0, e0⟩
  rw [hg] at k1 k2 k3
  simp only at k1 k2 k3
  have Hg := Lib.hid hg
  have Hl := Lib.hid hl
  clear hg hl
  go_enter Try.func45, Try.ntmps45
  go_wp2_with fail
  refine (get_any _ _ _ _ bs _ hx hu (by omega) hcap hcm).mono ?_
  rintro e w1 ⟨rfl, rfl⟩
  rw [Hg.out]
  by_cases he0 : e0 = 0
  · subst he0
    obtain ⟨M, hM⟩ : ∃ M : Int, M = max most 0 := ⟨_, rfl⟩
    have hM0 : 0 ≤ M ∧ M ≤ 9223372036854775807 ∧ ((most < 0 ∧ M = 0) ∨ (0 ≤ most ∧ M = most)) := by omega
    obtain ⟨m0, m1, mc⟩ := hM0
    have HM := Lib.hid hM
    clear hM
    by_cases hlong : M < (N : Int)
    · have HE := Lib.hid (show vgl bs at_ most = ([], 0, 4) by unfold vgl; rw [Hg.out]; simp only [if_true]; rw [if_pos (by rw [← HM.out]; exact hlong)])
      rcases mc with ⟨s1, rfl⟩ | ⟨s1, rfl⟩
      all_goals
        go_wp2
        go_ret3
        exact GlPost.err HE.out (Ext.refl _)
    · have HK := Lib.hid (show vgl bs at_ most = vmany bs N a0 by unfold vgl; rw [Hg.out]; simp only [if_true]; rw [if_neg (by rw [← HM.out]; exact hlong)])
      obtain ⟨R, hR⟩ : ∃ R, R = vmany bs N a0 := ⟨_, rfl⟩
      rw [← hR] at HK
      have HR := Lib.hid hR
      have HJ := Lib.hid (vjoin_nil bs N a0)
      clear hR
      have hstart : Ext w w := Ext.refl w
      rcases mc with ⟨s1, hMm⟩ | ⟨s1, hMm⟩
      · subst hMm
        obtain rfl : N = 0 := by omega
        have HE := Lib.hid (HK.out.trans (show R = ([], a0, 0) from HR.out))
        clear hlong
        go_wp2
        go_loopw [1, 11, 31] (fun nx v i wr => i = .int .u64 0 ∧ nx = .int .i64 a0 ∧ v = .slice none 0 0 ∧ wr = w) (fun _ _ _ _ => 0)
        case atStart => exact ⟨rfl, rfl, rfl, rfl⟩
        case round =>
          obtain ⟨rfl, rfl, rfl, rfl⟩ := hrel
          go_wp2
          go_ret3
          exact GlPost.ok HE.out rfl rfl (Own.nil ..) (Ext.refl _)
      · subst hMm
        go_wp2
        go_loopw [1, 11, 31] (fun nx v i wr => ∃ (j : Nat) (us : List Nat) (a : Int) (A' : Option Addr) (c' : Nat), j ≤ N ∧ i = .int .u64 j ∧ (j : Int) ≤ a ∧ a ≤ n ∧ nx = .int .i64 a ∧ v = .slice A' j c' ∧ Hid (us.length = j ∧ vjoin us (vmany bs (N - j) a) = R) ∧ Own .u64 41 wr w.heap.size A' c' us ∧ Ext w wr) (fun _ _ i _ => N - (intOf i).toNat)
        case atStart => exact ⟨0, [], a0, _, _, Nat.zero_le _, rfl, by omega, by have := Hl.out; omega, rfl, rfl, ⟨rfl, by rw [HR.out]; exact HJ.out⟩, Own.nil .., Ext.refl w⟩
        case round =>
          obtain ⟨j, us, a, A', c', hj, rfl, hja, han, rfl, rfl, Hu, hown, he⟩ := hrel
          have hz := he.size
          by_cases hlt : j < N
          · rcases hgg : vget bs a with ⟨v, a2, e2⟩
            obtain ⟨q1, q2, q3⟩ := vget_bounds (a := a) hu (by have := Hl.out; omega)
            rw [hgg] at q1 q2 q3
            simp only at q1 q2 q3
            have Hgg := Lib.hid hgg
            have Hq1 := Lib.hid q1
            clear hgg q1
            by_cases he2 : e2 = 0
            · subst he2
              have hva := vget_at hu Hgg.out
              obtain ⟨_, hva2, hva3, _⟩ := hva
              have HN := Lib.hid (show (us ++ [v]).length = j + 1 ∧ vjoin (us ++ [v]) (vmany bs (N - (j + 1)) a2) = R from ⟨by rw [List.length_append, Hu.out.1]; rfl, by rw [← vjoin_step Hgg.out, show N - (j + 1) + 1 = N - j from by omega]; exact Hu.out.2⟩)
              have ha2n : a2 ≤ n := by have := Hl.out; omega
              clear hva3 q2 q3
              go_wp2_with fail
              refine (get_any _ _ _ _ bs _ (hx.ext he) hu (by omega) hcap hcm).mono ?_
              rintro e w2 ⟨rfl, rfl⟩
              rw [Hgg.out]
              go_wp2_with (at_builtin; go_must (refine wpList_push .u64 v 41 rfl _ _ 22 rfl _ 8 Try.underlying22 Try.infoU64 rfl hown j Hu.out.1 rfl rfl rfl (by omega) (by omega) he hz ?_); intro A1 c1 w1 hown1 hb1 hz1)
              go_roundw
              case rel => exact ⟨j + 1, us ++ [v], a2, A1, c1, by omega, by go_num, by omega, ha2n, rfl, rfl, HN.out, hown1, hb1⟩
              case measure => simp [intOf]; omega
            · have hne2 : (e2 != 0) = true := by rw [bne_iff_ne]; exact he2
              have HE := Lib.hid (HK.out.trans (show R = ([], 0, e2) by rw [← Hu.out.2, show N - j = (N - j - 1) + 1 from by omega, vjoin_err Hgg.out he2]))
              clear he2
              go_wp2_with fail
              refine (get_any _ _ _ _ bs _ (hx.ext he) hu (by omega) hcap hcm).mono ?_
              rintro e w2 ⟨rfl, rfl⟩
              rw [Hgg.out]
              go_wp2
              go_ret3
              exact GlPost.err HE.out he
          · obtain rfl : j = N := by omega
            have HE := Lib.hid (HK.out.trans (show R = (us, a, 0) by rw [← Hu.out.2, Nat.sub_self, vjoin_end]))
            go_wp2
            go_ret3
            exact GlPost.ok HE.out Hu.out.1 rfl hown he
  · have hne : (e0 != 0) = true := by rw [bne_iff_ne]; exact he0
    have HE := Lib.hid (show vgl bs at_ most = ([], 0, e0) by unfold vgl; rw [Hg.out]; simp [he0])
    clear he0
    go_wp2
    go_ret3
    exact GlPost.err HE.out (Ext.refl _)

end Go.Proofs.Ytdndhogpcdhamaa
