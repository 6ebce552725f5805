import Derived.Test.YthibbgmicmfkfaaGreatGW1
import Derived.WalkSpells
import Derived.Lib.BytesEntry
import Derived.Deep.RegionHeld3
namespace Go.Proofs.YthibbgmicmfkfaaGreat
open Go.RowKit
set_option maxRecDepth 100000
def vgetF : Nat → Nat → List Nat → Nat × Nat × Nat
 | _, _, [] => (0, 0, 2)
 | i, u, c :: r => if i = 9 ∧ 1 < c then (0, 0, 20) else if c < 128 then (if c = 0 ∧ 0 < i then (0, 0, 5) else (u + c % 128 * 2 ^ (7 * i), i + 1, 0)) else vgetF (i + 1) (u + c % 128 * 2 ^ (7 * i)) r
def vget (bs : List Nat) (at_ : Int) : Nat × Int × Int :=
 if at_ < 0 ∨ (bs.length : Int) < at_ then (0, 0, 1) else
   if (vgetF 0 0 (bs.drop at_.toNat)).2.2 = 0 then ((vgetF 0 0 (bs.drop at_.toNat)).1, at_ + ((vgetF 0 0 (bs.drop at_.toNat)).2.1 : Int), 0) else (0, 0, ((vgetF 0 0 (bs.drop at_.toNat)).2.2 : Int))
theorem vgetF_nil (i u : Nat) : vgetF i u [] = (0, 0, 2) := by cases i <;> rfl
theorem vgetF_wide {i u c : Nat} {r : List Nat} (h : i = 9) (h2 : 1 < c) : vgetF i u (c :: r) = (0, 0, 20) := by rw [vgetF, if_pos ⟨h, h2⟩]
theorem vgetF_form {i u c : Nat} {r : List Nat} (h1 : ¬ (i = 9 ∧ 1 < c)) (h2 : c = 0) (h3 : 0 < i) : vgetF i u (c :: r) = (0, 0, 5) := by rw [vgetF, if_neg h1, if_pos (by omega), if_pos ⟨h2, h3⟩]
theorem vgetF_end {i u c : Nat} {r : List Nat} (h1 : ¬ (i = 9 ∧ 1 < c)) (h2 : c < 128) (h3 : ¬ (c = 0 ∧ 0 < i)) : vgetF i u (c :: r) = (u + c % 128 * 2 ^ (7 * i), i + 1, 0) := by rw [vgetF, if_neg h1, if_pos h2, if_neg h3]
theorem vgetF_more {i u c : Nat} {r : List Nat} (h1 : ¬ (i = 9 ∧ 1 < c)) (h2 : ¬ c < 128) : vgetF i u (c :: r) = vgetF (i + 1) (u + c % 128 * 2 ^ (7 * i)) r := by rw [vgetF, if_neg h1, if_neg h2]
theorem vget_bound {i u c : Nat} (hi : i ≤ 9) (hu : u < 2 ^ (7 * i)) (h1 : ¬ (i = 9 ∧ 1 < c)) : u + c % 128 * 2 ^ (7 * i) < 18446744073709551616 ∧ (i < 9 → u + c % 128 * 2 ^ (7 * i) < 2 ^ (7 * (i + 1))) := by
 have hstep : 2 ^ (7 * (i + 1)) = 128 * 2 ^ (7 * i) := by rw [show 7 * (i + 1) = 7 + 7 * i from by omega, Nat.pow_add]
 have hle : (c % 128 + 1) * 2 ^ (7 * i) ≤ 128 * 2 ^ (7 * i) := Nat.mul_le_mul_right _ (by omega)
 rw [Nat.add_mul, Nat.one_mul] at hle
 by_cases h9 : i = 9
 · subst h9
   have hc : c % 128 ≤ 1 := by omega
   have := Nat.mul_le_mul_right (2 ^ (7 * 9)) hc
   have e : (2 : Nat) ^ (7 * 9) = 9223372036854775808 := by decide
   rw [e] at *
   omega
 · have hp : 2 ^ (7 * (i + 1)) ≤ 2 ^ (7 * 9) := Nat.pow_le_pow_right (by omega) (by omega)
   have e : (2 : Nat) ^ (7 * 9) = 9223372036854775808 := by decide
   rw [e] at hp
   omega
theorem vget_arg {bs : List Nat} {at_ : Int} (h : at_ < 0 ∨ (bs.length : Int) < at_) : vget bs at_ = (0, 0, 1) := if_pos h
theorem vget_err {bs : List Nat} {a k : Nat} (h : a ≤ bs.length) (he : vgetF 0 0 (bs.drop a) = (0, 0, k)) (hk : k ≠ 0) : vget bs (a : Int) = (0, 0, (k : Int)) := by
 unfold vget
 rw [if_neg (by omega), Int.toNat_natCast, he, if_neg hk]
theorem vget_ok {bs : List Nat} {a u k : Nat} (h : a ≤ bs.length) (he : vgetF 0 0 (bs.drop a) = (u, k, 0)) : vget bs (a : Int) = (u, (a : Int) + (k : Int), 0) := by
 unfold vget
 rw [if_neg (by omega), Int.toNat_natCast, he, if_pos rfl]
theorem drop_cons {bs : List Nat} {k : Nat} (h : k < bs.length) : bs.drop k = bs.getD k 0 :: bs.drop (k + 1) := by rw [List.drop_eq_getElem_cons h]; simp [List.getD, h]
def GetPost (bs : List Nat) (at_ : Int) (w : World) (e : Ending) (w' : World) : Prop :=
 e = .returned (.tuple #[.int .u64 (vget bs at_).1, .int .i64 (vget bs at_).2.1, .int .i64 (vget bs at_).2.2]) ∧ w = w'
theorem GetPost.of {bs : List Nat} {at_ : Int} {w : World} {u : Nat} {n e : Int} {U N E : Int} (h : vget bs at_ = (u, n, e)) (hu : U = u) (hn : N = n) (he : E = e) : GetPost bs at_ w (.returned (.tuple #[.int .u64 U, .int .i64 N, .int .i64 E])) w := by
 subst hu; subst hn; subst he
 exact ⟨by rw [h], rfl⟩
theorem andnot_bits {x : Nat} (h : x < 256) : bits .andNot .u8 (x : Int) 128 = (x : Int) % 128 := by
 rw [show (128 : Int) = ((128 : Nat) : Int) from rfl, u8_andNot_nat _ _ h (by omega), show 255 - 128 = 2 ^ 7 - 1 from rfl, Nat.and_two_pow_sub_one_eq_mod]
 omega
theorem get_or {u x j U : Nat} (hu : u < 2 ^ (7 * j)) (hU : U = u + x % 128 * 2 ^ (7 * j)) (hb : U < 18446744073709551616) :
   bits .or .u64 (u : Int) (IntKind.u64.wrap ((x : Int) % 128 * 2 ^ (7 * j))) = (U : Int) := by
 have e1 : (x : Int) % 128 * 2 ^ (7 * j) = ((x % 128 * 2 ^ (7 * j) : Nat) : Int) := by norm_cast
 have hm : x % 128 * 2 ^ (7 * j) % 2 ^ (7 * j) = 0 := Nat.mul_mod_left _ _
 rw [e1]
 generalize x % 128 * 2 ^ (7 * j) = y at *
 have hu64 : u < 18446744073709551616 := by omega
 rw [IntWalk.u64_in _ (by omega), u64_or_nat _ _ hu64 (by omega), Nat.or_comm, nat_join (7 * j) _ _ hm hu, hU, Nat.add_comm]
set_option maxHeartbeats 1600000 in
set_option maxRecDepth 100000 in
theorem get_any (A : Option Addr) (n c : Nat) (at_ : Int) (bs : List Nat) (w : World) (hx : Rd .u8 w A n bs) (hu : U8 bs) (hn : n ≤ 140737488355328) (hcap : n ≤ c) (hcm : c ≤ 9223372036854775807) :
   Calls Tryz.prog 77 #[.slice A n c, .int .i64 at_] w (GetPost bs at_ w) := by
 have hl := hx.len
 by_cases hbad : at_ < 0 ∨ (n : Int) < at_
 · have HE := Lib.hid (vget_arg (bs := bs) (at_ := at_) (by rw [hl]; exact hbad))
   clear hl
   by_cases h0 : at_ < 0
   · clear hbad
     go_enter Tryz.func77, Tryz.ntmps77
     go_wp2
     go_ret3
     exact GetPost.of HE.out rfl rfl rfl
   · have h1 : (n : Int) < at_ := by omega
     clear hbad
     go_enter Tryz.func77, Tryz.ntmps77
     go_wp2
     go_ret3
     exact GetPost.of HE.out rfl rfl rfl
 · obtain ⟨a, rfl⟩ := Int.eq_ofNat_of_zero_le (show 0 ≤ at_ by omega)
   have han : a ≤ n := by omega
   obtain ⟨R, hR⟩ : ∃ R, R = vgetF 0 0 (bs.drop a) := ⟨_, rfl⟩
   have HR := Lib.hid hR
   have Hl := Lib.hid hl
   have b1 : decide ((a : Int) < 0) = false := by simp
   have b2 : decide (n < a) = false := by simp; omega
   clear hR hl hbad
   by_cases hend : a = n
   · subst hend
     have HE := Lib.hid (vget_err (bs := bs) (a := a) (k := 2) (by have := Hl.out; omega) (by rw [List.drop_of_length_le (by have := Hl.out; omega), vgetF_nil]) (by decide))
     go_enter Tryz.func77, Tryz.ntmps77
     go_wp2
     all_goals
       go_loop [22] (fun i => i = .int .i64 0) (fun _ => 0)
       case atStart => rfl
       case round =>
         subst hrel
         go_wp2
         go_ret3
         exact GetPost.of HE.out rfl rfl rfl
   · obtain ⟨b, o, rfl, hb, hcell⟩ := hx.2 (by omega)
     have hca : ¬ c = a := by omega
     have hlt0 : a < n := by omega
     go_enter Tryz.func77, Tryz.ntmps77
     go_wp2
     go_loopw [7, 22] (fun v i wr => ∃ (j u : Nat), j ≤ 9 ∧ a + j ≤ n ∧ i = .int .i64 j ∧ v = .int .u64 u ∧ u < pw (7 * j) ∧ Hid (R = vgetF j u (bs.drop (a + j))) ∧ wr = w) (fun _ i _ => n - (intOf i).toNat)
     case atStart => exact ⟨0, 0, by omega, by omega, rfl, rfl, by decide, HR.out, rfl⟩
     case round =>
       obtain ⟨j, u, hj, haj, rfl, rfl, huj, Hj, rfl⟩ := hrel
       by_cases hlt : a + j < n
       · have hc := hcell (a + j) hlt
         have hcu := hu.at_ (a + j)
         have hd := drop_cons (bs := bs) (k := a + j) (by have := Hl.out; omega)
         obtain ⟨x, hx'⟩ : ∃ x, x = bs.getD (a + j) 0 := ⟨_, rfl⟩
         rw [← hx'] at hc hcu hd
         rw [← Nat.add_assoc] at hc
         have Hd := Lib.hid hd
         clear hx' hd
         have hjn : j < n - a := by omega
         by_cases h9 : j = 9 ∧ 1 < x
         · have HE := Lib.hid (vget_err (bs := bs) (a := a) (k := 20) (by have := Hl.out; omega) (by rw [← HR.out, Hj.out, Hd.out, vgetF_wide h9.1 h9.2]) (by decide))
           obtain ⟨rfl, h1x⟩ := h9
           go_wp2
           go_ret3
           exact GetPost.of HE.out rfl rfl rfl
         · obtain ⟨hb1, hb2⟩ := vget_bound hj huj h9
           have key : (((j : Int) == 9) = false) ∨ (((j : Int) == 9) = true ∧ (x : Int) ≤ 1) := by
             by_cases h : j = 9
             · exact .inr ⟨by rw [beq_iff_eq]; omega, by omega⟩
             · exact .inl (by rw [beq_eq_false_iff_ne]; omega)
           obtain ⟨U, hU⟩ : ∃ U, U = u + x % 128 * 2 ^ (7 * j) := ⟨_, rfl⟩
           have hand := andnot_bits hcu
           have hor := get_or huj hU (by rw [hU]; exact hb1)
           have HU := Lib.hid hU
           have Hb2 := Lib.hid hb2
           clear hU hb1 hb2 huj
           by_cases hc128 : x < 128
           · by_cases hz : x = 0 ∧ 0 < j
             · have HE := Lib.hid (vget_err (bs := bs) (a := a) (k := 5) (by have := Hl.out; omega) (by rw [← HR.out, Hj.out, Hd.out, vgetF_form h9 hz.1 hz.2]) (by decide))
               obtain ⟨hx0, hjp⟩ := hz
               have hz0 : ((x : Int) == 0) = true := by rw [beq_iff_eq]; omega
               clear h9 hx0
               rcases key with k1 | ⟨k1, k2⟩
               all_goals
                 go_wp2
                 go_ret3
                 exact GetPost.of HE.out rfl rfl rfl
             · have HE := Lib.hid (vget_ok (bs := bs) (a := a) (by have := Hl.out; omega) (by rw [← HR.out, Hj.out, Hd.out, vgetF_end h9 hc128 hz]))
               have hzz : (((x : Int) == 0) = false) ∨ (((x : Int) == 0) = true ∧ j ≤ 0) := by
                 by_cases h : x = 0
                 · exact .inr ⟨by rw [beq_iff_eq]; omega, by omega⟩
                 · exact .inl (by rw [beq_eq_false_iff_ne]; omega)
               clear h9 hz
               rcases hzz with z1 | ⟨z1, z2⟩
               all_goals rcases key with k1 | ⟨k1, k2⟩
               all_goals
                 go_wp2
                 go_ret3
                 exact GetPost.of HE.out (by rw [HU.out]) (by omega) rfl
           · have hj9 : j < 9 := by omega
             have hN := Lib.hid (show R = vgetF (j + 1) U (bs.drop (a + (j + 1))) by rw [Hj.out, Hd.out, vgetF_more h9 hc128, HU.out]; rfl)
             have Hup := Lib.hid (show U < pw (7 * (j + 1)) by rw [HU.out]; exact Hb2.out hj9)
             have hjf : ((j : Int) == 9) = false := by rw [beq_eq_false_iff_ne]; omega
             clear h9 key
             go_wp2
             go_roundw
             case rel => exact ⟨j + 1, U, by omega, by omega, by go_num, rfl, Hup.out, hN.out, trivial⟩
             case measure => simp [intOf]; omega
       · have HE := Lib.hid (vget_err (bs := bs) (a := a) (k := 2) (by have := Hl.out; omega) (by rw [← HR.out, Hj.out, List.drop_of_length_le (by have := Hl.out; omega), vgetF_nil]) (by decide))
         have hjn : n - a ≤ j := by omega
         go_wp2
         go_ret3
         exact GetPost.of HE.out rfl rfl rfl
theorem vgetF_ok {l : List Nat} : ∀ {i u v k : Nat}, U8 l → i ≤ 9 → u < 2 ^ (7 * i) → vgetF i u l = (v, k, 0) →
   i < k ∧ k ≤ i + l.length ∧ v < 18446744073709551616 ∧ ∃ x, v = u + x * 2 ^ (7 * i) ∧ l.take (k - i) = vput x ∧ (0 < i → 0 < x) := by
 induction l with
 | nil => intro i u v k _ _ _ h; rw [vgetF_nil] at h; injection h with _ h; injection h with _ h; cases h
 | cons c r ih =>
   intro i u v k hl hi hu h
   have hc : c < 256 := hl c List.mem_cons_self
   by_cases h9 : i = 9 ∧ 1 < c
   · rw [vgetF_wide h9.1 h9.2] at h; injection h with _ h; injection h with _ h; cases h
   · obtain ⟨hb1, hb2⟩ := vget_bound hi hu h9
     by_cases h128 : c < 128
     · by_cases hz : c = 0 ∧ 0 < i
       · rw [vgetF_form h9 hz.1 hz.2] at h; injection h with _ h; injection h with _ h; cases h
       · rw [vgetF_end h9 h128 hz] at h
         injection h with h1 h
         injection h with h2 _
         rw [Nat.mod_eq_of_lt h128] at h1 hb1
         refine ⟨by omega, by rw [List.length_cons]; omega, by omega, c, h1.symm, ?_, by omega⟩
         rw [show k - i = 1 from by omega, vput_small h128]
         rfl
     · rw [vgetF_more h9 h128] at h
       have hi9 : i < 9 := by omega
       obtain ⟨q1, q2, q3, x, e1, e2, e3⟩ := ih (fun y hy => hl y (List.mem_cons_of_mem _ hy)) (by omega) (hb2 hi9) h
       have hx := e3 (by omega)
       refine ⟨by omega, by rw [List.length_cons]; omega, q3, c % 128 + 128 * x, ?_, ?_, by omega⟩
       · rw [e1, show 7 * (i + 1) = 7 + 7 * i from by omega, Nat.pow_add, Nat.add_mul, Nat.add_assoc, ← Nat.mul_assoc, Nat.mul_comm x]
       · rw [show k - i = (k - (i + 1)) + 1 from by omega, List.take_succ_cons, e2, vput_big (u := c % 128 + 128 * x) (by omega), show (c % 128 + 128 * x) / 128 = x from by omega, show (c % 128 + 128 * x) % 128 + 128 = c from by omega]
theorem vgetF_put (rest : List Nat) : ∀ {s i w u : Nat}, i + s ≤ 9 → u < 2 ^ (7 * s + 7) → (i + s = 9 → u < 2 ^ (7 * s + 1)) → (0 < s → 128 ^ s ≤ u) → (0 < i → 0 < u) →
   vgetF i w (vputN s u ++ rest) = (w + u * 2 ^ (7 * i), i + s + 1, 0) := by
 intro s
 induction s with
 | zero =>
   intro i w u h1 h2 h3 _ h5
   have e : (2 : Nat) ^ (7 * 0 + 7) = 128 := rfl
   have e2 : (2 : Nat) ^ (7 * 0 + 1) = 2 := rfl
   rw [e] at h2
   rw [e2] at h3
   show vgetF i w (u :: rest) = _
   rw [vgetF_end (by omega) h2 (by omega), Nat.mod_eq_of_lt h2]
 | succ s ih =>
   intro i w u h1 h2 h3 h4 h5
   have h4' := h4 (by omega)
   have hp : 128 ≤ 128 ^ (s + 1) := by have := Nat.pow_le_pow_right (n := 128) (by omega) (show 1 ≤ s + 1 by omega); simpa using this
   show vgetF i w ((u % 128 + 128) :: (vputN s (u / 128) ++ rest)) = _
   rw [vgetF_more (by omega) (by omega), ih (by omega) (shift_lt h2) ?_ ?_ (by omega)]
   · simp only [Prod.mk.injEq, and_true]
     refine ⟨?_, by omega⟩
     rw [show (u % 128 + 128) % 128 = u % 128 from by omega, show 7 * (i + 1) = 7 + 7 * i from by omega, Nat.pow_add, show (2 : Nat) ^ 7 = 128 from rfl, ← Nat.mul_assoc, Nat.add_assoc, ← Nat.add_mul]
     congr 2
     omega
   · intro h
     have h6 := h3 (by omega)
     apply Nat.div_lt_of_lt_mul
     rw [show (128 : Nat) = 2 ^ 7 from rfl, ← Nat.pow_add, show 7 + (7 * s + 1) = 7 * (s + 1) + 1 from by omega]
     exact h6
   · intro _
     rw [Nat.le_div_iff_mul_le (by omega), ← Nat.pow_succ]
     exact h4'
theorem vput_form {u : Nat} (hu : u < 18446744073709551616) : ∃ s, vput u = vputN s u ∧ vsize u = s + 1 ∧ s ≤ 9 ∧ u < 2 ^ (7 * s + 7) ∧ (s = 9 → u < 2 ^ (7 * s + 1)) ∧ (0 < s → 128 ^ s ≤ u) := by
 have h64 := bl_64 hu
 have hb := bl_le.1 (Nat.le_refl (bl u))
 refine ⟨(bl u - 1) / 7, rfl, rfl, by omega, Nat.lt_of_lt_of_le hb (Nat.pow_le_pow_right (by omega) (by omega)), fun h => ?_, fun h => ?_⟩
 · rw [h]; exact hu
 · rcases Nat.lt_or_ge u (128 ^ ((bl u - 1) / 7)) with hlt | hge
   · rw [show (128 : Nat) = 2 ^ 7 from rfl, ← Nat.pow_mul, ← bl_le] at hlt
     omega
   · exact hge
theorem vgetF_vput {u : Nat} (hu : u < 18446744073709551616) (rest : List Nat) : vgetF 0 0 (vput u ++ rest) = (u, vsize u, 0) := by
 obtain ⟨s, e1, e2, e3, e4, e5, e6⟩ := vput_form hu
 rw [e1, e2, vgetF_put rest (by omega) e4 (fun h => e5 (by omega)) e6 (by omega)]
 simp
theorem vget_at {bs : List Nat} {a n : Int} {v : Nat} (hb : U8 bs) (h : vget bs a = (v, n, 0)) : 0 ≤ a ∧ a < n ∧ n ≤ bs.length ∧ v < 18446744073709551616 ∧ vput v = (bs.drop a.toNat).take (n.toNat - a.toNat) := by
 unfold vget at h
 by_cases h1 : a < 0 ∨ (bs.length : Int) < a
 · rw [if_pos h1] at h; injection h with _ h; injection h with _ h; omega
 · rw [if_neg h1] at h
   rcases hR : vgetF 0 0 (bs.drop a.toNat) with ⟨v', k', e'⟩
   rw [hR] at h
   simp only at h
   by_cases h2 : e' = 0
   · rw [if_pos h2] at h
     injection h with e1 h
     injection h with e2 _
     subst e1
     subst h2
     obtain ⟨q1, q2, q3, x, e3, e4, _⟩ := vgetF_ok (fun y hy => hb y (List.mem_of_mem_drop hy)) (by omega) (by decide) hR
     rw [List.length_drop] at q2
     simp at e3
     subst e3
     exact ⟨by omega, by omega, by omega, q3, by rw [← e4]; congr 1; omega⟩
   · rw [if_neg h2] at h
     injection h with _ h
     injection h with _ h
     omega
theorem vget_bounds {bs : List Nat} {a : Int} (hb : U8 bs) (hl : bs.length ≤ 140737488355328) : (vget bs a).1 < 18446744073709551616 ∧ 0 ≤ (vget bs a).2.1 ∧ (vget bs a).2.1 ≤ bs.length := by
 rcases h : vget bs a with ⟨v, n, e⟩
 by_cases he : e = 0
 · subst he
   obtain ⟨h1, h2, h3, h4, _⟩ := vget_at hb h
   exact ⟨h4, by show 0 ≤ n; omega, h3⟩
 · unfold vget at h
   split at h
   · injection h with h1 h; injection h with h2 _; subst h1; subst h2; exact ⟨by show 0 < _; omega, Int.le_refl _, by show (0 : Int) ≤ _; omega⟩
   · split at h
     · injection h with _ h; injection h with _ h; exact absurd h.symm he
     · injection h with h1 h; injection h with h2 _; subst h1; subst h2; exact ⟨by show 0 < _; omega, Int.le_refl _, by show (0 : Int) ≤ _; omega⟩
theorem u8_take {b : List Nat} (h : U8 b) (n : Nat) : U8 (b.take n) := fun v hv => h v (List.mem_of_mem_take hv)
theorem u8_drop {b : List Nat} (h : U8 b) (n : Nat) : U8 (b.drop n) := fun v hv => h v (List.mem_of_mem_drop hv)
def cut (bs : List Nat) (a m : Nat) : List Nat := (bs.drop a).take m
theorem cut_len {bs : List Nat} {a m : Nat} (h : a + m ≤ bs.length) : (cut bs a m).length = m := by simp [cut]; omega
theorem cut_u8 {bs : List Nat} (h : U8 bs) (a m : Nat) : U8 (cut bs a m) := u8_take (u8_drop h a) m
theorem cut_at {bs : List Nat} {a m i : Nat} (hi : i < m) : (cut bs a m).getD i 0 = bs.getD (a + i) 0 := by
 simp [cut, List.getD, List.getElem?_drop, hi]
theorem nat_xor_all {a : Nat} (h : a < 18446744073709551616) : a ^^^ 18446744073709551615 = 18446744073709551615 - a := by
 have e : (~~~ (BitVec.ofNat 64 a)).toNat = 2 ^ 64 - 1 - a := by
   rw [BitVec.toNat_not, BitVec.toNat_ofNat, Nat.mod_eq_of_lt h]
 rw [BitVec.not_def, BitVec.toNat_xor, BitVec.toNat_allOnes, BitVec.toNat_ofNat, Nat.mod_eq_of_lt h] at e
 rw [Nat.xor_comm]
 exact e
def foldS (v : Int) : Int := if v < 0 then -2 * v - 1 else 2 * v
def unfS (u : Int) : Int := if u % 2 = 0 then u / 2 else -(u / 2) - 1
theorem fold_bits {v : Int} (h0 : -9223372036854775808 ≤ v) (h1 : v ≤ 9223372036854775807) :
   bits .xor .u64 (IntKind.u64.wrap (IntKind.u64.wrap v * 2)) (IntKind.u64.wrap (v / 9223372036854775808)) = foldS v := by
 unfold foldS
 simp only [IntKind.wrap_u64]
 by_cases hv : v < 0
 · rw [if_pos hv]
   have e1 : v % 18446744073709551616 * 2 % 18446744073709551616 = ((2 * v + 18446744073709551616).toNat : Int) := by omega
   have e2 : v / 9223372036854775808 % 18446744073709551616 = ((18446744073709551615 : Nat) : Int) := by omega
   rw [e1, e2, u64_xor_nat _ _ (by omega) (by omega), nat_xor_all (by omega)]
   omega
 · rw [if_neg hv]
   have e1 : v % 18446744073709551616 * 2 % 18446744073709551616 = ((2 * v).toNat : Int) := by omega
   have e2 : v / 9223372036854775808 % 18446744073709551616 = ((0 : Nat) : Int) := by omega
   rw [e1, e2, u64_xor_nat _ _ (by omega) (by omega), Nat.xor_zero]
   omega
theorem unfold_bits {u : Int} (h0 : 0 ≤ u) (h1 : u ≤ 18446744073709551615) : bits .xor .i64 (u / 2) (wrap64 (-wrap64 (bits .and .u64 u 1))) = unfS u := by
 unfold unfS
 have e0 : bits .and .u64 u 1 = u % 2 := by
   have e1 : u = (u.toNat : Int) := by omega
   rw [e1, show (1 : Int) = ((1 : Nat) : Int) from rfl, u64_and_nat _ _ (by omega) (by omega), nat_mask1]
   omega
 rw [e0]
 have hx : ∀ a b : Int, bits .xor .i64 a b = IntKind.i64.wrap ((BitVec.ofInt 64 a ^^^ BitVec.ofInt 64 b).toNat : Int) := fun a b => rfl
 have ha : (BitVec.ofInt 64 (u / 2)).toNat = (u / 2).toNat := by
   have := ofInt_u64 (u / 2).toNat (by omega)
   rwa [Int.toNat_of_nonneg (by omega)] at this
 rw [hx, BitVec.toNat_xor, ha]
 by_cases hp : u % 2 = 0
 · rw [if_pos hp, hp]
   have : (BitVec.ofInt 64 (wrap64 (-wrap64 0))).toNat = 0 := by decide +kernel
   rw [this, Nat.xor_zero, IntKind.wrap_i64]
   omega
 · rw [if_neg hp, show u % 2 = 1 from by omega]
   have : (BitVec.ofInt 64 (wrap64 (-wrap64 1))).toNat = 18446744073709551615 := by decide +kernel
   rw [this, nat_xor_all (by omega), IntKind.wrap_i64]
   omega
theorem fold_any (v : Int) (w : World) (h0 : -9223372036854775808 ≤ v) (h1 : v ≤ 9223372036854775807) :
   Calls Tryz.prog 174 #[.int .i64 v] w fun e w' => e = .returned (.int .u64 (foldS v)) ∧ w = w' := by
 have H := Lib.hid (fold_bits h0 h1)
 go_enter Tryz.func174, Tryz.ntmps174
 go_wp2
 go_ret
 exact ⟨ret_int H.out, rfl⟩
theorem unfold_any (u : Int) (w : World) (h0 : 0 ≤ u) (h1 : u ≤ 18446744073709551615) :
   Calls Tryz.prog 189 #[.int .u64 u] w fun e w' => e = .returned (.int .i64 (unfS u)) ∧ w = w' := by
 have H := Lib.hid (unfold_bits h0 h1)
 go_enter Tryz.func189, Tryz.ntmps189
 go_wp2
 go_ret
 exact ⟨ret_int H.out, rfl⟩
def narV (v size : Int) : Int :=
 if size = 1 then (v + 128) % 256 - 128 else if size = 2 then (v + 32768) % 65536 - 32768 else if size = 4 then (v + 2147483648) % 4294967296 - 2147483648 else if size = 8 then v else 0
def narB (v size : Int) : Bool := if size = 1 ∨ size = 2 ∨ size = 4 ∨ size = 8 then decide (narV v size = v) else false
theorem ret_nar {a a' : Int} {b b' : Bool} (h : a = a') (h2 : b = b') : Ending.returned (.tuple #[.int .i64 a, .bool b]) = .returned (.tuple #[.int .i64 a', .bool b']) := by rw [h, h2]
theorem wrap_i8_eq (n : Int) : IntKind.i8.wrap n = (n + 128) % 256 - 128 := by simp [IntKind.wrap, IntKind.bits, IntKind.signed]; split <;> omega
theorem wrap_i16_eq (n : Int) : IntKind.i16.wrap n = (n + 32768) % 65536 - 32768 := by simp [IntKind.wrap, IntKind.bits, IntKind.signed]; split <;> omega
theorem beq_dec (a b : Int) : (a == b) = decide (a = b) := by rw [Bool.eq_iff_iff]; simp
set_option maxHeartbeats 800000 in
theorem narrow_any (v size : Int) (w : World) (_h0 : -9223372036854775808 ≤ v) (_h1 : v ≤ 9223372036854775807) :
   Calls Tryz.prog 186 #[.int .i64 v, .int .i64 size] w fun e w' => e = .returned (.tuple #[.int .i64 (narV v size), .bool (narB v size)]) ∧ w = w' := by
 obtain ⟨a, ha⟩ : ∃ a, a = narV v size := ⟨_, rfl⟩
 obtain ⟨b, hb⟩ : ∃ b, b = narB v size := ⟨_, rfl⟩
 rw [← ha, ← hb]
 have Ha := Lib.hid ha
 have Hb := Lib.hid hb
 clear ha hb
 go_enter Tryz.func186, Tryz.ntmps186
 go_wp2
 all_goals go_ret2
 · have hs : size = 1 := by have h : (size == 1) = true := by assumption
                            exact beq_iff_eq.1 h
   subst hs
   have e : wrap64 (IntKind.i8.wrap v) = narV v 1 := by unfold wrap64 narV; rw [wrap_i8_eq, if_pos rfl]; omega
   exact ⟨ret_nar (by rw [Ha.out, e]) (by rw [Hb.out, beq_dec, e]; rfl), rfl⟩
 · have hs : size = 2 := by have h : (size == 2) = true := by assumption
                            exact beq_iff_eq.1 h
   subst hs
   have e : wrap64 (IntKind.i16.wrap v) = narV v 2 := by unfold wrap64 narV; rw [wrap_i16_eq, if_neg (by omega), if_pos rfl]; omega
   exact ⟨ret_nar (by rw [Ha.out, e]) (by rw [Hb.out, beq_dec, e]; rfl), rfl⟩
 · have hs : size = 4 := by have h : (size == 4) = true := by assumption
                            exact beq_iff_eq.1 h
   subst hs
   have e : wrap64 (wrap32 v) = narV v 4 := by unfold wrap64 wrap32 narV; rw [if_neg (by omega), if_neg (by omega), if_pos rfl]; omega
   exact ⟨ret_nar (by rw [Ha.out, e]) (by rw [Hb.out, beq_dec, e]; rfl), rfl⟩
 · have hs : size = 8 := by have h : (size == 8) = true := by assumption
                            exact beq_iff_eq.1 h
   subst hs
   have e : v = narV v 8 := by unfold narV; rw [if_neg (by omega), if_neg (by omega), if_neg (by omega), if_pos rfl]
   exact ⟨ret_nar (by rw [Ha.out, ← e]) (by rw [Hb.out]; unfold narB; rw [if_pos (by omega), ← e]; simp), rfl⟩
 · have q1 : ¬ size = 1 := by have h : (size == 1) = false := by assumption
                              simpa using h
   have q2 : ¬ size = 2 := by have h : (size == 2) = false := by assumption
                              simpa using h
   have q4 : ¬ size = 4 := by have h : (size == 4) = false := by assumption
                              simpa using h
   have q8 : ¬ size = 8 := by have h : (size == 8) = false := by assumption
                              simpa using h
   exact ⟨ret_nar (by rw [Ha.out]; unfold narV; rw [if_neg q1, if_neg q2, if_neg q4, if_neg q8]) (by rw [Hb.out]; unfold narB; rw [if_neg (by omega)]), rfl⟩
def numK (k : Int) : Bool := decide (1 ≤ k ∧ k ≤ 6)
def kindK (k : Int) : Bool := decide (1 ≤ k ∧ k ≤ 8)
theorem numK_yes {k : Int} (h : 1 ≤ k ∧ k ≤ 6) : numK k = true := decide_eq_true h
theorem numK_no {k : Int} (h : ¬ (1 ≤ k ∧ k ≤ 6)) : numK k = false := decide_eq_false h
theorem kindK_yes {k : Int} (h : 1 ≤ k ∧ k ≤ 8) : kindK k = true := decide_eq_true h
theorem kindK_no {k : Int} (h : ¬ (1 ≤ k ∧ k ≤ 8)) : kindK k = false := decide_eq_false h
def least (k : Int) : Int := if k = 1 then -128 else if k = 2 then -32768 else if k = 3 then -2147483648 else if k = 4 then -9223372036854775808 else 0
def great (k : Int) : Int := if k = 1 then 127 else if k = 2 then 32767 else if k = 3 then 2147483647 else if k = 4 then 9223372036854775807 else if k = 5 then 65535 else 1
def fitsK (k v : Int) : Bool := decide (least k ≤ v ∧ v ≤ great k)
def chk (k : Int) (ok nul : Bool) (num : Int) (txt : List Nat) : Int :=
 if ¬ (1 ≤ k ∧ k ≤ 8) then 1
 else if nul = true then (if ok = true then (if num ≠ 0 ∨ 0 < txt.length then 50 else 0) else 51)
 else if k ≤ 6 then (if 0 < txt.length then 50 else if least k ≤ num ∧ num ≤ great k then 0 else 52)
 else if num ≠ 0 then 50 else if 200 < txt.length then 4 else if k = 7 ∧ 0 ∈ txt then 5 else 0
theorem chk_arg {k : Int} {ok nul : Bool} {num : Int} {txt : List Nat} (h : ¬ (1 ≤ k ∧ k ≤ 8)) : chk k ok nul num txt = 1 := if_pos h
theorem chk_null {k : Int} {ok : Bool} {num : Int} {txt : List Nat} (h : 1 ≤ k ∧ k ≤ 8) : chk k ok true num txt = if ok = true then (if num ≠ 0 ∨ 0 < txt.length then 50 else 0) else 51 := by
 unfold chk; rw [if_neg (fun q => q h), if_pos rfl]
theorem chk_num {k : Int} {ok : Bool} {num : Int} {txt : List Nat} (h : 1 ≤ k ∧ k ≤ 6) : chk k ok false num txt = if 0 < txt.length then 50 else if least k ≤ num ∧ num ≤ great k then 0 else 52 := by
 unfold chk; rw [if_neg (fun q => q (by omega)), if_neg (by decide), if_pos h.2]
theorem chk_txt {k : Int} {ok : Bool} {num : Int} {txt : List Nat} (h : k = 7 ∨ k = 8) : chk k ok false num txt = if num ≠ 0 then 50 else if 200 < txt.length then 4 else if k = 7 ∧ 0 ∈ txt then 5 else 0 := by
 unfold chk; rw [if_neg (fun q => q (by omega)), if_neg (by decide), if_neg (by omega)]
theorem fitsK_iff {k v : Int} : fitsK k v = true ↔ least k ≤ v ∧ v ≤ great k := decide_eq_true_iff
theorem narB_1 (v : Int) : narB v 1 = fitsK 1 v := by
 rw [Bool.eq_iff_iff, fitsK_iff]; unfold narB narV least great; simp; omega
theorem narB_2 (v : Int) : narB v 2 = fitsK 2 v := by
 rw [Bool.eq_iff_iff, fitsK_iff]; unfold narB narV least great; simp; omega
theorem narB_4 (v : Int) : narB v 4 = fitsK 3 v := by
 rw [Bool.eq_iff_iff, fitsK_iff]; unfold narB narV least great; simp; omega
def u8s (xs : List Nat) : List UInt8 := Lib.bytesOf (xs.map fun x : Nat => (x : Int))
theorem u8s_cons (x : Nat) (xs : List Nat) : u8s (x :: xs) = UInt8.ofNat x :: u8s xs := by simp [u8s, Lib.bytesOf]
theorem u8_inj {x y : Nat} (hx : x < 256) (hy : y < 256) : UInt8.ofNat x = UInt8.ofNat y ↔ x = y := by
 constructor
 · intro h
   have h1 := congrArg UInt8.toNat h
   rw [UInt8.toNat_ofNat_of_lt' hx, UInt8.toNat_ofNat_of_lt' hy] at h1
   exact h1
 · rintro rfl; rfl
theorem u8_lt {x y : Nat} (hx : x < 256) (hy : y < 256) : UInt8.ofNat x < UInt8.ofNat y ↔ x < y := by
 rw [UInt8.lt_iff_toNat_lt, UInt8.toNat_ofNat_of_lt' hx, UInt8.toNat_ofNat_of_lt' hy]
theorem idx_zero : ∀ {xs : List Nat}, U8 xs → (0 ≤ Lib.indexByte (u8s xs) 0 ↔ 0 ∈ xs)
 | [], _ => by simp [u8s, Lib.bytesOf, Lib.indexByte]
 | x :: r, h => by
   have hx : x < 256 := h x List.mem_cons_self
   have ih := idx_zero (xs := r) (fun y hy => h y (List.mem_cons_of_mem _ hy))
   have hg := Lib.indexByte_ge (u8s r) 0
   have he : (UInt8.ofNat x == 0) = decide (x = 0) := by
     rw [Bool.eq_iff_iff, beq_iff_eq, decide_eq_true_iff]
     exact u8_inj (y := 0) hx (by omega)
   rw [u8s_cons, Lib.indexByte, he, List.mem_cons]
   by_cases hx0 : x = 0
   · simp [hx0]
   · rw [decide_eq_false hx0]
     simp only [Bool.false_eq_true, if_false]
     by_cases hm : Lib.indexByte (u8s r) 0 = -1
     · rw [hm]
       have : ¬ 0 ∈ r := fun q => by have := ih.2 q; omega
       simp [this]
       omega
     · have hb : (Lib.indexByte (u8s r) 0 == -1) = false := by rw [beq_eq_false_iff_ne]; exact hm
       rw [hb]
       simp only [Bool.false_eq_true, if_false]
       have h0 : 0 ≤ Lib.indexByte (u8s r) 0 := by omega
       have := ih.1 h0
       constructor
       · intro _; exact .inr this
       · intro _; omega
def ordT : List Nat → List Nat → Int
 | [], [] => 0
 | [], _ :: _ => -1
 | _ :: _, [] => 1
 | x :: r, y :: s => if x < y then -1 else if y < x then 1 else ordT r s
theorem cmp_ord : ∀ {xs ys : List Nat}, U8 xs → U8 ys → Lib.compareBytes (u8s xs) (u8s ys) = ordT xs ys
 | [], [], _, _ => rfl
 | [], y :: s, _, _ => by simp [u8s, Lib.bytesOf, Lib.compareBytes, ordT]
 | x :: r, [], _, _ => by simp [u8s, Lib.bytesOf, Lib.compareBytes, ordT]
 | x :: r, y :: s, h, h2 => by
   have hx : x < 256 := h x List.mem_cons_self
   have hy : y < 256 := h2 y List.mem_cons_self
   rw [u8s_cons, u8s_cons, Lib.compareBytes, ordT, cmp_ord (fun z hz => h z (List.mem_cons_of_mem _ hz)) (fun z hz => h2 z (List.mem_cons_of_mem _ hz))]
   simp only [u8_lt hx hy, u8_lt hy hx]
theorem run_bytes {P : Program} {w : World} {A : Option Addr} {n c : Nat} {xs : List Nat} (h : Rd .u8 w A n xs) :
   (Extern.Bytes.bytesOf (.slice A n c)).run P w = .ok ⟨(u8s xs).toArray⟩ w := by
 have hl := h.len
 have he : ∀ l : List UInt8, (⟨ByteArray.empty.data ++ l.toArray⟩ : ByteArray) = ⟨l.toArray⟩ := by
   intro l
   apply ByteArray.ext
   show (#[] : Array UInt8) ++ l.toArray = l.toArray
   simp
 cases A with
 | none =>
   rcases Nat.eq_zero_or_pos n with h0 | h0
   · subst h0
     obtain rfl : xs = [] := List.eq_nil_of_length_eq_zero hl
     rfl
   · obtain ⟨b, o, e, _⟩ := h.2 h0
     cases e
 | some a =>
   have hr := Lib.run_loadBytesX (P := P) w (xs.map fun x : Nat => (x : Int)) a .empty (fun j x hj => by
     rw [List.getElem?_map, Option.map_eq_some_iff] at hj
     obtain ⟨y, hy, rfl⟩ := hj
     have hjl : j < xs.length := (List.getElem?_eq_some_iff.1 hy).1
     obtain ⟨b, o, e, _, hc⟩ := h.at_ (j := j) (by omega)
     injection e with e
     subst e
     have e2 : (⟨b, o, none⟩ : Addr).add j = ⟨b, o + j, none⟩ := by unfold Addr.add; split <;> simp_all
     rw [e2, hc]
     simp [List.getD, hy])
   rw [he, List.length_map, hl] at hr
   exact hr
theorem run_index {P : Program} {w : World} {A : Option Addr} {n c : Nat} {xs : List Nat} (h : Rd .u8 w A n xs) :
   (Extern.BytealgIndexByte.indexByte #[.slice A n c, .int .u8 0]).run P w = .ok (.int .i64 (Lib.indexByte (u8s xs) 0)) w := by
 have hr := run_bytes (P := P) (c := c) h
 have hs := Lib.run_indexByteString (P := P) ⟨(u8s xs).toArray⟩ 0 w
 change Sem.run P (do
   let b ← Extern.Bytes.bytesOf (.slice A n c)
   let c ← Extern.Bytes.asByte (.int .u8 0)
   match (List.range b.size).find? fun i => b[i]! == c with
   | some i => pure (goInt i)
   | none => pure (goInt (-1))) w = _
 change Sem.run P (do
   let b ← Extern.Bytes.bytesOf (.string ⟨(u8s xs).toArray⟩)
   let c ← Extern.Bytes.asByte (.int .u8 0)
   match (List.range b.size).find? fun i => b[i]! == c with
   | some i => pure (goInt i)
   | none => pure (goInt (-1))) w = _ at hs
 rw [Sem.run_bind, hr]
 rw [Sem.run_bind] at hs
 exact hs
theorem run_compare {P : Program} {w : World} {A A2 : Option Addr} {n c n2 c2 : Nat} {xs ys : List Nat} (h : Rd .u8 w A n xs) (h2 : Rd .u8 w A2 n2 ys) (hu : U8 xs) (hu2 : U8 ys) :
   (Extern.BytealgCompare.compare #[.slice A n c, .slice A2 n2 c2]).run P w = .ok (.int .i64 (ordT xs ys)) w := by
 have hr := run_bytes (P := P) (c := c) h
 have hr2 := run_bytes (P := P) (c := c2) h2
 change Sem.run P (do pure (goInt (Extern.BytealgCompare.cmp (← Extern.Bytes.bytesOf (.slice A n c)) (← Extern.Bytes.bytesOf (.slice A2 n2 c2))))) w = _
 simp only [Sem.run_bind, hr, hr2, Sem.run_pure, Result.andThen]
 rw [Lib.cmp_eq, cmp_ord hu hu2]
 rfl
theorem number_any (k : Int) (w : World) :
   Calls Tryz.prog 114 #[.int .i64 k] w fun e w' => e = .returned (.bool (numK k)) ∧ w = w' := by
 by_cases h : 1 ≤ k ∧ k ≤ 6
 · rw [numK_yes h]
   have h' : k = 1 ∨ k = 2 ∨ k = 3 ∨ k = 4 ∨ k = 5 ∨ k = 6 := by omega
   clear h
   rcases h' with rfl | rfl | rfl | rfl | rfl | rfl
   all_goals
     go_enter Tryz.func114, Tryz.ntmps114
     go_wp2
     go_ret
     exact ⟨rfl, rfl⟩
 · rw [numK_no h]
   have h1 : (k == 1) = false := by rw [beq_eq_false_iff_ne]; omega
   have h2 : (k == 2) = false := by rw [beq_eq_false_iff_ne]; omega
   have h3 : (k == 3) = false := by rw [beq_eq_false_iff_ne]; omega
   have h4 : (k == 4) = false := by rw [beq_eq_false_iff_ne]; omega
   have h5 : (k == 5) = false := by rw [beq_eq_false_iff_ne]; omega
   have h6 : (k == 6) = false := by rw [beq_eq_false_iff_ne]; omega
   clear h
   go_enter Tryz.func114, Tryz.ntmps114
   go_wp2
   go_ret
   exact ⟨rfl, rfl⟩
theorem isKind_any (k : Int) (w : World) :
   Calls Tryz.prog 112 #[.int .i64 k] w fun e w' => e = .returned (.bool (kindK k)) ∧ w = w' := by
 by_cases h : 1 ≤ k ∧ k ≤ 6
 · rw [kindK_yes (by omega)]
   have Hn := Lib.hid (numK_yes h)
   clear h
   go_enter Tryz.func112, Tryz.ntmps112
   go_wp2_with fail
   refine (number_any _ _).mono ?_
   rintro e w1 ⟨rfl, rfl⟩
   rw [Hn.out]
   go_wp2
   go_ret
   exact ⟨rfl, rfl⟩
 · have Hn := Lib.hid (numK_no h)
   by_cases h7 : k = 7
   · subst h7
     rw [kindK_yes (by omega)]
     clear h
     go_enter Tryz.func112, Tryz.ntmps112
     go_wp2_with fail
     refine (number_any _ _).mono ?_
     rintro e w1 ⟨rfl, rfl⟩
     rw [Hn.out]
     go_wp2
     go_ret
     exact ⟨rfl, rfl⟩
   · by_cases h8 : k = 8
     · subst h8
       rw [kindK_yes (by omega)]
       clear h
       go_enter Tryz.func112, Tryz.ntmps112
       go_wp2_with fail
       refine (number_any _ _).mono ?_
       rintro e w1 ⟨rfl, rfl⟩
       rw [Hn.out]
       go_wp2
       go_ret
       exact ⟨rfl, rfl⟩
     · rw [kindK_no (by omega)]
       have e7 : (k == 7) = false := by rw [beq_eq_false_iff_ne]; omega
       have e8 : (k == 8) = false := by rw [beq_eq_false_iff_ne]; omega
       clear h h7 h8
       go_enter Tryz.func112, Tryz.ntmps112
       go_wp2_with fail
       refine (number_any _ _).mono ?_
       rintro e w1 ⟨rfl, rfl⟩
       rw [Hn.out]
       go_wp2
       go_ret
       exact ⟨rfl, rfl⟩
set_option maxRecDepth 100000 in
theorem index_any (A : Option Addr) (n c : Nat) (xs : List Nat) (w : World) (hx : Rd .u8 w A n xs) :
   Calls Tryz.prog 152 #[.slice A n c, .int .u8 0] w fun e w' => e = .returned (.int .i64 (Lib.indexByte (u8s xs) 0)) ∧ w = w' := by
 have Hx := Lib.hid hx
 go_enter Tryz.func152, Tryz.ntmps152
 go_wp2
 rw [run_callFunc_extern Tryz.func187 (by kernel_rfl) (by kernel_rfl) (by kernel_rfl) (e := Extern.BytealgIndexByte.indexByte) (by kernel_rfl), run_index Hx.out]
 simp only [Result.andThen]
 rw [Oper.upon_value]
 go_wp2
 go_ret
 exact ⟨rfl, rfl⟩
theorem holds_any (k v : Int) (w : World) (hk : 1 ≤ k ∧ k ≤ 6) (h0 : -9223372036854775808 ≤ v) (h1 : v ≤ 9223372036854775807) :
   Calls Tryz.prog 151 #[.int .i64 k, .int .i64 v] w fun e w' => e = .returned (.bool (fitsK k v)) ∧ w = w' := by
 have h' : k = 1 ∨ k = 2 ∨ k = 3 ∨ k = 4 ∨ k = 5 ∨ k = 6 := by omega
 clear hk
 rcases h' with rfl | rfl | rfl | rfl | rfl | rfl
 · rw [← narB_1]
   go_enter Tryz.func151, Tryz.ntmps151
   go_wp2_with fail
   refine (narrow_any v 1 _ h0 h1).mono ?_
   rintro e w1 ⟨rfl, rfl⟩
   go_wp2
   go_ret
   exact ⟨rfl, rfl⟩
 · rw [← narB_2]
   go_enter Tryz.func151, Tryz.ntmps151
   go_wp2_with fail
   refine (narrow_any v 2 _ h0 h1).mono ?_
   rintro e w1 ⟨rfl, rfl⟩
   go_wp2
   go_ret
   exact ⟨rfl, rfl⟩
 · rw [← narB_4]
   go_enter Tryz.func151, Tryz.ntmps151
   go_wp2_with fail
   refine (narrow_any v 4 _ h0 h1).mono ?_
   rintro e w1 ⟨rfl, rfl⟩
   go_wp2
   go_ret
   exact ⟨rfl, rfl⟩
 · rw [show fitsK 4 v = true from fitsK_iff.2 ⟨h0, h1⟩]
   go_enter Tryz.func151, Tryz.ntmps151
   go_wp2
   go_ret
   exact ⟨rfl, rfl⟩
 · have hf : fitsK 5 v = decide (0 ≤ v ∧ v ≤ 65535) := rfl
   rw [hf]
   by_cases c1 : 0 ≤ v
   · by_cases c2 : v ≤ 65535
     · rw [decide_eq_true (⟨c1, c2⟩ : 0 ≤ v ∧ v ≤ 65535)]
       go_enter Tryz.func151, Tryz.ntmps151
       go_wp2
       go_ret
       exact ⟨rfl, rfl⟩
     · rw [decide_eq_false (fun q : 0 ≤ v ∧ v ≤ 65535 => c2 q.2)]
       have b2 : decide (v ≤ 65535) = false := decide_eq_false c2
       clear c2
       go_enter Tryz.func151, Tryz.ntmps151
       go_wp2
       go_ret
       exact ⟨rfl, rfl⟩
   · rw [decide_eq_false (fun q : 0 ≤ v ∧ v ≤ 65535 => c1 q.1)]
     have b2 : decide (0 ≤ v) = false := decide_eq_false c1
     clear c1
     go_enter Tryz.func151, Tryz.ntmps151
     go_wp2
     go_ret
     exact ⟨rfl, rfl⟩
 · have hf : fitsK 6 v = decide (0 ≤ v ∧ v ≤ 1) := rfl
   rw [hf]
   by_cases c1 : v = 0
   · subst c1
     go_enter Tryz.func151, Tryz.ntmps151
     go_wp2
     go_ret
     exact ⟨rfl, rfl⟩
   · by_cases c2 : v = 1
     · subst c2
       go_enter Tryz.func151, Tryz.ntmps151
       go_wp2
       go_ret
       exact ⟨rfl, rfl⟩
     · rw [decide_eq_false (fun q : 0 ≤ v ∧ v ≤ 1 => by omega)]
       have b1 : (v == 0) = false := by rw [beq_eq_false_iff_ne]; exact c1
       have b2 : (v == 1) = false := by rw [beq_eq_false_iff_ne]; exact c2
       clear c1 c2
       go_enter Tryz.func151, Tryz.ntmps151
       go_wp2
       go_ret
       exact ⟨rfl, rfl⟩
theorem checkNull_any (ok nul : Bool) (num : Int) (A : Option Addr) (n c : Nat) (w : World) (hn : n ≤ 140737488355328) :
   Calls Tryz.prog 113 #[.bool ok, .agg #[.bool nul, .int .i64 num, .slice A n c]] w fun e w' => e = .returned (.int .i64 (if ok = true then (if num ≠ 0 ∨ 0 < n then 50 else 0) else 51)) ∧ Ext w w' := by
 cases ok with
 | false =>
   go_enter Tryz.func113, Tryz.ntmps113
   go_wp2
   go_ret
   exact ⟨rfl, (Ext.refl w).alloc _⟩
 | true =>
   rw [if_pos rfl]
   by_cases h0 : num = 0
   · subst h0
     by_cases h1 : 0 < n
     · rw [if_pos (.inr h1)]
       go_enter Tryz.func113, Tryz.ntmps113
       go_wp2
       go_ret
       exact ⟨rfl, (Ext.refl w).alloc _⟩
     · obtain rfl : n = 0 := by omega
       go_enter Tryz.func113, Tryz.ntmps113
       go_wp2
       go_ret
       exact ⟨rfl, (Ext.refl w).alloc _⟩
   · rw [if_pos (.inl h0)]
     have b0 : (num != 0) = true := by rw [bne_iff_ne]; exact h0
     clear h0
     go_enter Tryz.func113, Tryz.ntmps113
     go_wp2
     go_ret
     exact ⟨rfl, (Ext.refl w).alloc _⟩
theorem checkNumber_any (k : Int) (nul : Bool) (num : Int) (A : Option Addr) (n c : Nat) (w : World) (hk : 1 ≤ k ∧ k ≤ 6) (h0 : -9223372036854775808 ≤ num) (h1 : num ≤ 9223372036854775807) (hn : n ≤ 140737488355328) :
   Calls Tryz.prog 115 #[.int .i64 k, .agg #[.bool nul, .int .i64 num, .slice A n c]] w fun e w' => e = .returned (.int .i64 (if 0 < n then 50 else if least k ≤ num ∧ num ≤ great k then 0 else 52)) ∧ Ext w w' := by
 by_cases h2 : 0 < n
 · rw [if_pos h2]
   go_enter Tryz.func115, Tryz.ntmps115
   go_wp2
   go_ret
   exact ⟨rfl, (Ext.refl w).alloc _⟩
 · obtain rfl : n = 0 := by omega
   rw [if_neg (by omega)]
   by_cases hf : least k ≤ num ∧ num ≤ great k
   · rw [if_pos hf]
     have Hf := Lib.hid (fitsK_iff.2 hf)
     clear hf
     go_enter Tryz.func115, Tryz.ntmps115
     go_wp2_with fail
     refine (holds_any k num _ hk h0 h1).mono ?_
     rintro e w1 ⟨rfl, rfl⟩
     rw [Hf.out]
     go_wp2
     go_ret
     exact ⟨rfl, (Ext.refl w).alloc _⟩
   · rw [if_neg hf]
     have Hf := Lib.hid (show fitsK k num = false by rw [Bool.eq_false_iff]; exact fun q => hf (fitsK_iff.1 q))
     clear hf
     go_enter Tryz.func115, Tryz.ntmps115
     go_wp2_with fail
     refine (holds_any k num _ hk h0 h1).mono ?_
     rintro e w1 ⟨rfl, rfl⟩
     rw [Hf.out]
     go_wp2
     go_ret
     exact ⟨rfl, (Ext.refl w).alloc _⟩
theorem checkText_any (k : Int) (nul : Bool) (num : Int) (A : Option Addr) (n c : Nat) (txt : List Nat) (w : World) (hx : Rd .u8 w A n txt) (hu : U8 txt) (hk : k = 7 ∨ k = 8) (hn : n ≤ 140737488355328) :
   Calls Tryz.prog 116 #[.int .i64 k, .agg #[.bool nul, .int .i64 num, .slice A n c]] w fun e w' => e = .returned (.int .i64 (if num ≠ 0 then 50 else if 200 < n then 4 else if k = 7 ∧ 0 ∈ txt then 5 else 0)) ∧ Ext w w' := by
 by_cases h0 : num = 0
 · subst h0
   rw [if_neg (fun q => q rfl)]
   by_cases h2 : 200 < n
   · rw [if_pos h2]
     clear hk
     go_enter Tryz.func116, Tryz.ntmps116
     go_wp2
     go_ret
     exact ⟨rfl, (Ext.refl w).alloc _⟩
   · rw [if_neg h2]
     rcases hk with rfl | rfl
     · have hi := idx_zero hu
       obtain ⟨r, hr⟩ : ∃ r, r = Lib.indexByte (u8s txt) 0 := ⟨_, rfl⟩
       rw [← hr] at hi
       have Hr := Lib.hid hr
       clear hr
       by_cases hz : 0 ∈ txt
       · rw [if_pos ⟨rfl, hz⟩]
         have hr0 : 0 ≤ r := hi.2 hz
         clear hi
         go_enter Tryz.func116, Tryz.ntmps116
         go_wp2_with fail
         refine (index_any _ _ _ txt _ (hx.ext ((Ext.refl w).alloc _))).mono ?_
         rintro e w1 ⟨rfl, rfl⟩
         rw [← Hr.out]
         go_wp2
         go_ret
         exact ⟨rfl, (Ext.refl w).alloc _⟩
       · rw [if_neg (fun q => hz q.2)]
         have hr0 : ¬ 0 ≤ r := fun q => hz (hi.1 q)
         have b0 : decide (0 ≤ r) = false := decide_eq_false hr0
         clear hi hr0
         go_enter Tryz.func116, Tryz.ntmps116
         go_wp2_with fail
         refine (index_any _ _ _ txt _ (hx.ext ((Ext.refl w).alloc _))).mono ?_
         rintro e w1 ⟨rfl, rfl⟩
         rw [← Hr.out]
         go_wp2
         go_ret
         exact ⟨rfl, (Ext.refl w).alloc _⟩
     · rw [if_neg (fun q => absurd q.1 (by decide))]
       go_enter Tryz.func116, Tryz.ntmps116
       go_wp2
       go_ret
       exact ⟨rfl, (Ext.refl w).alloc _⟩
 · rw [if_pos h0]
   have b0 : (num != 0) = true := by rw [bne_iff_ne]; exact h0
   clear h0 hk
   go_enter Tryz.func116, Tryz.ntmps116
   go_wp2
   go_ret
   exact ⟨rfl, (Ext.refl w).alloc _⟩
theorem check_any (k : Int) (ok nul : Bool) (num : Int) (A : Option Addr) (n c : Nat) (txt : List Nat) (w : World) (hx : Rd .u8 w A n txt) (hu : U8 txt) (h0 : -9223372036854775808 ≤ num) (h1 : num ≤ 9223372036854775807) (hn : n ≤ 140737488355328) :
   Calls Tryz.prog 74 #[.int .i64 k, .bool ok, .agg #[.bool nul, .int .i64 num, .slice A n c]] w fun e w' => e = .returned (.int .i64 (chk k ok nul num txt)) ∧ Ext w w' := by
 have hl := hx.len
 by_cases hk : 1 ≤ k ∧ k ≤ 8
 · have Hk := Lib.hid (kindK_yes hk)
   cases nul with
   | true =>
     obtain ⟨R, hR⟩ : ∃ R, R = chk k ok true num txt := ⟨_, rfl⟩
     rw [← hR]
     rw [chk_null hk, hl] at hR
     have HR := Lib.hid hR
     clear hR
     clear hl hk
     go_enter Tryz.func74, Tryz.ntmps74
     go_wp2_with fail
     refine (isKind_any _ _).mono ?_
     rintro e w1 ⟨rfl, rfl⟩
     rw [Hk.out]
     go_wp2_with fail
     refine (checkNull_any _ _ _ _ _ _ _ hn).mono ?_
     rintro e w1 ⟨rfl, he1⟩
     rw [← HR.out]
     go_wp2
     go_ret
     exact ⟨rfl, ((Ext.refl w).alloc _).trans he1⟩
   | false =>
     by_cases hs : k ≤ 6
     · have hk6 : 1 ≤ k ∧ k ≤ 6 := by omega
       obtain ⟨R, hR⟩ : ∃ R, R = chk k ok false num txt := ⟨_, rfl⟩
       rw [← hR]
       rw [chk_num hk6, hl] at hR
       have HR := Lib.hid hR
       clear hR
       have Hs := Lib.hid (numK_yes hk6)
       clear hl hk hs
       go_enter Tryz.func74, Tryz.ntmps74
       go_wp2_with fail
       refine (isKind_any _ _).mono ?_
       rintro e w1 ⟨rfl, rfl⟩
       rw [Hk.out]
       go_wp2_with fail
       refine (number_any _ _).mono ?_
       rintro e w1 ⟨rfl, rfl⟩
       rw [Hs.out]
       go_wp2_with fail
       refine (checkNumber_any _ _ _ _ _ _ _ hk6 h0 h1 hn).mono ?_
       rintro e w1 ⟨rfl, he1⟩
       rw [← HR.out]
       go_wp2
       go_ret
       exact ⟨rfl, ((Ext.refl w).alloc _).trans he1⟩
     · have hk7 : k = 7 ∨ k = 8 := by omega
       obtain ⟨R, hR⟩ : ∃ R, R = chk k ok false num txt := ⟨_, rfl⟩
       rw [← hR]
       rw [chk_txt hk7, hl] at hR
       have HR := Lib.hid hR
       clear hR
       have Hs := Lib.hid (numK_no (k := k) (by omega))
       have Hk7 := Lib.hid hk7
       clear hl hk hs hk7
       go_enter Tryz.func74, Tryz.ntmps74
       go_wp2_with fail
       refine (isKind_any _ _).mono ?_
       rintro e w1 ⟨rfl, rfl⟩
       rw [Hk.out]
       go_wp2_with fail
       refine (number_any _ _).mono ?_
       rintro e w1 ⟨rfl, rfl⟩
       rw [Hs.out]
       go_wp2_with fail
       refine (checkText_any _ _ _ _ _ _ txt _ (hx.ext ((Ext.refl w).alloc _)) hu Hk7.out hn).mono ?_
       rintro e w1 ⟨rfl, he1⟩
       rw [← HR.out]
       go_wp2
       go_ret
       exact ⟨rfl, ((Ext.refl w).alloc _).trans he1⟩
 · rw [chk_arg hk]
   have Hk := Lib.hid (kindK_no hk)
   clear hl hk
   go_enter Tryz.func74, Tryz.ntmps74
   go_wp2_with fail
   refine (isKind_any _ _).mono ?_
   rintro e w1 ⟨rfl, rfl⟩
   rw [Hk.out]
   go_wp2
   go_ret
   exact ⟨rfl, (Ext.refl w).alloc _⟩
theorem quietL {P : Program} {f : FuncId} {args : Array Value} {w : World} {n : Nat} {v : Value}
   (h : ∀ W : World, Calls P f args W fun e w' => e = .returned v ∧ W = w') : Calls P f args (w.drewN n) fun e w'' => e = .returned v ∧ ∃ m, w'' = w.drewN m :=
 (h _).mono fun _ _ ⟨he, hm⟩ => ⟨he, n, hm.symm⟩
theorem least_any (k : Int) (w : World) :
   Calls Tryz.prog 129 #[.int .i64 k] w fun e w' => e = .returned (.int .i64 (least k)) ∧ w = w' := by
 by_cases h : k = 1 ∨ k = 2 ∨ k = 3 ∨ k = 4
 · rcases h with rfl | rfl | rfl | rfl
   all_goals
     go_enter Tryz.func129, Tryz.ntmps129
     go_wp2
     go_ret
     exact ⟨rfl, rfl⟩
 · rw [show least k = 0 by unfold least; rw [if_neg (by omega), if_neg (by omega), if_neg (by omega), if_neg (by omega)]]
   have h1 : (k == 1) = false := by rw [beq_eq_false_iff_ne]; omega
   have h2 : (k == 2) = false := by rw [beq_eq_false_iff_ne]; omega
   have h3 : (k == 3) = false := by rw [beq_eq_false_iff_ne]; omega
   have h4 : (k == 4) = false := by rw [beq_eq_false_iff_ne]; omega
   clear h
   go_enter Tryz.func129, Tryz.ntmps129
   go_wp2
   go_ret
   exact ⟨rfl, rfl⟩
theorem great_any (k : Int) (w : World) :
   Calls Tryz.prog 130 #[.int .i64 k] w fun e w' => e = .returned (.int .i64 (great k)) ∧ w = w' := by
 by_cases h : k = 1 ∨ k = 2 ∨ k = 3 ∨ k = 4 ∨ k = 5
 · rcases h with rfl | rfl | rfl | rfl | rfl
   all_goals
     go_enter Tryz.func130, Tryz.ntmps130
     go_wp2
     go_ret
     exact ⟨rfl, rfl⟩
 · rw [show great k = 1 by unfold great; rw [if_neg (by omega), if_neg (by omega), if_neg (by omega), if_neg (by omega), if_neg (by omega)]]
   have h1 : (k == 1) = false := by rw [beq_eq_false_iff_ne]; omega
   have h2 : (k == 2) = false := by rw [beq_eq_false_iff_ne]; omega
   have h3 : (k == 3) = false := by rw [beq_eq_false_iff_ne]; omega
   have h4 : (k == 4) = false := by rw [beq_eq_false_iff_ne]; omega
   have h5 : (k == 5) = false := by rw [beq_eq_false_iff_ne]; omega
   clear h
   go_enter Tryz.func130, Tryz.ntmps130
   go_wp2
   go_ret
   exact ⟨rfl, rfl⟩
theorem zero_any (A : Option Addr) (n c : Nat) (xs : List Nat) (w : World) (hx : Rd .u8 w A n xs) (hn : n ≤ 140737488355328) :
   Calls Tryz.prog 131 #[.slice A n c] w fun e w' => e = .returned (.bool (decide (0 ∈ xs))) ∧ w = w' := by
 have hl := hx.len
 have Hl := Lib.hid hl
 clear hl
 go_enter Tryz.func131, Tryz.ntmps131
 go_wp2
 go_loop [3] (fun i => ∃ j : Nat, j ≤ n ∧ i = .int .i64 j ∧ Hid (∀ t, t < j → xs.getD t 0 ≠ 0)) (fun i => n - (intOf i).toNat)
 case atStart => exact ⟨0, Nat.zero_le _, rfl, fun t ht => absurd ht (by omega)⟩
 case round =>
   obtain ⟨j, hj, rfl, Hs⟩ := hrel
   by_cases hlt : j < n
   · obtain ⟨b, o, rfl, hbl, hc⟩ := hx.at_ hlt
     obtain ⟨u, hu⟩ : ∃ u, u = xs.getD j 0 := ⟨_, rfl⟩
     rw [← hu] at hc
     have Hu := Lib.hid hu
     clear hu
     by_cases h0 : u = 0
     · subst h0
       go_wp2
       go_ret
       have hm : 0 ∈ xs := by
         have h1 : j < xs.length := by have := Hl.out; omega
         have h2 : xs.getD j 0 = xs[j] := by simp [List.getD, h1]
         have h3 := Hu.out
         rw [h2] at h3
         rw [h3]
         exact List.getElem_mem h1
       exact ⟨by rw [decide_eq_true hm]; rfl, rfl⟩
     · have hne : ((u : Int) == 0) = false := by rw [beq_eq_false_iff_ne]; omega
       have H0 := Lib.hid h0
       clear h0
       go_wp2
       go_round
       case rel => exact ⟨j + 1, by omega, by go_num, fun t ht => by
         by_cases h : t < j
         · exact Hs.out t h
         · obtain rfl : t = j := by omega
           rw [← Hu.out]; exact H0.out⟩
       case measure => simp [intOf]; omega
   · obtain rfl : j = n := by omega
     go_wp2
     go_ret
     have hm : ¬ 0 ∈ xs := by
       intro hm
       obtain ⟨i, hi, he⟩ := List.getElem_of_mem hm
       have h1 := Hs.out i (by have := Hl.out; omega)
       apply h1
       simp [List.getD, hi, he]
     exact ⟨by rw [decide_eq_false hm]; rfl, rfl⟩
set_option maxHeartbeats 1600000 in
theorem refCheck_any (k : Int) (ok nul : Bool) (num : Int) (A : Option Addr) (n c : Nat) (txt : List Nat) (w : World) (hx : Rd .u8 w A n txt) (h0 : -9223372036854775808 ≤ num) (h1 : num ≤ 9223372036854775807) (hn : n ≤ 140737488355328) :
   Calls Tryz.prog 90 #[.int .i64 k, .bool ok, .agg #[.bool nul, .int .i64 num, .slice A n c]] w fun e w' => e = .returned (.int .i64 (chk k ok nul num txt)) ∧ Ext w w' := by
 have hl := hx.len
 by_cases hk : 1 ≤ k ∧ k ≤ 8
 · have hk1 : 1 ≤ k := hk.1
   have hk8 : k ≤ 8 := hk.2
   have b1 : decide (k < 1) = false := decide_eq_false (by omega)
   have b2 : decide (8 < k) = false := decide_eq_false (by omega)
   cases nul with
   | true =>
     rw [chk_null hk, hl]
     clear hl hk
     cases ok with
     | false =>
       go_enter Tryz.func90, Tryz.ntmps90
       go_wp2
       go_ret
       exact ⟨rfl, (Ext.refl w).alloc _⟩
     | true =>
       rw [if_pos rfl]
       by_cases h2 : num = 0
       · subst h2
         by_cases h3 : 0 < n
         · rw [if_pos (.inr h3)]
           go_enter Tryz.func90, Tryz.ntmps90
           go_wp2
           go_ret
           exact ⟨rfl, (Ext.refl w).alloc _⟩
         · obtain rfl : n = 0 := by omega
           go_enter Tryz.func90, Tryz.ntmps90
           go_wp2
           go_ret
           exact ⟨rfl, (Ext.refl w).alloc _⟩
       · rw [if_pos (.inl h2)]
         have b0 : (num != 0) = true := by rw [bne_iff_ne]; exact h2
         clear h2
         go_enter Tryz.func90, Tryz.ntmps90
         go_wp2
         go_ret
         exact ⟨rfl, (Ext.refl w).alloc _⟩
   | false =>
     by_cases hs : k ≤ 6
     · have hk6 : 1 ≤ k ∧ k ≤ 6 := by omega
       rw [chk_num hk6, hl]
       clear hl hk
       by_cases h3 : 0 < n
       · rw [if_pos h3]
         go_enter Tryz.func90, Tryz.ntmps90
         go_wp2
         go_ret
         exact ⟨rfl, (Ext.refl w).alloc _⟩
       · obtain rfl : n = 0 := by omega
         rw [if_neg (by omega)]
         clear h3
         by_cases hc1 : num < least k
         · rw [if_neg (by omega)]
           have d1 : decide (num < least k) = true := decide_eq_true hc1
           clear hc1
           go_enter Tryz.func90, Tryz.ntmps90
           go_wp2_with fail
           go_quiet ((first | (go_at_call 129; exact quietL (least_any _)) | (go_at_call 130; exact quietL (great_any _)) | fail))
           go_wp2
           go_ret
           exact ⟨rfl, ((Ext.refl w).alloc _).drewN _⟩
         · have d1 : decide (num < least k) = false := decide_eq_false hc1
           by_cases hc2 : great k < num
           · rw [if_neg (by omega)]
             have d2 : decide (great k < num) = true := decide_eq_true hc2
             clear hc1 hc2
             go_enter Tryz.func90, Tryz.ntmps90
             go_wp2
             go_quiet ((first | (go_at_call 129; exact quietL (least_any _)) | (go_at_call 130; exact quietL (great_any _)) | fail))
             go_wp2
             go_ret
             exact ⟨rfl, ((Ext.refl w).alloc _).drewN _⟩
           · rw [if_pos (by omega)]
             have d2 : decide (great k < num) = false := decide_eq_false hc2
             clear hc1 hc2
             go_enter Tryz.func90, Tryz.ntmps90
             go_wp2
             go_quiet ((first | (go_at_call 129; exact quietL (least_any _)) | (go_at_call 130; exact quietL (great_any _)) | fail))
             go_wp2
             go_ret
             exact ⟨rfl, ((Ext.refl w).alloc _).drewN _⟩
     · have hk7 : k = 7 ∨ k = 8 := by omega
       rw [chk_txt hk7, hl]
       have b3 : decide (k ≤ 6) = false := decide_eq_false hs
       clear hl hk hs
       by_cases h2 : num = 0
       · subst h2
         rw [if_neg (fun q => q rfl)]
         by_cases h3 : 200 < n
         · rw [if_pos h3]
           clear hk7
           go_enter Tryz.func90, Tryz.ntmps90
           go_wp2
           go_ret
           exact ⟨rfl, (Ext.refl w).alloc _⟩
         · rw [if_neg h3]
           rcases hk7 with rfl | rfl
           · by_cases hz : 0 ∈ txt
             · rw [if_pos ⟨rfl, hz⟩]
               have Hz := Lib.hid (decide_eq_true hz)
               clear hz
               go_enter Tryz.func90, Tryz.ntmps90
               go_wp2_with fail
               refine (zero_any _ _ _ txt _ (hx.ext ((Ext.refl w).alloc _)) hn).mono ?_
               rintro e w1 ⟨rfl, rfl⟩
               rw [Hz.out]
               go_wp2
               go_ret
               exact ⟨rfl, (Ext.refl w).alloc _⟩
             · rw [if_neg (fun q => hz q.2)]
               have Hz := Lib.hid (decide_eq_false hz)
               clear hz
               go_enter Tryz.func90, Tryz.ntmps90
               go_wp2_with fail
               refine (zero_any _ _ _ txt _ (hx.ext ((Ext.refl w).alloc _)) hn).mono ?_
               rintro e w1 ⟨rfl, rfl⟩
               rw [Hz.out]
               go_wp2
               go_ret
               exact ⟨rfl, (Ext.refl w).alloc _⟩
           · rw [if_neg (fun q => absurd q.1 (by decide))]
             go_enter Tryz.func90, Tryz.ntmps90
             go_wp2
             go_ret
             exact ⟨rfl, (Ext.refl w).alloc _⟩
       · rw [if_pos h2]
         have b0 : (num != 0) = true := by rw [bne_iff_ne]; exact h2
         clear h2 hk7
         go_enter Tryz.func90, Tryz.ntmps90
         go_wp2
         go_ret
         exact ⟨rfl, (Ext.refl w).alloc _⟩
 · rw [chk_arg hk]
   clear hl
   by_cases hk1 : k < 1
   · clear hk
     go_enter Tryz.func90, Tryz.ntmps90
     go_wp2
     go_ret
     exact ⟨rfl, (Ext.refl w).alloc _⟩
   · have b1 : decide (k < 1) = false := decide_eq_false (by omega)
     have b2 : 8 < k := by omega
     clear hk
     go_enter Tryz.func90, Tryz.ntmps90
     go_wp2
     go_ret
     exact ⟨rfl, (Ext.refl w).alloc _⟩
theorem grown_setCell (w : World) (g i : Nat) (v : Value) : w.grownBy (w.setCell ⟨g, i, none⟩ v) (some g) :=
 ⟨rfl, rfl, rfl, by simp [World.setCell], fun k _ hne => heap_setCell_other w ⟨g, i, none⟩ k v (fun e => hne (by rw [e]))⟩
theorem results_cell3 {P : Program} {fn : Func} {p t u : Tmp} {ty : TypeId} (h : fn.results = #[.cell p ty, .tmp t, .tmp u]) (tmps : Array Value) (w : World) (g : Nat) (T : TypeId) (cs : Array Value) (fr : Nat × Nat) (d : TypeDesc)
   (hp : tmps.getD p undef = .pointer (some ⟨g, 0, none⟩)) (hg : w.heap[g]? = some (.cells cs T fr))
   (hu : P.underlying ty = some d) (hd : (match d with | .struct _ | .array _ _ => true | _ => false) = true) (hi : (P.info? ty).map (·.size) = some cs.size) :
   (results fn tmps).run P w = .ok (.tuple #[.agg cs, tmps.getD t undef, tmps.getD u undef]) w := by
 have hp' : tmps[p]?.getD undef = .pointer (some ⟨g, 0, none⟩) := by simpa using hp
 simp [results, h, hp', asAddr, run_loadVar_row w g T ty cs fr d hg hu hd hi]
theorem wpList_store_cell {ops : Array Oper} {rest : List Oper} {o : Oper} {a : Act} {w : World} {Q : Exit → Act → World → Prop} (hgd : o.guard = none) (x y : Operand) (ho : o.op = .store 61 x y)
   (g : Nat) (u v s : Value) (hx : a.eval x = .pointer (some ⟨g, 0, none⟩)) (hy : a.eval y = .agg #[u, v, s]) {u0 v0 s0 : Value} (hg : w.heap[g]? = some (.cells #[u0, v0, s0] 61)) (h1 : u.oneCell' = true) (h2 : v.oneCell' = true) (h3 : s.oneCell' = true)
   (h : wpList Tryz.prog ops Q rest (a.put o.dst undef) (w.setRow g #[u, v, s])) : wpList Tryz.prog ops Q (o :: rest) a w :=
 wpList_store_row hgd 61 x y ho g #[u, v, s] hx hy 61 #[u0, v0, s0] hg (by kernel_rfl) rfl (by simp [h1, h2, h3]) h
theorem Own.far {k : IntKind} {e : TypeId} {w w' : World} {base c b : Nat} {A : Option Addr} {xs : List Nat} (h : Own k e w base A c xs) (hg : w.grownBy w' (some b)) (hb : b < base) : Own k e w' base A c xs :=
 h.grown hg fun a ha e => by
   injection e with e
   have := (h.block a ha).1
   omega
def alk (nul : Bool) (num : Int) (txt : List Nat) (nul2 : Bool) (num2 : Int) (txt2 : List Nat) : Bool := decide (nul = nul2 ∧ num = num2 ∧ txt = txt2)
theorem alk_iff {nul : Bool} {num : Int} {txt : List Nat} {nul2 : Bool} {num2 : Int} {txt2 : List Nat} : alk nul num txt nul2 num2 txt2 = true ↔ nul = nul2 ∧ num = num2 ∧ txt = txt2 := decide_eq_true_iff
set_option maxHeartbeats 800000 in
theorem alike_any (nul : Bool) (num : Int) (A : Option Addr) (n c : Nat) (txt : List Nat) (nul2 : Bool) (num2 : Int) (A2 : Option Addr) (n2 c2 : Nat) (txt2 : List Nat) (w : World)
   (hx : Rd .u8 w A n txt) (hy : Rd .u8 w A2 n2 txt2) (hn : n ≤ 281474976710656) (hn2 : n2 ≤ 281474976710656) :
   Calls Tryz.prog 50 #[.agg #[.bool nul, .int .i64 num, .slice A n c], .agg #[.bool nul2, .int .i64 num2, .slice A2 n2 c2]] w fun e w' => e = .returned (.bool (alk nul num txt nul2 num2 txt2)) ∧ Ext w w' := by
 have hE : Ext w ((w.alloc (.cells #[.bool nul, .int .i64 num, .slice A n c] 61)).alloc (.cells #[.bool nul2, .int .i64 num2, .slice A2 n2 c2] 61)) := ((Ext.refl w).alloc _).alloc _
 have hx2 := hx.ext hE
 have hy2 := hy.ext hE
 by_cases hb : nul = nul2
 · subst hb
   by_cases hi : num = num2
   · subst hi
     rw [show alk nul num txt nul num txt2 = decide (txt = txt2) from by unfold alk; simp]
     obtain ⟨D, hD⟩ : ∃ D, D = decide (txt = txt2) := ⟨_, rfl⟩
     rw [← hD]
     have HD := Lib.hid hD
     clear hD
     have b1 : (nul == nul) = true := by simp
     have b2 : (num == num) = true := by simp
     go_enter Tryz.func50, Tryz.ntmps50
     go_wp2_with fail
     refine (same_any A A2 n c n2 c2 txt txt2 _ hx2 hy2 hn hn2).mono ?_
     rintro e w1 ⟨rfl, q, rfl⟩
     rw [← HD.out]
     go_wp2
     go_ret
     exact ⟨rfl, hE.drewN q⟩
   · rw [show alk nul num txt nul num2 txt2 = false from decide_eq_false (fun q => hi q.2.1)]
     have b1 : (nul == nul) = true := by simp
     have b2 : (num == num2) = false := by rw [beq_eq_false_iff_ne]; exact hi
     clear hi
     go_enter Tryz.func50, Tryz.ntmps50
     go_wp2
     go_ret
     exact ⟨rfl, hE⟩
 · rw [show alk nul num txt nul2 num2 txt2 = false from decide_eq_false (fun q => hb q.1)]
   have b1 : (nul == nul2) = false := by rw [beq_eq_false_iff_ne]; exact hb
   clear hb
   go_enter Tryz.func50, Tryz.ntmps50
   go_wp2
   go_ret
   exact ⟨rfl, hE⟩
theorem ordT_lt {x y : Nat} {r s : List Nat} (h : x < y) : ordT (x :: r) (y :: s) = -1 := by rw [ordT, if_pos h]
theorem ordT_gt {x y : Nat} {r s : List Nat} (h : y < x) : ordT (x :: r) (y :: s) = 1 := by rw [ordT, if_neg (by omega), if_pos h]
theorem ordT_eq {x y : Nat} {r s : List Nat} (h : x = y) : ordT (x :: r) (y :: s) = ordT r s := by rw [ordT, if_neg (by omega), if_neg (by omega)]
theorem ordT_end {xs ys : List Nat} {j : Nat} (h : xs.length ≤ j ∨ ys.length ≤ j) (h2 : j ≤ xs.length) (h3 : j ≤ ys.length) :
   ordT (xs.drop j) (ys.drop j) = if xs.length < ys.length then -1 else if ys.length < xs.length then 1 else 0 := by
 by_cases hx : xs.length ≤ j
 · rw [List.drop_of_length_le hx]
   by_cases hy : ys.length ≤ j
   · rw [List.drop_of_length_le hy, if_neg (by omega), if_neg (by omega)]; rfl
   · rw [drop_cons (by omega), if_pos (by omega)]; rfl
 · have hy : ys.length ≤ j := by omega
   rw [List.drop_of_length_le hy, drop_cons (by omega), if_neg (by omega), if_pos (by omega)]; rfl
theorem Ext.cells {a b : World} (h : Ext a b) : ∀ g o, g < a.heap.size → b.cell? ⟨g, o, none⟩ = a.cell? ⟨g, o, none⟩ := fun g o hg => Below.cell h (p := ⟨g, o, none⟩) hg
theorem drew3 (w : World) (a b c : Nat) : ((w.drewN a).drewN b).drewN c = w.drewN (a + b + c) := by rw [World.drewN_drewN, World.drewN_drewN, Nat.add_assoc]
end Go.Proofs.YthibbgmicmfkfaaGreat
