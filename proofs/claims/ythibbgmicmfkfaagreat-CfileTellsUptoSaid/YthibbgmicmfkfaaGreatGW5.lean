import Derived.Test.YthibbgmicmfkfaaGreatGW4
namespace Go.Proofs.YthibbgmicmfkfaaGreat
open Go.RowKit
set_option maxRecDepth 100000
def lo : List Int → Int
 | [] => 0
 | x :: r => r.foldl min x
def hi : List Int → Int
 | [] => 0
 | x :: r => r.foldl max x
theorem lo_snoc {xs : List Int} (h : xs ≠ []) (v : Int) : lo (xs ++ [v]) = min (lo xs) v := by
 cases xs with
 | nil => exact absurd rfl h
 | cons x r => simp [lo, List.foldl_append]
theorem take_ne {T : Type} {xs : List T} {j : Nat} (h : 1 ≤ j) (hj : j ≤ xs.length) : xs.take j ≠ [] := by
 intro e
 have := congrArg List.length e
 rw [List.length_take, List.length_nil] at this
 omega
theorem lo_take {xs : List Int} {j : Nat} (h : 1 ≤ j) (hj : j < xs.length) : lo (xs.take (j + 1)) = min (lo (xs.take j)) (xs.getD j 0) := by
 rw [take_nextG xs j (x := xs.getD j 0) (by rw [List.getD, List.getElem?_eq_getElem hj]; rfl), lo_snoc (take_ne h (by omega))]
theorem lo_one {xs : List Int} (h : 0 < xs.length) : lo (xs.take 1) = xs.getD 0 0 := by
 cases xs with
 | nil => simp at h
 | cons x r => rfl
set_option maxHeartbeats 800000 in
theorem minZ_any (A : Option Addr) (n c : Nat) (xs : List Int) (w : World) (hx : RdG shZ w A n xs) (hp : 0 < n) (hn : n ≤ 281474976710656) :
   Calls Tryz.prog 175 #[.slice A n c] w fun e w' => e = .returned (.int .i64 (lo xs)) ∧ w = w' := by
 have Hl := Lib.hid hx.len
 obtain ⟨b, o, rfl, hbl, hc⟩ := hx.atZ hp
 obtain ⟨x, hxe⟩ : ∃ x, x = xs.getD 0 0 := ⟨_, rfl⟩
 have H0 := Lib.hid (show x = lo (xs.take 1) by rw [lo_one (by have := Hl.out; omega)]; exact hxe)
 rw [← hxe, Nat.add_zero] at hc
 clear hxe
 go_enter Tryz.func175, Tryz.ntmps175
 go_wp2_with fail
 go_loop [3, 4] (fun y i => ∃ (j : Nat) (v : Int), 1 ≤ j ∧ j ≤ n ∧ i = .int .i64 j ∧ y = .int .i64 v ∧ Hid (v = lo (xs.take j))) (fun _ i => n - (intOf i).toNat)
 case atStart => exact ⟨1, x, Nat.le_refl _, by omega, rfl, rfl, H0⟩
 case round =>
   obtain ⟨j, v, hj1, hj, rfl, rfl, HV⟩ := hrel
   by_cases hlt : j < n
   · obtain ⟨b', o', hA, _, hc2⟩ := hx.atZ hlt
     injection hA with hA
     injection hA with hb' ho'
     subst hb' ho'
     have HN := Lib.hid (lo_take hj1 (show j < xs.length by have := Hl.out; omega))
     obtain ⟨u, hu⟩ : ∃ u, u = xs.getD j 0 := ⟨_, rfl⟩
     rw [← hu] at hc2 HN
     clear hu
     go_wp2_with fail
     go_round
     case rel => exact ⟨j + 1, min v u, by omega, by omega, by go_num, by first | rfl | (congr 1; omega), Lib.hid (by rw [HN.out, ← HV.out])⟩
     case measure => simp [intOf]; omega
   · obtain rfl : j = n := by omega
     go_wp2_with fail
     go_ret
     exact ⟨by rw [HV.out, List.take_of_length_le (by have := Hl.out; omega)]; rfl, rfl⟩
set_option maxHeartbeats 800000 in
theorem pleast_any (A : Option Addr) (n c : Nat) (xs : List Int) (w : World) (hx : RdG shZ w A n xs) (hp : 0 < n) (hn : n ≤ 281474976710656) :
   Calls Tryz.prog 211 #[.slice A n c] w fun e w' => e = .returned (.int .i64 (lo xs)) ∧ w = w' := by
 have Hl := Lib.hid hx.len
 obtain ⟨b, o, rfl, hbl, hc⟩ := hx.atZ hp
 obtain ⟨x, hxe⟩ : ∃ x, x = xs.getD 0 0 := ⟨_, rfl⟩
 have H0 := Lib.hid (show x = lo (xs.take 1) by rw [lo_one (by have := Hl.out; omega)]; exact hxe)
 have HX := Lib.hid hxe
 rw [← hxe, Nat.add_zero] at hc
 clear hxe
 go_enter Tryz.func211, Tryz.ntmps211
 go_wp2_with fail
 go_loop [3, 4] (fun y i => ∃ (j : Nat) (v : Int), j ≤ n ∧ i = .int .i64 j ∧ y = .int .i64 v ∧ Hid (j = 0 ∧ v = x ∨ 1 ≤ j ∧ v = lo (xs.take j))) (fun _ i => n - (intOf i).toNat)
 case atStart => exact ⟨0, x, by omega, rfl, rfl, Lib.hid (.inl ⟨rfl, rfl⟩)⟩
 case round =>
   obtain ⟨j, v, hj, rfl, rfl, HV⟩ := hrel
   by_cases hlt : j < n
   · obtain ⟨b', o', hA, _, hc2⟩ := hx.atZ hlt
     injection hA with hA
     injection hA with hb' ho'
     subst hb' ho'
     obtain ⟨u, hu⟩ : ∃ u, u = xs.getD j 0 := ⟨_, rfl⟩
     have HN := Lib.hid (show lo (xs.take (j + 1)) = min v u by
       rcases HV.out with ⟨h1, h2⟩ | ⟨h1, h2⟩
       · subst h1
         rw [← HX.out] at hu
         rw [← H0.out, hu, h2]
         exact (Int.min_self x).symm
       · rw [lo_take h1 (by have := Hl.out; omega), h2, hu])
     rw [← hu] at hc2
     clear hu
     by_cases hlu : u < v
     · have HN2 := Lib.hid (show u = lo (xs.take (j + 1)) by rw [HN.out]; omega)
       go_wp2_with fail
       go_round
       case rel => exact ⟨j + 1, u, by omega, by go_num, rfl, Lib.hid (.inr ⟨by omega, HN2.out⟩)⟩
       case measure => simp [intOf]; omega
     · have HN2 := Lib.hid (show v = lo (xs.take (j + 1)) by rw [HN.out]; omega)
       have hd : decide (u < v) = false := decide_eq_false hlu
       go_wp2_with fail
       go_round
       case rel => exact ⟨j + 1, v, by omega, by go_num, rfl, Lib.hid (.inr ⟨by omega, HN2.out⟩)⟩
       case measure => simp [intOf]; omega
   · obtain rfl : j = n := by omega
     have HE := Lib.hid (show v = lo xs by
       rcases HV.out with ⟨h1, h2⟩ | ⟨h1, h2⟩
       · omega
       · rw [h2, List.take_of_length_le (by have := Hl.out; omega)])
     go_wp2_with fail
     go_ret
     exact ⟨by rw [HE.out]; rfl, rfl⟩
def loN : List Nat → Nat
 | [] => 0
 | x :: r => r.foldl min x
def hiN : List Nat → Nat
 | [] => 0
 | x :: r => r.foldl max x
theorem loN_snoc {xs : List Nat} (h : xs ≠ []) (v : Nat) : loN (xs ++ [v]) = min (loN xs) v := by
 cases xs with
 | nil => exact absurd rfl h
 | cons x r => simp [loN, List.foldl_append]
theorem hiN_snoc {xs : List Nat} (h : xs ≠ []) (v : Nat) : hiN (xs ++ [v]) = max (hiN xs) v := by
 cases xs with
 | nil => exact absurd rfl h
 | cons x r => simp [hiN, List.foldl_append]
theorem loN_take {xs : List Nat} {j : Nat} (h : 1 ≤ j) (hj : j < xs.length) : loN (xs.take (j + 1)) = min (loN (xs.take j)) (xs.getD j 0) := by
 rw [take_nextG xs j (x := xs.getD j 0) (by rw [List.getD, List.getElem?_eq_getElem hj]; rfl), loN_snoc (take_ne h (by omega))]
theorem hiN_take {xs : List Nat} {j : Nat} (h : 1 ≤ j) (hj : j < xs.length) : hiN (xs.take (j + 1)) = max (hiN (xs.take j)) (xs.getD j 0) := by
 rw [take_nextG xs j (x := xs.getD j 0) (by rw [List.getD, List.getElem?_eq_getElem hj]; rfl), hiN_snoc (take_ne h (by omega))]
theorem loN_one {xs : List Nat} (h : 0 < xs.length) : loN (xs.take 1) = xs.getD 0 0 := by
 cases xs with
 | nil => simp at h
 | cons x r => rfl
theorem hiN_one {xs : List Nat} (h : 0 < xs.length) : hiN (xs.take 1) = xs.getD 0 0 := by
 cases xs with
 | nil => simp at h
 | cons x r => rfl
set_option maxHeartbeats 800000 in
theorem minU_any (A : Option Addr) (n c : Nat) (xs : List Nat) (w : World) (hx : Rd .u64 w A n xs) (hp : 0 < n) (hn : n ≤ 281474976710656) :
   Calls Tryz.prog 217 #[.slice A n c] w fun e w' => e = .returned (.int .u64 (loN xs : Nat)) ∧ w = w' := by
 have Hl := Lib.hid hx.len
 obtain ⟨b, o, rfl, hbl, hc⟩ := hx.at_ hp
 obtain ⟨x, hxe⟩ : ∃ x, x = xs.getD 0 0 := ⟨_, rfl⟩
 have H0 := Lib.hid (show x = loN (xs.take 1) by rw [loN_one (by have := Hl.out; omega)]; exact hxe)
 rw [← hxe, Nat.add_zero] at hc
 clear hxe
 go_enter Tryz.func217, Tryz.ntmps217
 go_wp2_with fail
 go_loop [3, 4] (fun y i => ∃ (j : Nat) (v : Nat), 1 ≤ j ∧ j ≤ n ∧ i = .int .i64 j ∧ y = .int .u64 (v : Nat) ∧ Hid (v = loN (xs.take j))) (fun _ i => n - (intOf i).toNat)
 case atStart => exact ⟨1, x, Nat.le_refl _, by omega, rfl, rfl, H0⟩
 case round =>
   obtain ⟨j, v, hj1, hj, rfl, rfl, HV⟩ := hrel
   by_cases hlt : j < n
   · obtain ⟨b', o', hA, _, hc2⟩ := hx.at_ hlt
     injection hA with hA
     injection hA with hb' ho'
     subst hb' ho'
     have HN := Lib.hid (loN_take hj1 (show j < xs.length by have := Hl.out; omega))
     obtain ⟨u, hu⟩ : ∃ u, u = xs.getD j 0 := ⟨_, rfl⟩
     rw [← hu] at hc2 HN
     clear hu
     go_wp2_with fail
     go_round
     case rel => exact ⟨j + 1, min v u, by omega, by omega, by go_num, by first | rfl | (congr 1; omega), Lib.hid (by rw [HN.out, ← HV.out])⟩
     case measure => simp [intOf]; omega
   · obtain rfl : j = n := by omega
     go_wp2_with fail
     go_ret
     exact ⟨by rw [HV.out, List.take_of_length_le (by have := Hl.out; omega)]; rfl, rfl⟩
set_option maxHeartbeats 800000 in
theorem maxU_any (A : Option Addr) (n c : Nat) (xs : List Nat) (w : World) (hx : Rd .u64 w A n xs) (hp : 0 < n) (hn : n ≤ 281474976710656) :
   Calls Tryz.prog 218 #[.slice A n c] w fun e w' => e = .returned (.int .u64 (hiN xs : Nat)) ∧ w = w' := by
 have Hl := Lib.hid hx.len
 obtain ⟨b, o, rfl, hbl, hc⟩ := hx.at_ hp
 obtain ⟨x, hxe⟩ : ∃ x, x = xs.getD 0 0 := ⟨_, rfl⟩
 have H0 := Lib.hid (show x = hiN (xs.take 1) by rw [hiN_one (by have := Hl.out; omega)]; exact hxe)
 rw [← hxe, Nat.add_zero] at hc
 clear hxe
 go_enter Tryz.func218, Tryz.ntmps218
 go_wp2_with fail
 go_loop [3, 4] (fun y i => ∃ (j : Nat) (v : Nat), 1 ≤ j ∧ j ≤ n ∧ i = .int .i64 j ∧ y = .int .u64 (v : Nat) ∧ Hid (v = hiN (xs.take j))) (fun _ i => n - (intOf i).toNat)
 case atStart => exact ⟨1, x, Nat.le_refl _, by omega, rfl, rfl, H0⟩
 case round =>
   obtain ⟨j, v, hj1, hj, rfl, rfl, HV⟩ := hrel
   by_cases hlt : j < n
   · obtain ⟨b', o', hA, _, hc2⟩ := hx.at_ hlt
     injection hA with hA
     injection hA with hb' ho'
     subst hb' ho'
     have HN := Lib.hid (hiN_take hj1 (show j < xs.length by have := Hl.out; omega))
     obtain ⟨u, hu⟩ : ∃ u, u = xs.getD j 0 := ⟨_, rfl⟩
     rw [← hu] at hc2 HN
     clear hu
     go_wp2_with fail
     go_round
     case rel => exact ⟨j + 1, max v u, by omega, by omega, by go_num, by first | rfl | (congr 1; omega), Lib.hid (by rw [HN.out, ← HV.out])⟩
     case measure => simp [intOf]; omega
   · obtain rfl : j = n := by omega
     go_wp2_with fail
     go_ret
     exact ⟨by rw [HV.out, List.take_of_length_le (by have := Hl.out; omega)]; rfl, rfl⟩
def gat (rs : List (Int × Int)) (v : Int) : List (Int × Int) :=
 match rs.getLast? with
 | none => [(v, 1)]
 | some r => if r.1 = v then rs.dropLast ++ [(v, r.2 + 1)] else rs ++ [(v, 1)]
theorem gat_nil (v : Int) : gat [] v = [(v, 1)] := rfl
theorem gat_same (rs : List (Int × Int)) (v c : Int) : gat (rs ++ [(v, c)]) v = rs ++ [(v, c + 1)] := by simp [gat]
theorem gat_new {rs : List (Int × Int)} {u c v : Int} (h : u ≠ v) : gat (rs ++ [(u, c)]) v = rs ++ [(u, c)] ++ [(v, 1)] := by simp [gat, h]
def rsp (vs : List Int) : List (Int × Int) := vs.foldl gat []
theorem rsp_snoc (vs : List Int) (v : Int) : rsp (vs ++ [v]) = gat (rsp vs) v := by simp [rsp, List.foldl_append]
def flat (rs : List (Int × Int)) : List Int := (rs.map fun r => List.replicate r.2.toNat r.1).flatten
theorem flat_cons (r : Int × Int) (rs : List (Int × Int)) : flat (r :: rs) = List.replicate r.2.toNat r.1 ++ flat rs := by simp [flat]
theorem flat_append (a b : List (Int × Int)) : flat (a ++ b) = flat a ++ flat b := by simp [flat]
def lastV : Option Int → List (Int × Int) → Option Int
 | l, [] => l
 | _, r :: rs => lastV (some r.1) rs
theorem lastV_append (l : Option Int) (a b : List (Int × Int)) : lastV l (a ++ b) = lastV (lastV l a) b := by
 induction a generalizing l with
 | nil => rfl
 | cons r rs ih => exact ih _
theorem lastV_snoc (l : Option Int) (a : List (Int × Int)) (r : Int × Int) : lastV l (a ++ [r]) = some r.1 := by rw [lastV_append]; rfl
def R64 (v : Int) : Prop := -9223372036854775808 ≤ v ∧ v ≤ 9223372036854775807
def GoodR : Option Int → List (Int × Int) → Prop
 | _, [] => True
 | l, r :: rs => l ≠ some r.1 ∧ 1 ≤ r.2 ∧ R64 r.1 ∧ GoodR (some r.1) rs
theorem GoodR.append {l : Option Int} {a b : List (Int × Int)} : GoodR l (a ++ b) ↔ GoodR l a ∧ GoodR (lastV l a) b := by
 induction a generalizing l with
 | nil => simp [GoodR, lastV]
 | cons r rs ih => simp [GoodR, lastV, ih, and_assoc]
theorem GoodR.mem {l : Option Int} {rs : List (Int × Int)} (h : GoodR l rs) : ∀ r ∈ rs, 1 ≤ r.2 ∧ R64 r.1 := by
 induction rs generalizing l with
 | nil => intro r hr; cases hr
 | cons q rs ih =>
   intro r hr
   rcases List.mem_cons.1 hr with rfl | hr
   · exact ⟨h.2.1, h.2.2.1⟩
   · exact ih h.2.2.2 r hr
theorem snoc_or {T : Type} (l : List T) : l = [] ∨ ∃ a b, l = a ++ [b] := by
 rcases List.eq_nil_or_concat l with h | ⟨a, b, h⟩
 · exact .inl h
 · exact .inr ⟨a, b, by rw [h, List.concat_eq_append]⟩
theorem gat_good {rs : List (Int × Int)} {v : Int} (h : GoodR none rs) (hv : R64 v) : GoodR none (gat rs v) ∧ flat (gat rs v) = flat rs ++ [v] ∧ lastV none (gat rs v) = some v := by
 rcases snoc_or rs with rfl | ⟨a, ⟨u, c⟩, rfl⟩
 · exact ⟨⟨by simp, Int.le_refl 1, hv, trivial⟩, by simp [gat_nil, flat], rfl⟩
 · obtain ⟨h1, h2⟩ := GoodR.append.1 h
   by_cases huv : u = v
   · subst huv
     rw [gat_same, lastV_snoc]
     refine ⟨GoodR.append.2 ⟨h1, h2.1, by have := h2.2.1; show 1 ≤ c + 1; simp at this; omega, h2.2.2.1, trivial⟩, ?_, rfl⟩
     have hc := h2.2.1
     simp at hc
     rw [flat_append, flat_append, List.append_assoc]
     congr 1
     simp only [flat, List.map_cons, List.map_nil, List.flatten_cons, List.flatten_nil, List.append_nil]
     rw [show (c + 1).toNat = c.toNat + 1 from by omega, List.replicate_succ']
   · rw [gat_new huv, lastV_snoc]
     refine ⟨GoodR.append.2 ⟨h, by rw [lastV_snoc]; simpa using huv, Int.le_refl 1, hv, trivial⟩, ?_, rfl⟩
     rw [flat_append]
     rfl
def R64s (vs : List Int) : Prop := ∀ v ∈ vs, R64 v
theorem foldl_good {vs : List Int} : ∀ {rs : List (Int × Int)}, GoodR none rs → R64s vs → GoodR none (vs.foldl gat rs) ∧ flat (vs.foldl gat rs) = flat rs ++ vs := by
 induction vs with
 | nil => intro rs h _; exact ⟨h, by simp⟩
 | cons v r ih =>
   intro rs h hv
   obtain ⟨h1, h2, _⟩ := gat_good h (hv v (by simp))
   obtain ⟨h3, h4⟩ := ih h1 (fun u hu => hv u (by simp [hu]))
   exact ⟨h3, by rw [List.foldl_cons, h4, h2]; simp⟩
theorem rsp_good {vs : List Int} (h : R64s vs) : GoodR none (rsp vs) := (foldl_good (rs := []) trivial h).1
theorem rsp_flat {vs : List Int} (h : R64s vs) : flat (rsp vs) = vs := (foldl_good (rs := []) trivial h).2
theorem flat_len_le {l : Option Int} {rs : List (Int × Int)} (h : GoodR l rs) : rs.length ≤ (flat rs).length ∧ ∀ r ∈ rs, r.2 ≤ (flat rs).length := by
 induction rs generalizing l with
 | nil => exact ⟨Nat.le_refl _, fun r hr => by cases hr⟩
 | cons q rs ih =>
   obtain ⟨h1, h2⟩ := ih h.2.2.2
   have hc := h.2.1
   rw [flat_cons, List.length_append, List.length_replicate]
   refine ⟨by rw [List.length_cons]; omega, fun r hr => ?_⟩
   rcases List.mem_cons.1 hr with rfl | hr
   · omega
   · have := h2 r hr; omega
theorem foldl_rep {rs : List (Int × Int)} {v : Int} (h : lastV none rs ≠ some v) (n : Nat) : (List.replicate (n + 1) v).foldl gat rs = rs ++ [(v, ((n + 1 : Nat) : Int))] := by
 induction n with
 | zero =>
   rcases snoc_or rs with rfl | ⟨a, ⟨u, c⟩, rfl⟩
   · rfl
   · rw [lastV_snoc] at h
     rw [show List.replicate (0 + 1) v = [v] from rfl, List.foldl_cons, List.foldl_nil, gat_new (by simpa using h)]
     rfl
 | succ n ih => rw [List.replicate_succ', List.foldl_append, ih, List.foldl_cons, List.foldl_nil, gat_same]; congr 2
theorem foldl_flat {rs : List (Int × Int)} : ∀ {acc : List (Int × Int)}, GoodR (lastV none acc) rs → (flat rs).foldl gat acc = acc ++ rs := by
 induction rs with
 | nil => intro acc _; simp [flat]
 | cons q rs ih =>
   intro acc h
   obtain ⟨v, c⟩ := q
   have hc := h.2.1
   simp at hc
   obtain ⟨m, hm⟩ : ∃ m : Nat, c = ((m + 1 : Nat) : Int) := ⟨c.toNat - 1, by omega⟩
   subst hm
   rw [flat_cons, List.foldl_append]
   simp only [Int.toNat_natCast]
   rw [foldl_rep h.1 m, ih (by rw [lastV_snoc]; exact h.2.2.2)]
   simp
theorem rsp_of_flat {rs : List (Int × Int)} (h : GoodR none rs) : rsp (flat rs) = rs := foldl_flat (acc := []) h
theorem last_rep (vs : List Int) (v : Int) (n : Nat) : (vs ++ List.replicate (n + 1) v).getLast? = some v := by
 rw [List.replicate_succ', ← List.append_assoc, List.getLast?_append]; simp
def encL (rs : List (Int × Int)) : List Nat := (rs.map fun r => vput (foldS r.1).toNat ++ vput r.2.toNat).flatten
theorem encL_nil : encL [] = [] := rfl
theorem encL_cons (r : Int × Int) (rs : List (Int × Int)) : encL (r :: rs) = vput (foldS r.1).toNat ++ (vput r.2.toNat ++ encL rs) := by simp [encL]
theorem encL_snoc (rs : List (Int × Int)) (r : Int × Int) : encL (rs ++ [r]) = encL rs ++ vput (foldS r.1).toNat ++ vput r.2.toNat := by simp [encL]
def encR (rs : List (Int × Int)) : List Nat := vput rs.length ++ encL rs
def decR (bs : List Nat) : Nat → List Int → Int → List Int × Int
 | 0, vs, a => if a < (bs.length : Int) then ([], 3) else (vs, 0)
 | m + 1, vs, a =>
   if (vget bs a).2.2 ≠ 0 then ([], (vget bs a).2.2) else
   if (vget bs (vget bs a).2.1).2.2 ≠ 0 then ([], (vget bs (vget bs a).2.1).2.2) else
   if (vget bs (vget bs a).2.1).1 = 0 ∨ vs.getLast? = some (unfS (vget bs a).1) then ([], 5) else
   if 4096 - (vs.length : Int) < (vget bs (vget bs a).2.1).1 then ([], 4) else
   decR bs m (vs ++ List.replicate (vget bs (vget bs a).2.1).1 (unfS (vget bs a).1)) (vget bs (vget bs a).2.1).2.1
def decode8 (bs : List Nat) : List Int × Int :=
 if (vget bs 0).2.2 ≠ 0 then ([], (vget bs 0).2.2) else if 4096 < (vget bs 0).1 then ([], 4) else decR bs (vget bs 0).1 [] (vget bs 0).2.1
theorem unf_range {u : Nat} (h : u < 18446744073709551616) : R64 (unfS u) := by unfold R64 unfS; split <;> omega
theorem fold_range {v : Int} (h : R64 v) : 0 ≤ foldS v ∧ foldS v < 18446744073709551616 := by unfold R64 at h; unfold foldS; split <;> omega
theorem unf_fold (v : Int) : unfS (foldS v) = v := by unfold unfS foldS; split <;> split <;> omega
theorem fold_unf {u : Int} (h : 0 ≤ u) : foldS (unfS u) = u := by unfold unfS foldS; split <;> split <;> omega
theorem vget_put {bs rest : List Nat} {a u : Nat} (hu : u < 18446744073709551616) (ha : a ≤ bs.length) (h : bs.drop a = vput u ++ rest) :
   vget bs (a : Int) = (u, (a : Int) + (vput u).length, 0) ∧ a + (vput u).length ≤ bs.length ∧ bs.drop (a + (vput u).length) = rest := by
 refine ⟨?_, ?_, ?_⟩
 · rw [vput_len]
   exact vget_ok ha (by rw [h]; exact vgetF_vput hu rest)
 · have := congrArg List.length h
   rw [List.length_drop, List.length_append] at this
   omega
 · rw [← List.drop_drop, h, List.drop_left]
theorem decR_enc {bs rest : List Nat} {rs : List (Int × Int)} : ∀ {vs : List Int} {a : Nat}, a ≤ bs.length → bs.drop a = encL rs ++ rest → GoodR vs.getLast? rs → vs.length + (flat rs).length ≤ 4096 →
   decR bs rs.length vs (a : Int) = if rest = [] then (vs ++ flat rs, 0) else ([], 3) := by
 induction rs with
 | nil =>
   intro vs a ha hd _ _
   have hl := congrArg List.length hd
   rw [encL_nil, List.nil_append, List.length_drop] at hl
   rw [List.length_nil, decR]
   by_cases hr : rest = []
   · subst hr
     rw [if_pos rfl, if_neg (by simp at hl; omega)]
     simp [flat]
   · rw [if_neg hr, if_pos]
     have : 0 < rest.length := List.length_pos_iff.2 hr
     omega
 | cons r rs ih =>
   intro vs a ha hd hg hl
   obtain ⟨v, c⟩ := r
   have hc := hg.2.1
   simp at hc
   obtain ⟨m, hm⟩ : ∃ m : Nat, c = ((m + 1 : Nat) : Int) := ⟨c.toNat - 1, by omega⟩
   subst hm
   obtain ⟨f0, f1⟩ := fold_range hg.2.2.1
   simp only at f0 f1
   obtain ⟨u, hu⟩ : ∃ u : Nat, foldS v = (u : Int) := ⟨(foldS v).toNat, by omega⟩
   have huv : unfS (u : Int) = v := by rw [← hu, unf_fold]
   rw [flat_cons, List.length_append, List.length_replicate] at hl
   simp only [Int.toNat_natCast] at hl
   rw [encL_cons, List.append_assoc, List.append_assoc] at hd
   simp only [Int.toNat_natCast, hu] at hd
   obtain ⟨g1, b1, d1⟩ := vget_put (by omega) ha hd
   obtain ⟨g2, b2, d2⟩ := vget_put (by omega) b1 d1
   rw [Int.natCast_add] at g2
   rw [List.length_cons, decR, g1]
   simp only [ne_eq, not_true_eq_false, if_false]
   rw [g2]
   simp only [not_true_eq_false, if_false]
   rw [huv, if_neg (by rintro (h | h); omega; exact hg.1 h), if_neg (by omega)]
   rw [show (a : Int) + ((vput u).length : Int) + ((vput (m + 1)).length : Int) = ((a + (vput u).length + (vput (m + 1)).length : Nat) : Int) from by omega]
   rw [ih b2 d2 (by rw [last_rep]; exact hg.2.2.2) (by rw [List.length_append, List.length_replicate]; omega), flat_cons]
   simp
theorem encR_len (rs : List (Int × Int)) : (encR rs).length = (vput rs.length).length + (encL rs).length := by rw [encR, List.length_append]
theorem decode8_enc {rs : List (Int × Int)} (rest : List Nat) (h : GoodR none rs) (hl : (flat rs).length ≤ 4096) : decode8 (encR rs ++ rest) = if rest = [] then (flat rs, 0) else ([], 3) := by
 have hn := (flat_len_le h).1
 obtain ⟨g1, b1, d1⟩ := vget_put (bs := encR rs ++ rest) (a := 0) (u := rs.length) (rest := encL rs ++ rest) (by omega) (Nat.zero_le _) (by rw [List.drop_zero, encR, List.append_assoc])
 rw [decode8, show (0 : Int) = ((0 : Nat) : Int) from rfl, g1]
 simp only [ne_eq]
 rw [← Int.natCast_add, decR_enc (vs := []) b1 d1 h (by simpa using hl), if_neg (by simp), if_neg (by omega)]
 simp
theorem decR_only {bs : List Nat} (hb : U8 bs) : ∀ {m : Nat} {vs out : List Int} {a : Int}, 0 ≤ a → a ≤ bs.length → vs.length ≤ 4096 → decR bs m vs a = (out, 0) →
   ∃ rs, rs.length = m ∧ GoodR vs.getLast? rs ∧ out = vs ++ flat rs ∧ bs.drop a.toNat = encL rs ∧ out.length ≤ 4096 := by
 intro m
 induction m with
 | zero =>
   intro vs out a h0 ha hl h
   rw [decR] at h
   by_cases hlt : a < (bs.length : Int)
   · rw [if_pos hlt] at h; injection h with _ h; exact absurd h (by decide)
   · rw [if_neg hlt] at h
     injection h with h _
     subst h
     exact ⟨[], rfl, trivial, by simp [flat], by rw [List.drop_of_length_le (by omega)]; rfl, hl⟩
 | succ m ih =>
   intro vs out a h0 ha hl h
   rcases hg1 : vget bs a with ⟨u, a1, e1⟩
   rw [decR, hg1] at h
   simp only at h
   by_cases he1 : e1 = 0
   · subst he1
     rcases hg2 : vget bs a1 with ⟨k, a2, e2⟩
     rw [hg2] at h
     simp only [ne_eq, not_true_eq_false, if_false] at h
     by_cases he2 : e2 = 0
     · subst he2
       simp only [not_true_eq_false, if_false] at h
       by_cases h3 : k = 0 ∨ vs.getLast? = some (unfS u)
       · rw [if_pos h3] at h; injection h with _ h; exact absurd h (by decide)
       rw [if_neg h3] at h
       by_cases h4 : 4096 - (vs.length : Int) < k
       · rw [if_pos h4] at h; injection h with _ h; exact absurd h (by decide)
       rw [if_neg h4] at h
       obtain ⟨p1, p2, p3, p4, p5⟩ := vget_at hb hg1
       obtain ⟨q1, q2, q3, q4, q5⟩ := vget_at hb hg2
       obtain ⟨t, rfl⟩ : ∃ t, k = t + 1 := ⟨k - 1, by omega⟩
       obtain ⟨rs, r1, r2, r3, r4, r5⟩ := ih (by omega) q3 (by rw [List.length_append, List.length_replicate]; omega) h
       rw [last_rep] at r2
       refine ⟨(unfS u, ((t + 1 : Nat) : Int)) :: rs, by rw [List.length_cons, r1], ⟨fun hh => h3 (.inr hh), by show (1 : Int) ≤ ((t + 1 : Nat) : Int); omega, unf_range p4, r2⟩, ?_, ?_, r5⟩
       · rw [r3, flat_cons]; simp
       · rw [encL_cons, ← r4]
         simp only [Int.toNat_natCast]
         rw [fold_unf (by omega), Int.toNat_natCast, p5, q5, show a1.toNat = a.toNat + (a1.toNat - a.toNat) from by omega, ← List.drop_drop]
         generalize hD : bs.drop a.toNat = D
         rw [show a2.toNat = a.toNat + ((a1.toNat - a.toNat) + (a2.toNat - a1.toNat)) from by omega, ← List.drop_drop, hD, ← List.drop_drop]
         rw [show a.toNat + (a1.toNat - a.toNat) - a.toNat = a1.toNat - a.toNat from by omega, show a.toNat + (a1.toNat - a.toNat + (a2.toNat - a1.toNat)) - (a.toNat + (a1.toNat - a.toNat)) = a2.toNat - a1.toNat from by omega]
         rw [List.take_append_drop, List.take_append_drop]
     · rw [if_pos he2] at h; injection h with _ h; exact absurd h he2
   · rw [if_pos he1] at h; injection h with _ h; exact absurd h he1
theorem decode8_only {bs : List Nat} {vs : List Int} (hb : U8 bs) (h : decode8 bs = (vs, 0)) : ∃ rs, GoodR none rs ∧ vs = flat rs ∧ bs = encR rs ∧ vs.length ≤ 4096 ∧ rs = rsp vs := by
 rcases hg : vget bs 0 with ⟨m, a, e⟩
 rw [decode8, hg] at h
 simp only at h
 by_cases he : e = 0
 · subst he
   simp only [ne_eq, not_true_eq_false, if_false] at h
   by_cases hm : 4096 < m
   · rw [if_pos hm] at h; injection h with _ h; exact absurd h (by decide)
   rw [if_neg hm] at h
   obtain ⟨p1, p2, p3, p4, p5⟩ := vget_at hb hg
   obtain ⟨rs, r1, r2, r3, r4, r5⟩ := decR_only hb (by omega) p3 (by simp) h
   rw [List.nil_append] at r3
   refine ⟨rs, r2, r3, ?_, r5, by rw [r3, rsp_of_flat r2]⟩
   rw [encR, r1, p5, ← r4]
   simp
 · rw [if_pos he] at h; injection h with _ h; exact absurd h he
def split8 (vs : List Int) : List (Int × Int) × Int := if 4096 < vs.length then ([], 4) else (rsp vs, 0)
def encode8 (vs : List Int) : List Nat × Int := if 4096 < vs.length then ([], 4) else (encR (rsp vs), 0)
set_option maxHeartbeats 400000 in
theorem power_nat (k : Nat) (w : World) (hk : k ≤ 63) :
   Calls Tryz.prog 160 #[.int .i64 k] w fun e w' => e = .returned (.int .u64 (pw k)) ∧ w' = w := by
 go_enter Tryz.func160, Tryz.ntmps160
 go_wp2
 go_loop [3, 4] (fun p i => ∃ j : Nat, j ≤ k ∧ i = .int .i64 j ∧ p = .int .u64 (pw j)) (fun _ i => k - (intOf i).toNat)
 case atStart => exact ⟨0, by omega, rfl, rfl⟩
 case round =>
   obtain ⟨j, hj, rfl, rfl⟩ := hrel
   by_cases hlt : j < k
   · go_wp2
     go_round
     case rel =>
       refine ⟨j + 1, by omega, by go_num, ?_⟩
       have h1 := pw_succ j
       have h2 := pw_le (show j + 1 ≤ 63 by omega)
       rw [pw_63] at h2
       rw [pw_succ, IntKind.wrap_u64, Int.emod_eq_of_lt (by omega) (by omega)]; go_num
     case measure => simp [intOf]; omega
   · obtain rfl : j = k := by omega
     go_wp2
     go_ret
     exact ⟨rfl, rfl⟩
theorem power_any (k : Int) (w : World) (h0 : 0 ≤ k) (hk : k ≤ 63) :
   Calls Tryz.prog 160 #[.int .i64 k] w fun e w' => e = .returned (.int .u64 (pw k.toNat)) ∧ w' = w := by
 obtain ⟨n, rfl⟩ := Int.eq_ofNat_of_zero_le h0
 exact power_nat n w (by omega)
end Go.Proofs.YthibbgmicmfkfaaGreat
-- part B1p
namespace Go.Proofs.YthibbgmicmfkfaaGreat
open Go.RowKit
set_option maxRecDepth 100000
def bitAt (N k : Nat) : Nat := N / 2 ^ k % 2
def dig (N at_ w : Nat) : Nat := N / 2 ^ at_ % 2 ^ w
theorem bitAt_lt (N k : Nat) : bitAt N k < 2 := Nat.mod_lt _ (by omega)
theorem dig_zero (N a : Nat) : dig N a 0 = 0 := by simp [dig, Nat.mod_one]
theorem dig_lt (N a w : Nat) : dig N a w < 2 ^ w := Nat.mod_lt _ (Nat.two_pow_pos w)
end Go.Proofs.YthibbgmicmfkfaaGreat
-- part B2p
namespace Go.Proofs.YthibbgmicmfkfaaGreat
open Go.RowKit
def unpE (N len : Nat) (wd cnt : Int) : Int :=
 if wd < 0 ∨ 64 < wd ∨ cnt < 0 ∨ 4096 < cnt then 1 else if 8 * (len : Int) < wd * cnt then 2 else if 8 ≤ 8 * (len : Int) - wd * cnt then 3 else if 2 ^ (wd * cnt).toNat ≤ N then 5 else 0
def unpL (N len : Nat) (wd cnt : Int) : List Nat := if unpE N len wd cnt = 0 then upk wd.toNat cnt.toNat N else []
theorem unp_err {N len : Nat} {wd cnt r : Int} (h : unpE N len wd cnt = r) (hr : r ≠ 0) : unpL N len wd cnt = [] := by unfold unpL; rw [h, if_neg hr]
theorem unp_ok {N len : Nat} {wd cnt : Int} (h : unpE N len wd cnt = 0) : unpL N len wd cnt = upk wd.toNat cnt.toNat N := by unfold unpL; rw [h, if_pos rfl]
def UnpPost (N len : Nat) (wd cnt : Int) (w : World) (e : Ending) (w' : World) : Prop :=
 ∃ A' c', e = .returned (.tuple #[.slice A' (unpL N len wd cnt).length c', .int .i64 (unpE N len wd cnt)]) ∧ Own .u64 69 w' w.heap.size A' c' (unpL N len wd cnt) ∧ Ext w w'
theorem UnpPost.err {N len : Nat} {wd cnt r : Int} {w w' : World} (h : unpE N len wd cnt = r) (hr : r ≠ 0) (he : Ext w w') : UnpPost N len wd cnt w (.returned (.tuple #[.slice none 0 0, .int .i64 r])) w' := by
 refine ⟨none, 0, ?_, ?_, he⟩
 · rw [unp_err h hr, h]; rfl
 · rw [unp_err h hr]; exact Own.nil ..
theorem UnpPost.ok {N len m : Nat} {wd cnt : Int} {w w' : World} {A : Option Addr} {c : Nat} (h : unpE N len wd cnt = 0) (hm : cnt.toNat = m) (ho : Own .u64 69 w' w.heap.size A c (upk wd.toNat m N)) (he : Ext w w') :
   UnpPost N len wd cnt w (.returned (.tuple #[.slice A m c, .int .i64 0])) w' := by
 subst hm
 refine ⟨A, c, ?_, ?_, he⟩
 · rw [unp_ok h, h, upk_len]
 · rw [unp_ok h]; exact ho
theorem unpE_bad {N len : Nat} {wd cnt : Int} (h : wd < 0 ∨ 64 < wd ∨ cnt < 0 ∨ 4096 < cnt) : unpE N len wd cnt = 1 := if_pos h
theorem unpE_short {N len : Nat} {wd cnt : Int} (h : ¬ (wd < 0 ∨ 64 < wd ∨ cnt < 0 ∨ 4096 < cnt)) (h2 : 8 * (len : Int) < wd * cnt) : unpE N len wd cnt = 2 := by unfold unpE; rw [if_neg h, if_pos h2]
theorem unpE_trail {N len : Nat} {wd cnt : Int} (h : ¬ (wd < 0 ∨ 64 < wd ∨ cnt < 0 ∨ 4096 < cnt)) (h2 : ¬ 8 * (len : Int) < wd * cnt) (h3 : 8 ≤ 8 * (len : Int) - wd * cnt) : unpE N len wd cnt = 3 := by unfold unpE; rw [if_neg h, if_neg h2, if_pos h3]
theorem unpE_form {N len : Nat} {wd cnt : Int} (h : ¬ (wd < 0 ∨ 64 < wd ∨ cnt < 0 ∨ 4096 < cnt)) (h2 : ¬ 8 * (len : Int) < wd * cnt) (h3 : ¬ 8 ≤ 8 * (len : Int) - wd * cnt) (h4 : 2 ^ (wd * cnt).toNat ≤ N) : unpE N len wd cnt = 5 := by
 unfold unpE; rw [if_neg h, if_neg h2, if_neg h3, if_pos h4]
theorem unpE_ok {N len : Nat} {wd cnt : Int} (h : ¬ (wd < 0 ∨ 64 < wd ∨ cnt < 0 ∨ 4096 < cnt)) (h2 : ¬ 8 * (len : Int) < wd * cnt) (h3 : ¬ 8 ≤ 8 * (len : Int) - wd * cnt) (h4 : ¬ 2 ^ (wd * cnt).toNat ≤ N) : unpE N len wd cnt = 0 := by
 unfold unpE; rw [if_neg h, if_neg h2, if_neg h3, if_neg h4]
end Go.Proofs.YthibbgmicmfkfaaGreat
-- part B3p
namespace Go.Proofs.YthibbgmicmfkfaaGreat
open Go.RowKit
set_option maxHeartbeats 400000 in
theorem width_any (A : Option Addr) (n c : Nat) (vs : List Nat) (w : World) (hx : Rd .u64 w A n vs) (hu : U64 vs) (hn : n ≤ 140737488355328) :
   Calls Tryz.prog 169 #[.slice A n c] w fun e w' => e = .returned (.int .i64 (wdt vs)) ∧ w = w' := by
 have hl := hx.len
 have Hl := Lib.hid hl
 clear hl
 go_enter Tryz.func169, Tryz.ntmps169
 go_wp2_with fail
 go_loop [3, 7] (fun v i => ∃ j : Nat, j ≤ n ∧ i = .int .i64 j ∧ v = .int .u64 (orAll (vs.take j))) (fun _ i => n - (intOf i).toNat)
 case atStart => exact ⟨0, Nat.zero_le _, rfl, rfl⟩
 case round =>
   obtain ⟨j, hj, rfl, rfl⟩ := hrel
   by_cases hlt : j < n
   · obtain ⟨b, o, rfl, hb, hc⟩ := hx.at_ hlt
     have h1 := orAll_lt (vs := vs.take j) (fun v hv => hu v (List.mem_of_mem_take hv))
     have h2 := hu.at_ j
     have Ht := Lib.hid (take_next vs j (by have := Hl.out; omega))
     obtain ⟨x, hx'⟩ : ∃ x, x = vs.getD j 0 := ⟨_, rfl⟩
     rw [← hx'] at hc h2 Ht
     have hor := u64_or_nat _ _ h1 h2
     clear hx'
     go_wp2
     go_round
     case rel => exact ⟨j + 1, by omega, by go_num, by rw [Ht.out, orAll_snoc]⟩
     case measure => simp [intOf]; omega
   · obtain rfl : j = n := by omega
     have h1 := orAll_lt hu
     rw [List.take_of_length_le (Nat.le_of_eq Hl.out)]
     go_wp2_with (go_at_call 201; refine (len64_any _ _ h1).mono ?_; rintro e w1 ⟨rfl, rfl⟩)
     go_ret
     exact ⟨by rw [← orAll_bl]; rfl, rfl⟩
set_option maxHeartbeats 400000 in
theorem refWidth_any (A : Option Addr) (n c : Nat) (vs : List Nat) (w : World) (hx : Rd .u64 w A n vs) (hu : U64 vs) (hn : n ≤ 140737488355328) :
   Calls Tryz.prog 84 #[.slice A n c] w fun e w' => e = .returned (.int .i64 (wdt vs)) ∧ w = w' := by
 have hl := hx.len
 have Hl := Lib.hid hl
 clear hl
 go_enter Tryz.func84, Tryz.ntmps84
 go_wp2_with fail
 go_loop [3, 4] (fun v i => ∃ j : Nat, j ≤ n ∧ i = .int .i64 j ∧ v = .int .i64 (wdt (vs.take j))) (fun _ i => n - (intOf i).toNat)
 case atStart => exact ⟨0, Nat.zero_le _, rfl, rfl⟩
 case round =>
   obtain ⟨j, hj, rfl, rfl⟩ := hrel
   by_cases hlt : j < n
   · obtain ⟨b, o, rfl, hb, hc⟩ := hx.at_ hlt
     have h2 := hu.at_ j
     have Ht := Lib.hid (take_next vs j (by have := Hl.out; omega))
     obtain ⟨x, hx'⟩ : ∃ x, x = vs.getD j 0 := ⟨_, rfl⟩
     rw [← hx'] at hc h2 Ht
     clear hx'
     go_wp2_with fail
     have h64 := bl_64 h2
     go_loop [5, 6] (fun m v => ∃ k y : Nat, m = .int .i64 k ∧ v = .int .u64 y ∧ Hid (bl x = bl y + k) ∧ k ≤ 64 ∧ y < 18446744073709551616) (fun m v => (intOf v).toNat)
     case atStart => exact ⟨0, x, rfl, rfl, rfl, by omega, h2⟩
     case round =>
       obtain ⟨k, y, rfl, rfl, Hk, hk64, hy⟩ := hrel
       by_cases hy0 : 0 < y
       · have Hb := Lib.hid (bl_half hy0)
         have hk2 : k + 1 ≤ 64 := by have := Hb.out; have := Hk.out; omega
         go_wp2
         go_round
         case rel => exact ⟨k + 1, y / 2, by go_num, by go_num, by have := Hb.out; have := Hk.out; show bl x = _; omega, hk2, by omega⟩
         case measure => simp [intOf]; omega
       · obtain rfl : y = 0 := by omega
         have hk3 : bl x = k := by have := Hk.out; rw [bl_zero] at this; omega
         have Hk3 := Lib.hid hk3
         clear hk3
         by_cases hg : wdt (vs.take j) < k
         · go_wp2
           go_round
           case rel => exact ⟨j + 1, by omega, by go_num, by rw [Ht.out, wdt_snoc, Hk3.out, Nat.max_eq_right (by omega)]⟩
           case measure => simp [intOf]; omega
         · go_wp2
           go_round
           case rel => exact ⟨j + 1, by omega, by go_num, by rw [Ht.out, wdt_snoc, Hk3.out, Nat.max_eq_left (by omega)]⟩
           case measure => simp [intOf]; omega
   · obtain rfl : j = n := by omega
     rw [List.take_of_length_le (Nat.le_of_eq Hl.out)]
     go_wp2
     go_ret
     exact ⟨rfl, rfl⟩
end Go.Proofs.YthibbgmicmfkfaaGreat
-- part B4p
namespace Go.Proofs.YthibbgmicmfkfaaGreat
open Go.RowKit
theorem dig_le64 (N a j : Nat) (h : j ≤ 64) : dig N a j < 18446744073709551616 := Nat.lt_of_lt_of_le (dig_lt _ _ _) (Nat.pow_le_pow_right (by omega) h)
theorem byte_from (N k : Nat) : N / 2 ^ (8 * (k / 8)) % 2 ^ 8 / 2 ^ (k % 8) = N / 2 ^ k % 2 ^ (8 - k % 8) := by
 have h2 : 2 ^ 8 = 2 ^ (k % 8) * 2 ^ (8 - k % 8) := by rw [← Nat.pow_add]; congr 1; omega
 rw [h2, Nat.mod_mul_right_div_self, Nat.div_div_eq_div_mul, ← Nat.pow_add, show 8 * (k / 8) + k % 8 = k from by omega]
theorem dig_more (N a j m : Nat) : dig N a (j + m) = dig N a j + 2 ^ j * (N / 2 ^ (a + j) % 2 ^ m) := by
 unfold dig
 rw [Nat.pow_add, Nat.mod_mul, Nat.div_div_eq_div_mul, ← Nat.pow_add]
theorem shl_mod (y m j : Nat) (hj : j ≤ 64) : y % 2 ^ m * 2 ^ j % 18446744073709551616 = 2 ^ j * (y % 2 ^ (min (j + m) 64 - j)) := by
 have h1 : (18446744073709551616 : Nat) = 2 ^ (64 - j) * 2 ^ j := by rw [← Nat.pow_add, show 64 - j + j = 64 from by omega]
 rw [h1, Nat.mul_mod_mul_right, Nat.mul_comm]
 congr 1
 by_cases h : j + m ≤ 64
 · rw [Nat.min_eq_left h, show j + m - j = m from by omega, Nat.mod_eq_of_lt]
   exact Nat.lt_of_lt_of_le (Nat.mod_lt _ (Nat.two_pow_pos m)) (Nat.pow_le_pow_right (by omega) (by omega))
 · rw [Nat.min_eq_right (by omega)]
   exact Nat.mod_mod_of_dvd _ (Nat.pow_dvd_pow 2 (by omega))
theorem rd_step {N a j x : Nat} (hj : j < 64) (hx : x = N / 2 ^ (8 * ((a + j) / 8)) % 2 ^ 8) :
   bits .or .u64 (dig N a j : Int) (IntKind.u64.wrap (IntKind.u64.wrap ((x : Int) / 2 ^ ((a + j) % 8)) * 2 ^ j)) = (dig N a (min (j + (8 - (a + j) % 8)) 64) : Int) := by
 have hb := byte_from N (a + j)
 rw [← hx] at hb
 have e1 : ((x : Int) / 2 ^ ((a + j) % 8)) = ((x / 2 ^ ((a + j) % 8) : Nat) : Int) := by rw [Int.natCast_ediv]; norm_cast
 have hx8 : x < 256 := by rw [hx]; exact Nat.mod_lt _ (by omega)
 have hle : x / 2 ^ ((a + j) % 8) ≤ x := Nat.div_le_self _ _
 have e2 : IntKind.u64.wrap ((x / 2 ^ ((a + j) % 8) : Nat) : Int) = ((x / 2 ^ ((a + j) % 8) : Nat) : Int) := by
   generalize x / 2 ^ ((a + j) % 8) = y at *
   exact IntWalk.u64_in _ (by omega)
 have e3 : ((x / 2 ^ ((a + j) % 8) : Nat) : Int) * 2 ^ j = ((x / 2 ^ ((a + j) % 8) * 2 ^ j : Nat) : Int) := by norm_cast
 rw [e1, e2, e3, IntKind.wrap_u64, hb]
 have e4 : ∀ y : Nat, ((y : Int) % 18446744073709551616) = ((y % 18446744073709551616 : Nat) : Int) := fun y => by omega
 rw [e4, shl_mod _ _ _ (by omega)]
 have hm : min (j + (8 - (a + j) % 8)) 64 = j + (min (j + (8 - (a + j) % 8)) 64 - j) := by omega
 have hd := dig_more N a j (min (j + (8 - (a + j) % 8)) 64 - j)
 rw [← hm] at hd
 have h1 := dig_le64 N a j (by omega)
 have h2 := dig_le64 N a (min (j + (8 - (a + j) % 8)) 64) (by omega)
 have h3 := dig_lt N a j
 rw [hd] at h2 ⊢
 rw [u64_or_nat _ _ h1 (by omega), Nat.or_comm, nat_join j _ _ (Nat.mul_mod_right _ _) h3, Nat.add_comm]
theorem mask_eq (wd : Nat) (h : wd ≤ 64) : IntKind.u64.wrap (IntKind.u64.wrap ((2 : Int) ^ wd) - 1) = ((2 ^ wd - 1 : Nat) : Int) := by
 have e : ((2 : Int) ^ wd) = ((2 ^ wd : Nat) : Int) := by norm_cast
 rw [e]
 by_cases h64 : wd = 64
 · subst h64; decide
 · have h1 : 2 ^ wd ≤ 2 ^ 63 := Nat.pow_le_pow_right (by omega) (by omega)
   have h2 := Nat.two_pow_pos wd
   generalize 2 ^ wd = y at *
   rw [IntWalk.u64_in (y : Int) (by omega), IntWalk.u64_in _ (by omega)]
   omega
theorem mask_dig {N a j wd : Nat} (h : wd ≤ j) (hw : wd ≤ 64) : bits .and .u64 (dig N a (min j 64) : Int) (IntKind.u64.wrap (IntKind.u64.wrap ((2 : Int) ^ wd) - 1)) = (dig N a wd : Int) := by
 have h1 : 2 ^ wd ≤ 2 ^ 64 := Nat.pow_le_pow_right (by omega) hw
 have h2 := Nat.two_pow_pos wd
 rw [mask_eq wd hw, u64_and_nat _ _ (dig_le64 N a _ (by omega)) (by omega), Nat.and_two_pow_sub_one_eq_mod]
 unfold dig
 rw [Nat.mod_mod_of_dvd _ (Nat.pow_dvd_pow 2 (by omega))]
set_option maxHeartbeats 800000 in
theorem read_any (A : Option Addr) (n c : Nat) (a wd : Nat) (bs : List Nat) (w : World) (hx : Rd .u8 w A n bs) (hu : U8 bs) (hn : n ≤ 140737488355328) (hw : wd ≤ 64) (hk : a + wd ≤ 8 * n) :
   Calls Tryz.prog 188 #[.slice A n c, .int .u64 a, .int .i64 wd] w fun e w' => e = .returned (.int .u64 (dig (pk 8 bs) a wd)) ∧ w = w' := by
 go_enter Tryz.func188, Tryz.ntmps188
 go_wp2_with fail
 go_loop [7, 8, 9] (fun v i _ => ∃ j : Nat, j ≤ wd + 7 ∧ i = .int .i64 j ∧ v = .int .u64 (dig (pk 8 bs) a (min j 64))) (fun _ i _ => wd + 7 - (intOf i).toNat)
 case atStart => exact ⟨0, by omega, rfl, by rw [Nat.zero_min, dig_zero]; rfl⟩
 case round =>
   obtain ⟨j, hj, rfl, rfl⟩ := hrel
   by_cases hlt : j < wd
   · obtain ⟨b, o, rfl, hb, hc⟩ := hx.at_ (show (a + j) / 8 < n by omega)
     have h2 := hu.at_ ((a + j) / 8)
     have hp := pk_at (U8_wd.1 hu) ((a + j) / 8)
     have hd0 := dig_le64 (pk 8 bs) a j (by omega)
     rw [← hp] at hc h2
     obtain ⟨x, hx'⟩ : ∃ x, x = pk 8 bs / 2 ^ (8 * ((a + j) / 8)) % 2 ^ 8 := ⟨_, rfl⟩
     rw [← hx'] at hc h2
     have Hs := Lib.hid (rd_step (show j < 64 by omega) hx')
     rw [Nat.min_eq_left (show j ≤ 64 by omega)]
     obtain ⟨v, hv⟩ : ∃ v, v = dig (pk 8 bs) a j := ⟨_, rfl⟩
     rw [← hv] at hd0 ⊢ Hs
     clear hv hx' hp
     go_wp2
     go_round
     case rel => exact ⟨j + (8 - (a + j) % 8), by omega, by go_num, by rw [Hs.out]⟩
     case measure => simp [intOf]; omega
   · have Hm := Lib.hid (mask_dig (N := pk 8 bs) (a := a) (show wd ≤ j by omega) hw)
     go_wp2
     go_ret
     exact ⟨ret_int Hm.out, rfl⟩
end Go.Proofs.YthibbgmicmfkfaaGreat
-- part B5p
namespace Go.Proofs.YthibbgmicmfkfaaGreat
open Go.RowKit
theorem isWidth_yes (wd : Int) (w : World) (h0 : 0 ≤ wd) (h1 : wd ≤ 64) :
   Calls Tryz.prog 168 #[.int .i64 wd] w fun e w' => e = .returned (.bool true) ∧ w = w' := by
 go_enter Tryz.func168, Tryz.ntmps168
 go_wp2
 go_ret
 exact ⟨rfl, rfl⟩
theorem isWidth_no (wd : Int) (w : World) (h : wd < 0 ∨ 64 < wd) :
   Calls Tryz.prog 168 #[.int .i64 wd] w fun e w' => e = .returned (.bool false) ∧ w = w' := by
 rcases h with h | h
 · go_enter Tryz.func168, Tryz.ntmps168
   go_wp2
   go_ret
   exact ⟨rfl, rfl⟩
 · have h2 : decide (wd ≤ 64) = false := by simp; omega
   by_cases h0 : 0 ≤ wd
   all_goals
     go_enter Tryz.func168, Tryz.ntmps168
     go_wp2
     go_ret
     exact ⟨rfl, rfl⟩
theorem place_any (wd i : Int) (w : World) (h0 : 0 ≤ wd) (h1 : wd ≤ 64) (h2 : 0 ≤ i) (h3 : i ≤ 9223372036854775807) (h4 : 0 ≤ wd * i) (h5 : wd * i ≤ 18446744073709551615) :
   Calls Tryz.prog 172 #[.int .i64 wd, .int .i64 i] w fun e w' => e = .returned (.int .u64 (wd * i)) ∧ w = w' := by
 go_enter Tryz.func172, Tryz.ntmps172
 go_wp2
 go_ret
 exact ⟨rfl, rfl⟩
theorem bytesFor_any (wd i : Int) (w : World) (h0 : 0 ≤ wd) (h1 : wd ≤ 64) (h2 : 0 ≤ i) (h3 : i ≤ 9223372036854775807) (h4 : 0 ≤ wd * i) (h5 : wd * i ≤ 9223372036854775807) :
   Calls Tryz.prog 170 #[.int .i64 wd, .int .i64 i] w fun e w' => e = .returned (.int .i64 ((wd * i + 7) / 8)) ∧ w = w' := by
 go_enter Tryz.func170, Tryz.ntmps170
 go_wp2_with (go_at_call 172; refine (place_any _ _ _ h0 h1 h2 h3 h4 (by omega)).mono ?_; rintro e w1 ⟨rfl, rfl⟩)
 go_ret
 exact ⟨rfl, rfl⟩
end Go.Proofs.YthibbgmicmfkfaaGreat
