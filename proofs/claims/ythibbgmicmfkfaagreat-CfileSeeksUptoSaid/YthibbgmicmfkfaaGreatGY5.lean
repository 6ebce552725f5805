import Derived.Test.YthibbgmicmfkfaaGreatGY4
import Derived.RegionTactic
import Derived.BigRegion
import Derived.Deep.RegionWith
namespace Go.Proofs.YthibbgmicmfkfaaGreat
open Go.RowKit
set_option maxRecDepth 100000
def gat (rs : List (Int × Int)) (v : Int) : List (Int × Int) :=
  match rs.getLast? with
  | none => [(v, 1)]
  | some r => if r.1 = v then rs.dropLast ++ [(v, r.2 + 1)] else rs ++ [(v, 1)]
theorem gat_nil (v : Int) : gat [] v = [(v, 1)] := rfl
theorem gat_same (rs : List (Int × Int)) (v c : Int) : gat (rs ++ [(v, c)]) v = rs ++ [(v, c + 1)] := by simp [gat]
theorem gat_new {rs : List (Int × Int)} {u c v : Int} (h : u ≠ v) : gat (rs ++ [(u, c)]) v = rs ++ [(u, c)] ++ [(v, 1)] := by simp [gat, h]
def rsp (vs : List Int) : List (Int × Int) := vs.foldl gat []
theorem rsp_snoc (vs : List Int) (v : Int) : rsp (vs ++ [v]) = gat (rsp vs) v := by simp [rsp, List.foldl_append]
def flat (rs : List (Int × Int)) : List Int := (rs.map fun r => List.replicate r.2.toNat r.1).flatten
theorem flat_cons (r : Int × Int) (rs : List (Int × Int)) : flat (r :: rs) = List.replicate r.2.toNat r.1 ++ flat rs := by simp [flat]
theorem flat_append (a b : List (Int × Int)) : flat (a ++ b) = flat a ++ flat b := by simp [flat]
def lastV : Option Int → List (Int × Int) → Option Int
  | l, [] => l
  | _, r :: rs => lastV (some r.1) rs
theorem lastV_append (l : Option Int) (a b : List (Int × Int)) : lastV l (a ++ b) = lastV (lastV l a) b := by
  induction a generalizing l with
  | nil => rfl
  | cons r rs ih => exact ih _
theorem lastV_snoc (l : Option Int) (a : List (Int × Int)) (r : Int × Int) : lastV l (a ++ [r]) = some r.1 := by rw [lastV_append]; rfl
def R64 (v : Int) : Prop := -9223372036854775808 ≤ v ∧ v ≤ 9223372036854775807
def GoodR : Option Int → List (Int × Int) → Prop
  | _, [] => True
  | l, r :: rs => l ≠ some r.1 ∧ 1 ≤ r.2 ∧ R64 r.1 ∧ GoodR (some r.1) rs
theorem GoodR.append {l : Option Int} {a b : List (Int × Int)} : GoodR l (a ++ b) ↔ GoodR l a ∧ GoodR (lastV l a) b := by
  induction a generalizing l with
  | nil => simp [GoodR, lastV]
  | cons r rs ih => simp [GoodR, lastV, ih, and_assoc]
theorem GoodR.mem {l : Option Int} {rs : List (Int × Int)} (h : GoodR l rs) : ∀ r ∈ rs, 1 ≤ r.2 ∧ R64 r.1 := by
  induction rs generalizing l with
  | nil => intro r hr; cases hr
  | cons q rs ih =>
    intro r hr
    rcases List.mem_cons.1 hr with rfl | hr
    · exact ⟨h.2.1, h.2.2.1⟩
    · exact ih h.2.2.2 r hr
theorem snoc_or {T : Type} (l : List T) : l = [] ∨ ∃ a b, l = a ++ [b] := by
  rcases List.eq_nil_or_concat l with h | ⟨a, b, h⟩
  · exact .inl h
  · exact .inr ⟨a, b, by rw [h, List.concat_eq_append]⟩
theorem gat_good {rs : List (Int × Int)} {v : Int} (h : GoodR none rs) (hv : R64 v) : GoodR none (gat rs v) ∧ flat (gat rs v) = flat rs ++ [v] ∧ lastV none (gat rs v) = some v := by
  rcases snoc_or rs with rfl | ⟨a, ⟨u, c⟩, rfl⟩
  · exact ⟨⟨by simp, Int.le_refl 1, hv, trivial⟩, by simp [gat_nil, flat], rfl⟩
  · obtain ⟨h1, h2⟩ := GoodR.append.1 h
    by_cases huv : u = v
    · subst huv
      rw [gat_same, lastV_snoc]
      refine ⟨GoodR.append.2 ⟨h1, h2.1, by have := h2.2.1; show 1 ≤ c + 1; simp at this; omega, h2.2.2.1, trivial⟩, ?_, rfl⟩
      have hc := h2.2.1
      simp at hc
      rw [flat_append, flat_append, List.append_assoc]
      congr 1
      simp only [flat, List.map_cons, List.map_nil, List.flatten_cons, List.flatten_nil, List.append_nil]
      rw [show (c + 1).toNat = c.toNat + 1 from by omega, List.replicate_succ']
    · rw [gat_new huv, lastV_snoc]
      refine ⟨GoodR.append.2 ⟨h, by rw [lastV_snoc]; simpa using huv, Int.le_refl 1, hv, trivial⟩, ?_, rfl⟩
      rw [flat_append]
      rfl
def R64s (vs : List Int) : Prop := ∀ v ∈ vs, R64 v
theorem foldl_good {vs : List Int} : ∀ {rs : List (Int × Int)}, GoodR none rs → R64s vs → GoodR none (vs.foldl gat rs) ∧ flat (vs.foldl gat rs) = flat rs ++ vs := by
  induction vs with
  | nil => intro rs h _; exact ⟨h, by simp⟩
  | cons v r ih =>
    intro rs h hv
    obtain ⟨h1, h2, _⟩ := gat_good h (hv v (by simp))
    obtain ⟨h3, h4⟩ := ih h1 (fun u hu => hv u (by simp [hu]))
    exact ⟨h3, by rw [List.foldl_cons, h4, h2]; simp⟩
theorem rsp_good {vs : List Int} (h : R64s vs) : GoodR none (rsp vs) := (foldl_good (rs := []) trivial h).1
theorem rsp_flat {vs : List Int} (h : R64s vs) : flat (rsp vs) = vs := (foldl_good (rs := []) trivial h).2
theorem flat_len_le {l : Option Int} {rs : List (Int × Int)} (h : GoodR l rs) : rs.length ≤ (flat rs).length ∧ ∀ r ∈ rs, r.2 ≤ (flat rs).length := by
  induction rs generalizing l with
  | nil => exact ⟨Nat.le_refl _, fun r hr => by cases hr⟩
  | cons q rs ih =>
    obtain ⟨h1, h2⟩ := ih h.2.2.2
    have hc := h.2.1
    rw [flat_cons, List.length_append, List.length_replicate]
    refine ⟨by rw [List.length_cons]; omega, fun r hr => ?_⟩
    rcases List.mem_cons.1 hr with rfl | hr
    · omega
    · have := h2 r hr; omega
theorem foldl_rep {rs : List (Int × Int)} {v : Int} (h : lastV none rs ≠ some v) (n : Nat) : (List.replicate (n + 1) v).foldl gat rs = rs ++ [(v, ((n + 1 : Nat) : Int))] := by
  induction n with
  | zero =>
    rcases snoc_or rs with rfl | ⟨a, ⟨u, c⟩, rfl⟩
    · rfl
    · rw [lastV_snoc] at h
      rw [show List.replicate (0 + 1) v = [v] from rfl, List.foldl_cons, List.foldl_nil, gat_new (by simpa using h)]
      rfl
  | succ n ih => rw [List.replicate_succ', List.foldl_append, ih, List.foldl_cons, List.foldl_nil, gat_same]; congr 2
theorem foldl_flat {rs : List (Int × Int)} : ∀ {acc : List (Int × Int)}, GoodR (lastV none acc) rs → (flat rs).foldl gat acc = acc ++ rs := by
  induction rs with
  | nil => intro acc _; simp [flat]
  | cons q rs ih =>
    intro acc h
    obtain ⟨v, c⟩ := q
    have hc := h.2.1
    simp at hc
    obtain ⟨m, hm⟩ : ∃ m : Nat, c = ((m + 1 : Nat) : Int) := ⟨c.toNat - 1, by omega⟩
    subst hm
    rw [flat_cons, List.foldl_append]
    simp only [Int.toNat_natCast]
    rw [foldl_rep h.1 m, ih (by rw [lastV_snoc]; exact h.2.2.2)]
    simp
theorem rsp_of_flat {rs : List (Int × Int)} (h : GoodR none rs) : rsp (flat rs) = rs := foldl_flat (acc := []) h
theorem last_rep (vs : List Int) (v : Int) (n : Nat) : (vs ++ List.replicate (n + 1) v).getLast? = some v := by
  rw [List.replicate_succ', ← List.append_assoc, List.getLast?_append]; simp
def encL (rs : List (Int × Int)) : List Nat := (rs.map fun r => vput (foldS r.1).toNat ++ vput r.2.toNat).flatten
theorem encL_nil : encL [] = [] := rfl
theorem encL_cons (r : Int × Int) (rs : List (Int × Int)) : encL (r :: rs) = vput (foldS r.1).toNat ++ (vput r.2.toNat ++ encL rs) := by simp [encL]
theorem encL_snoc (rs : List (Int × Int)) (r : Int × Int) : encL (rs ++ [r]) = encL rs ++ vput (foldS r.1).toNat ++ vput r.2.toNat := by simp [encL]
def encR (rs : List (Int × Int)) : List Nat := vput rs.length ++ encL rs
def decR (bs : List Nat) : Nat → List Int → Int → List Int × Int
  | 0, vs, a => if a < (bs.length : Int) then ([], 3) else (vs, 0)
  | m + 1, vs, a =>
    if (vget bs a).2.2 ≠ 0 then ([], (vget bs a).2.2) else
    if (vget bs (vget bs a).2.1).2.2 ≠ 0 then ([], (vget bs (vget bs a).2.1).2.2) else
    if (vget bs (vget bs a).2.1).1 = 0 ∨ vs.getLast? = some (unfS (vget bs a).1) then ([], 5) else
    if 4096 - (vs.length : Int) < (vget bs (vget bs a).2.1).1 then ([], 4) else
    decR bs m (vs ++ List.replicate (vget bs (vget bs a).2.1).1 (unfS (vget bs a).1)) (vget bs (vget bs a).2.1).2.1
def decode8 (bs : List Nat) : List Int × Int :=
  if (vget bs 0).2.2 ≠ 0 then ([], (vget bs 0).2.2) else if 4096 < (vget bs 0).1 then ([], 4) else decR bs (vget bs 0).1 [] (vget bs 0).2.1
theorem unf_range {u : Nat} (h : u < 18446744073709551616) : R64 (unfS u) := by unfold R64 unfS; split <;> omega
theorem fold_range {v : Int} (h : R64 v) : 0 ≤ foldS v ∧ foldS v < 18446744073709551616 := by unfold R64 at h; unfold foldS; split <;> omega
theorem unf_fold (v : Int) : unfS (foldS v) = v := by unfold unfS foldS; split <;> split <;> omega
theorem fold_unf {u : Int} (h : 0 ≤ u) : foldS (unfS u) = u := by unfold unfS foldS; split <;> split <;> omega
theorem vget_put {bs rest : List Nat} {a u : Nat} (hu : u < 18446744073709551616) (ha : a ≤ bs.length) (h : bs.drop a = vput u ++ rest) :
    vget bs (a : Int) = (u, (a : Int) + (vput u).length, 0) ∧ a + (vput u).length ≤ bs.length ∧ bs.drop (a + (vput u).length) = rest := by
  refine ⟨?_, ?_, ?_⟩
  · rw [vput_len]
    exact vget_ok ha (by rw [h]; exact vgetF_vput hu rest)
  · have := congrArg List.length h
    rw [List.length_drop, List.length_append] at this
    omega
  · rw [← List.drop_drop, h, List.drop_left]
theorem decR_enc {bs rest : List Nat} {rs : List (Int × Int)} : ∀ {vs : List Int} {a : Nat}, a ≤ bs.length → bs.drop a = encL rs ++ rest → GoodR vs.getLast? rs → vs.length + (flat rs).length ≤ 4096 →
    decR bs rs.length vs (a : Int) = if rest = [] then (vs ++ flat rs, 0) else ([], 3) := by
  induction rs with
  | nil =>
    intro vs a ha hd _ _
    have hl := congrArg List.length hd
    rw [encL_nil, List.nil_append, List.length_drop] at hl
    rw [List.length_nil, decR]
    by_cases hr : rest = []
    · subst hr
      rw [if_pos rfl, if_neg (by simp at hl; omega)]
      simp [flat]
    · rw [if_neg hr, if_pos]
      have : 0 < rest.length := List.length_pos_iff.2 hr
      omega
  | cons r rs ih =>
    intro vs a ha hd hg hl
    obtain ⟨v, c⟩ := r
    have hc := hg.2.1
    simp at hc
    obtain ⟨m, hm⟩ : ∃ m : Nat, c = ((m + 1 : Nat) : Int) := ⟨c.toNat - 1, by omega⟩
    subst hm
    obtain ⟨f0, f1⟩ := fold_range hg.2.2.1
    simp only at f0 f1
    obtain ⟨u, hu⟩ : ∃ u : Nat, foldS v = (u : Int) := ⟨(foldS v).toNat, by omega⟩
    have huv : unfS (u : Int) = v := by rw [← hu, unf_fold]
    rw [flat_cons, List.length_append, List.length_replicate] at hl
    simp only [Int.toNat_natCast] at hl
    rw [encL_cons, List.append_assoc, List.append_assoc] at hd
    simp only [Int.toNat_natCast, hu] at hd
    obtain ⟨g1, b1, d1⟩ := vget_put (by omega) ha hd
    obtain ⟨g2, b2, d2⟩ := vget_put (by omega) b1 d1
    rw [Int.natCast_add] at g2
    rw [List.length_cons, decR, g1]
    simp only [ne_eq, not_true_eq_false, if_false]
    rw [g2]
    simp only [not_true_eq_false, if_false]
    rw [huv, if_neg (by rintro (h | h); omega; exact hg.1 h), if_neg (by omega)]
    rw [show (a : Int) + ((vput u).length : Int) + ((vput (m + 1)).length : Int) = ((a + (vput u).length + (vput (m + 1)).length : Nat) : Int) from by omega]
    rw [ih b2 d2 (by rw [last_rep]; exact hg.2.2.2) (by rw [List.length_append, List.length_replicate]; omega), flat_cons]
    simp
theorem encR_len (rs : List (Int × Int)) : (encR rs).length = (vput rs.length).length + (encL rs).length := by rw [encR, List.length_append]
theorem decode8_enc {rs : List (Int × Int)} (rest : List Nat) (h : GoodR none rs) (hl : (flat rs).length ≤ 4096) : decode8 (encR rs ++ rest) = if rest = [] then (flat rs, 0) else ([], 3) := by
  have hn := (flat_len_le h).1
  obtain ⟨g1, b1, d1⟩ := vget_put (bs := encR rs ++ rest) (a := 0) (u := rs.length) (rest := encL rs ++ rest) (by omega) (Nat.zero_le _) (by rw [List.drop_zero, encR, List.append_assoc])
  rw [decode8, show (0 : Int) = ((0 : Nat) : Int) from rfl, g1]
  simp only [ne_eq]
  rw [← Int.natCast_add, decR_enc (vs := []) b1 d1 h (by simpa using hl), if_neg (by simp), if_neg (by omega)]
  simp
theorem decR_only {bs : List Nat} (hb : U8 bs) : ∀ {m : Nat} {vs out : List Int} {a : Int}, 0 ≤ a → a ≤ bs.length → vs.length ≤ 4096 → decR bs m vs a = (out, 0) →
    ∃ rs, rs.length = m ∧ GoodR vs.getLast? rs ∧ out = vs ++ flat rs ∧ bs.drop a.toNat = encL rs ∧ out.length ≤ 4096 := by
  intro m
  induction m with
  | zero =>
    intro vs out a h0 ha hl h
    rw [decR] at h
    by_cases hlt : a < (bs.length : Int)
    · rw [if_pos hlt] at h; injection h with _ h; exact absurd h (by decide)
    · rw [if_neg hlt] at h
      injection h with h _
      subst h
      exact ⟨[], rfl, trivial, by simp [flat], by rw [List.drop_of_length_le (by omega)]; rfl, hl⟩
  | succ m ih =>
    intro vs out a h0 ha hl h
    rcases hg1 : vget bs a with ⟨u, a1, e1⟩
    rw [decR, hg1] at h
    simp only at h
    by_cases he1 : e1 = 0
    · subst he1
      rcases hg2 : vget bs a1 with ⟨k, a2, e2⟩
      rw [hg2] at h
      simp only [ne_eq, not_true_eq_false, if_false] at h
      by_cases he2 : e2 = 0
      · subst he2
        simp only [not_true_eq_false, if_false] at h
        by_cases h3 : k = 0 ∨ vs.getLast? = some (unfS u)
        · rw [if_pos h3] at h; injection h with _ h; exact absurd h (by decide)
        rw [if_neg h3] at h
        by_cases h4 : 4096 - (vs.length : Int) < k
        · rw [if_pos h4] at h; injection h with _ h; exact absurd h (by decide)
        rw [if_neg h4] at h
        obtain ⟨p1, p2, p3, p4, p5⟩ := vget_at hb hg1
        obtain ⟨q1, q2, q3, q4, q5⟩ := vget_at hb hg2
        obtain ⟨t, rfl⟩ : ∃ t, k = t + 1 := ⟨k - 1, by omega⟩
        obtain ⟨rs, r1, r2, r3, r4, r5⟩ := ih (by omega) q3 (by rw [List.length_append, List.length_replicate]; omega) h
        rw [last_rep] at r2
        refine ⟨(unfS u, ((t + 1 : Nat) : Int)) :: rs, by rw [List.length_cons, r1], ⟨fun hh => h3 (.inr hh), by show (1 : Int) ≤ ((t + 1 : Nat) : Int); omega, unf_range p4, r2⟩, ?_, ?_, r5⟩
        · rw [r3, flat_cons]; simp
        · rw [encL_cons, ← r4]
          simp only [Int.toNat_natCast]
          rw [fold_unf (by omega), Int.toNat_natCast, p5, q5, show a1.toNat = a.toNat + (a1.toNat - a.toNat) from by omega, ← List.drop_drop]
          generalize hD : bs.drop a.toNat = D
          rw [show a2.toNat = a.toNat + ((a1.toNat - a.toNat) + (a2.toNat - a1.toNat)) from by omega, ← List.drop_drop, hD, ← List.drop_drop]
          rw [show a.toNat + (a1.toNat - a.toNat) - a.toNat = a1.toNat - a.toNat from by omega, show a.toNat + (a1.toNat - a.toNat + (a2.toNat - a1.toNat)) - (a.toNat + (a1.toNat - a.toNat)) = a2.toNat - a1.toNat from by omega]
          rw [List.take_append_drop, List.take_append_drop]
      · rw [if_pos he2] at h; injection h with _ h; exact absurd h he2
    · rw [if_pos he1] at h; injection h with _ h; exact absurd h he1
theorem decode8_only {bs : List Nat} {vs : List Int} (hb : U8 bs) (h : decode8 bs = (vs, 0)) : ∃ rs, GoodR none rs ∧ vs = flat rs ∧ bs = encR rs ∧ vs.length ≤ 4096 ∧ rs = rsp vs := by
  rcases hg : vget bs 0 with ⟨m, a, e⟩
  rw [decode8, hg] at h
  simp only at h
  by_cases he : e = 0
  · subst he
    simp only [ne_eq, not_true_eq_false, if_false] at h
    by_cases hm : 4096 < m
    · rw [if_pos hm] at h; injection h with _ h; exact absurd h (by decide)
    rw [if_neg hm] at h
    obtain ⟨p1, p2, p3, p4, p5⟩ := vget_at hb hg
    obtain ⟨rs, r1, r2, r3, r4, r5⟩ := decR_only hb (by omega) p3 (by simp) h
    rw [List.nil_append] at r3
    refine ⟨rs, r2, r3, ?_, r5, by rw [r3, rsp_of_flat r2]⟩
    rw [encR, r1, p5, ← r4]
    simp
  · rw [if_pos he] at h; injection h with _ h; exact absurd h he
def split8 (vs : List Int) : List (Int × Int) × Int := if 4096 < vs.length then ([], 4) else (rsp vs, 0)
def encode8 (vs : List Int) : List Nat × Int := if 4096 < vs.length then ([], 4) else (encR (rsp vs), 0)
set_option maxHeartbeats 400000 in
theorem power_nat (k : Nat) (w : World) (hk : k ≤ 63) :
    Calls Tryz.prog 160 #[.int .i64 k] w fun e w' => e = .returned (.int .u64 (pw k)) ∧ w' = w := by
  go_enter Tryz.func160, Tryz.ntmps160
  go_wp2
  go_loop [3, 4] (fun p i => ∃ j : Nat, j ≤ k ∧ i = .int .i64 j ∧ p = .int .u64 (pw j)) (fun _ i => k - (intOf i).toNat)
  case atStart => exact ⟨0, by omega, rfl, rfl⟩
  case round =>
    obtain ⟨j, hj, rfl, rfl⟩ := hrel
    by_cases hlt : j < k
    · go_wp2
      go_round
      case rel =>
        refine ⟨j + 1, by omega, by go_num, ?_⟩
        have h1 := pw_succ j
        have h2 := pw_le (show j + 1 ≤ 63 by omega)
        rw [pw_63] at h2
        rw [pw_succ, IntKind.wrap_u64, Int.emod_eq_of_lt (by omega) (by omega)]; go_num
      case measure => simp [intOf]; omega
    · obtain rfl : j = k := by omega
      go_wp2
      go_ret
      exact ⟨rfl, rfl⟩
theorem power_any (k : Int) (w : World) (h0 : 0 ≤ k) (hk : k ≤ 63) :
    Calls Tryz.prog 160 #[.int .i64 k] w fun e w' => e = .returned (.int .u64 (pw k.toNat)) ∧ w' = w := by
  obtain ⟨n, rfl⟩ := Int.eq_ofNat_of_zero_le h0
  exact power_nat n w (by omega)
end Go.Proofs.YthibbgmicmfkfaaGreat
-- part B1p
namespace Go.Proofs.YthibbgmicmfkfaaGreat
open Go.RowKit
set_option maxRecDepth 100000
def bitAt (N k : Nat) : Nat := N / 2 ^ k % 2
def dig (N at_ w : Nat) : Nat := N / 2 ^ at_ % 2 ^ w
theorem bitAt_lt (N k : Nat) : bitAt N k < 2 := Nat.mod_lt _ (by omega)
theorem dig_zero (N a : Nat) : dig N a 0 = 0 := by simp [dig, Nat.mod_one]
theorem dig_lt (N a w : Nat) : dig N a w < 2 ^ w := Nat.mod_lt _ (Nat.two_pow_pos w)
end Go.Proofs.YthibbgmicmfkfaaGreat
-- part B2p
namespace Go.Proofs.YthibbgmicmfkfaaGreat
open Go.RowKit
def unpE (N len : Nat) (wd cnt : Int) : Int :=
  if wd < 0 ∨ 64 < wd ∨ cnt < 0 ∨ 4096 < cnt then 1 else if 8 * (len : Int) < wd * cnt then 2 else if 8 ≤ 8 * (len : Int) - wd * cnt then 3 else if 2 ^ (wd * cnt).toNat ≤ N then 5 else 0
def unpL (N len : Nat) (wd cnt : Int) : List Nat := if unpE N len wd cnt = 0 then upk wd.toNat cnt.toNat N else []
theorem unp_err {N len : Nat} {wd cnt r : Int} (h : unpE N len wd cnt = r) (hr : r ≠ 0) : unpL N len wd cnt = [] := by unfold unpL; rw [h, if_neg hr]
theorem unp_ok {N len : Nat} {wd cnt : Int} (h : unpE N len wd cnt = 0) : unpL N len wd cnt = upk wd.toNat cnt.toNat N := by unfold unpL; rw [h, if_pos rfl]
def UnpPost (N len : Nat) (wd cnt : Int) (w : World) (e : Ending) (w' : World) : Prop :=
  ∃ A' c', e = .returned (.tuple #[.slice A' (unpL N len wd cnt).length c', .int .i64 (unpE N len wd cnt)]) ∧ Own .u64 69 w' w.heap.size A' c' (unpL N len wd cnt) ∧ Ext w w'
theorem UnpPost.err {N len : Nat} {wd cnt r : Int} {w w' : World} (h : unpE N len wd cnt = r) (hr : r ≠ 0) (he : Ext w w') : UnpPost N len wd cnt w (.returned (.tuple #[.slice none 0 0, .int .i64 r])) w' := by
  refine ⟨none, 0, ?_, ?_, he⟩
  · rw [unp_err h hr, h]; rfl
  · rw [unp_err h hr]; exact Own.nil ..
theorem UnpPost.ok {N len m : Nat} {wd cnt : Int} {w w' : World} {A : Option Addr} {c : Nat} (h : unpE N len wd cnt = 0) (hm : cnt.toNat = m) (ho : Own .u64 69 w' w.heap.size A c (upk wd.toNat m N)) (he : Ext w w') :
    UnpPost N len wd cnt w (.returned (.tuple #[.slice A m c, .int .i64 0])) w' := by
  subst hm
  refine ⟨A, c, ?_, ?_, he⟩
  · rw [unp_ok h, h, upk_len]
  · rw [unp_ok h]; exact ho
theorem unpE_bad {N len : Nat} {wd cnt : Int} (h : wd < 0 ∨ 64 < wd ∨ cnt < 0 ∨ 4096 < cnt) : unpE N len wd cnt = 1 := if_pos h
theorem unpE_short {N len : Nat} {wd cnt : Int} (h : ¬ (wd < 0 ∨ 64 < wd ∨ cnt < 0 ∨ 4096 < cnt)) (h2 : 8 * (len : Int) < wd * cnt) : unpE N len wd cnt = 2 := by unfold unpE; rw [if_neg h, if_pos h2]
theorem unpE_trail {N len : Nat} {wd cnt : Int} (h : ¬ (wd < 0 ∨ 64 < wd ∨ cnt < 0 ∨ 4096 < cnt)) (h2 : ¬ 8 * (len : Int) < wd * cnt) (h3 : 8 ≤ 8 * (len : Int) - wd * cnt) : unpE N len wd cnt = 3 := by unfold unpE; rw [if_neg h, if_neg h2, if_pos h3]
theorem unpE_form {N len : Nat} {wd cnt : Int} (h : ¬ (wd < 0 ∨ 64 < wd ∨ cnt < 0 ∨ 4096 < cnt)) (h2 : ¬ 8 * (len : Int) < wd * cnt) (h3 : ¬ 8 ≤ 8 * (len : Int) - wd * cnt) (h4 : 2 ^ (wd * cnt).toNat ≤ N) : unpE N len wd cnt = 5 := by
  unfold unpE; rw [if_neg h, if_neg h2, if_neg h3, if_pos h4]
theorem unpE_ok {N len : Nat} {wd cnt : Int} (h : ¬ (wd < 0 ∨ 64 < wd ∨ cnt < 0 ∨ 4096 < cnt)) (h2 : ¬ 8 * (len : Int) < wd * cnt) (h3 : ¬ 8 ≤ 8 * (len : Int) - wd * cnt) (h4 : ¬ 2 ^ (wd * cnt).toNat ≤ N) : unpE N len wd cnt = 0 := by
  unfold unpE; rw [if_neg h, if_neg h2, if_neg h3, if_neg h4]
end Go.Proofs.YthibbgmicmfkfaaGreat
-- part B3p
namespace Go.Proofs.YthibbgmicmfkfaaGreat
open Go.RowKit
set_option maxHeartbeats 400000 in
theorem width_any (A : Option Addr) (n c : Nat) (vs : List Nat) (w : World) (hx : Rd .u64 w A n vs) (hu : U64 vs) (hn : n ≤ 140737488355328) :
    Calls Tryz.prog 169 #[.slice A n c] w fun e w' => e = .returned (.int .i64 (wdt vs)) ∧ w = w' := by
  have hl := hx.len
  have Hl := Lib.hid hl
  clear hl
  go_enter Tryz.func169, Tryz.ntmps169
  go_wp2_with fail
  go_loop [3, 7] (fun v i => ∃ j : Nat, j ≤ n ∧ i = .int .i64 j ∧ v = .int .u64 (orAll (vs.take j))) (fun _ i => n - (intOf i).toNat)
  case atStart => exact ⟨0, Nat.zero_le _, rfl, rfl⟩
  case round =>
    obtain ⟨j, hj, rfl, rfl⟩ := hrel
    by_cases hlt : j < n
    · obtain ⟨b, o, rfl, hb, hc⟩ := hx.at_ hlt
      have h1 := orAll_lt (vs := vs.take j) (fun v hv => hu v (List.mem_of_mem_take hv))
      have h2 := hu.at_ j
      have Ht := Lib.hid (take_next vs j (by have := Hl.out; omega))
      obtain ⟨x, hx'⟩ : ∃ x, x = vs.getD j 0 := ⟨_, rfl⟩
      rw [← hx'] at hc h2 Ht
      have hor := u64_or_nat _ _ h1 h2
      clear hx'
      go_wp2
      go_round
      case rel => exact ⟨j + 1, by omega, by go_num, by rw [Ht.out, orAll_snoc]⟩
      case measure => simp [intOf]; omega
    · obtain rfl : j = n := by omega
      have h1 := orAll_lt hu
      rw [List.take_of_length_le (Nat.le_of_eq Hl.out)]
      go_wp2_with (go_at_call 201; refine (len64_any _ _ h1).mono ?_; rintro e w1 ⟨rfl, rfl⟩)
      go_ret
      exact ⟨by rw [← orAll_bl]; rfl, rfl⟩
set_option maxHeartbeats 400000 in
theorem refWidth_any (A : Option Addr) (n c : Nat) (vs : List Nat) (w : World) (hx : Rd .u64 w A n vs) (hu : U64 vs) (hn : n ≤ 140737488355328) :
    Calls Tryz.prog 84 #[.slice A n c] w fun e w' => e = .returned (.int .i64 (wdt vs)) ∧ w = w' := by
  have hl := hx.len
  have Hl := Lib.hid hl
  clear hl
  go_enter Tryz.func84, Tryz.ntmps84
  go_wp2_with fail
  go_loop [3, 4] (fun v i => ∃ j : Nat, j ≤ n ∧ i = .int .i64 j ∧ v = .int .i64 (wdt (vs.take j))) (fun _ i => n - (intOf i).toNat)
  case atStart => exact ⟨0, Nat.zero_le _, rfl, rfl⟩
  case round =>
    obtain ⟨j, hj, rfl, rfl⟩ := hrel
    by_cases hlt : j < n
    · obtain ⟨b, o, rfl, hb, hc⟩ := hx.at_ hlt
      have h2 := hu.at_ j
      have Ht := Lib.hid (take_next vs j (by have := Hl.out; omega))
      obtain ⟨x, hx'⟩ : ∃ x, x = vs.getD j 0 := ⟨_, rfl⟩
      rw [← hx'] at hc h2 Ht
      clear hx'
      go_wp2_with fail
      have h64 := bl_64 h2
      go_loop [5, 6] (fun m v => ∃ k y : Nat, m = .int .i64 k ∧ v = .int .u64 y ∧ Hid (bl x = bl y + k) ∧ k ≤ 64 ∧ y < 18446744073709551616) (fun m v => (intOf v).toNat)
      case atStart => exact ⟨0, x, rfl, rfl, rfl, by omega, h2⟩
      case round =>
        obtain ⟨k, y, rfl, rfl, Hk, hk64, hy⟩ := hrel
        by_cases hy0 : 0 < y
        · have Hb := Lib.hid (bl_half hy0)
          have hk2 : k + 1 ≤ 64 := by have := Hb.out; have := Hk.out; omega
          go_wp2
          go_round
          case rel => exact ⟨k + 1, y / 2, by go_num, by go_num, by have := Hb.out; have := Hk.out; show bl x = _; omega, hk2, by omega⟩
          case measure => simp [intOf]; omega
        · obtain rfl : y = 0 := by omega
          have hk3 : bl x = k := by have := Hk.out; rw [bl_zero] at this; omega
          have Hk3 := Lib.hid hk3
          clear hk3
          by_cases hg : wdt (vs.take j) < k
          · go_wp2
            go_round
            case rel => exact ⟨j + 1, by omega, by go_num, by rw [Ht.out, wdt_snoc, Hk3.out, Nat.max_eq_right (by omega)]⟩
            case measure => simp [intOf]; omega
          · go_wp2
            go_round
            case rel => exact ⟨j + 1, by omega, by go_num, by rw [Ht.out, wdt_snoc, Hk3.out, Nat.max_eq_left (by omega)]⟩
            case measure => simp [intOf]; omega
    · obtain rfl : j = n := by omega
      rw [List.take_of_length_le (Nat.le_of_eq Hl.out)]
      go_wp2
      go_ret
      exact ⟨rfl, rfl⟩
end Go.Proofs.YthibbgmicmfkfaaGreat
-- part B4p
namespace Go.Proofs.YthibbgmicmfkfaaGreat
open Go.RowKit
theorem dig_le64 (N a j : Nat) (h : j ≤ 64) : dig N a j < 18446744073709551616 := Nat.lt_of_lt_of_le (dig_lt _ _ _) (Nat.pow_le_pow_right (by omega) h)
theorem byte_from (N k : Nat) : N / 2 ^ (8 * (k / 8)) % 2 ^ 8 / 2 ^ (k % 8) = N / 2 ^ k % 2 ^ (8 - k % 8) := by
  have h2 : 2 ^ 8 = 2 ^ (k % 8) * 2 ^ (8 - k % 8) := by rw [← Nat.pow_add]; congr 1; omega
  rw [h2, Nat.mod_mul_right_div_self, Nat.div_div_eq_div_mul, ← Nat.pow_add, show 8 * (k / 8) + k % 8 = k from by omega]
theorem dig_more (N a j m : Nat) : dig N a (j + m) = dig N a j + 2 ^ j * (N / 2 ^ (a + j) % 2 ^ m) := by
  unfold dig
  rw [Nat.pow_add, Nat.mod_mul, Nat.div_div_eq_div_mul, ← Nat.pow_add]
theorem shl_mod (y m j : Nat) (hj : j ≤ 64) : y % 2 ^ m * 2 ^ j % 18446744073709551616 = 2 ^ j * (y % 2 ^ (min (j + m) 64 - j)) := by
  have h1 : (18446744073709551616 : Nat) = 2 ^ (64 - j) * 2 ^ j := by rw [← Nat.pow_add, show 64 - j + j = 64 from by omega]
  rw [h1, Nat.mul_mod_mul_right, Nat.mul_comm]
  congr 1
  by_cases h : j + m ≤ 64
  · rw [Nat.min_eq_left h, show j + m - j = m from by omega, Nat.mod_eq_of_lt]
    exact Nat.lt_of_lt_of_le (Nat.mod_lt _ (Nat.two_pow_pos m)) (Nat.pow_le_pow_right (by omega) (by omega))
  · rw [Nat.min_eq_right (by omega)]
    exact Nat.mod_mod_of_dvd _ (Nat.pow_dvd_pow 2 (by omega))
theorem rd_step {N a j x : Nat} (hj : j < 64) (hx : x = N / 2 ^ (8 * ((a + j) / 8)) % 2 ^ 8) :
    bits .or .u64 (dig N a j : Int) (IntKind.u64.wrap (IntKind.u64.wrap ((x : Int) / 2 ^ ((a + j) % 8)) * 2 ^ j)) = (dig N a (min (j + (8 - (a + j) % 8)) 64) : Int) := by
  have hb := byte_from N (a + j)
  rw [← hx] at hb
  have e1 : ((x : Int) / 2 ^ ((a + j) % 8)) = ((x / 2 ^ ((a + j) % 8) : Nat) : Int) := by rw [Int.natCast_ediv]; norm_cast
  have hx8 : x < 256 := by rw [hx]; exact Nat.mod_lt _ (by omega)
  have hle : x / 2 ^ ((a + j) % 8) ≤ x := Nat.div_le_self _ _
  have e2 : IntKind.u64.wrap ((x / 2 ^ ((a + j) % 8) : Nat) : Int) = ((x / 2 ^ ((a + j) % 8) : Nat) : Int) := by
    generalize x / 2 ^ ((a + j) % 8) = y at *
    exact IntWalk.u64_in _ (by omega)
  have e3 : ((x / 2 ^ ((a + j) % 8) : Nat) : Int) * 2 ^ j = ((x / 2 ^ ((a + j) % 8) * 2 ^ j : Nat) : Int) := by norm_cast
  rw [e1, e2, e3, IntKind.wrap_u64, hb]
  have e4 : ∀ y : Nat, ((y : Int) % 18446744073709551616) = ((y % 18446744073709551616 : Nat) : Int) := fun y => by omega
  rw [e4, shl_mod _ _ _ (by omega)]
  have hm : min (j + (8 - (a + j) % 8)) 64 = j + (min (j + (8 - (a + j) % 8)) 64 - j) := by omega
  have hd := dig_more N a j (min (j + (8 - (a + j) % 8)) 64 - j)
  rw [← hm] at hd
  have h1 := dig_le64 N a j (by omega)
  have h2 := dig_le64 N a (min (j + (8 - (a + j) % 8)) 64) (by omega)
  have h3 := dig_lt N a j
  rw [hd] at h2 ⊢
  rw [u64_or_nat _ _ h1 (by omega), Nat.or_comm, nat_join j _ _ (Nat.mul_mod_right _ _) h3, Nat.add_comm]
theorem mask_eq (wd : Nat) (h : wd ≤ 64) : IntKind.u64.wrap (IntKind.u64.wrap ((2 : Int) ^ wd) - 1) = ((2 ^ wd - 1 : Nat) : Int) := by
  have e : ((2 : Int) ^ wd) = ((2 ^ wd : Nat) : Int) := by norm_cast
  rw [e]
  by_cases h64 : wd = 64
  · subst h64; decide
  · have h1 : 2 ^ wd ≤ 2 ^ 63 := Nat.pow_le_pow_right (by omega) (by omega)
    have h2 := Nat.two_pow_pos wd
    generalize 2 ^ wd = y at *
    rw [IntWalk.u64_in (y : Int) (by omega), IntWalk.u64_in _ (by omega)]
    omega
theorem mask_dig {N a j wd : Nat} (h : wd ≤ j) (hw : wd ≤ 64) : bits .and .u64 (dig N a (min j 64) : Int) (IntKind.u64.wrap (IntKind.u64.wrap ((2 : Int) ^ wd) - 1)) = (dig N a wd : Int) := by
  have h1 : 2 ^ wd ≤ 2 ^ 64 := Nat.pow_le_pow_right (by omega) hw
  have h2 := Nat.two_pow_pos wd
  rw [mask_eq wd hw, u64_and_nat _ _ (dig_le64 N a _ (by omega)) (by omega), Nat.and_two_pow_sub_one_eq_mod]
  unfold dig
  rw [Nat.mod_mod_of_dvd _ (Nat.pow_dvd_pow 2 (by omega))]
set_option maxHeartbeats 800000 in
theorem read_any (A : Option Addr) (n c : Nat) (a wd : Nat) (bs : List Nat) (w : World) (hx : Rd .u8 w A n bs) (hu : U8 bs) (hn : n ≤ 140737488355328) (hw : wd ≤ 64) (hk : a + wd ≤ 8 * n) :
    Calls Tryz.prog 188 #[.slice A n c, .int .u64 a, .int .i64 wd] w fun e w' => e = .returned (.int .u64 (dig (pk 8 bs) a wd)) ∧ w = w' := by
  go_enter Tryz.func188, Tryz.ntmps188
  go_wp2_with fail
  go_loop [7, 8, 9] (fun v i _ => ∃ j : Nat, j ≤ wd + 7 ∧ i = .int .i64 j ∧ v = .int .u64 (dig (pk 8 bs) a (min j 64))) (fun _ i _ => wd + 7 - (intOf i).toNat)
  case atStart => exact ⟨0, by omega, rfl, by rw [Nat.zero_min, dig_zero]; rfl⟩
  case round =>
    obtain ⟨j, hj, rfl, rfl⟩ := hrel
    by_cases hlt : j < wd
    · obtain ⟨b, o, rfl, hb, hc⟩ := hx.at_ (show (a + j) / 8 < n by omega)
      have h2 := hu.at_ ((a + j) / 8)
      have hp := pk_at (U8_wd.1 hu) ((a + j) / 8)
      have hd0 := dig_le64 (pk 8 bs) a j (by omega)
      rw [← hp] at hc h2
      obtain ⟨x, hx'⟩ : ∃ x, x = pk 8 bs / 2 ^ (8 * ((a + j) / 8)) % 2 ^ 8 := ⟨_, rfl⟩
      rw [← hx'] at hc h2
      have Hs := Lib.hid (rd_step (show j < 64 by omega) hx')
      rw [Nat.min_eq_left (show j ≤ 64 by omega)]
      obtain ⟨v, hv⟩ : ∃ v, v = dig (pk 8 bs) a j := ⟨_, rfl⟩
      rw [← hv] at hd0 ⊢ Hs
      clear hv hx' hp
      go_wp2
      go_round
      case rel => exact ⟨j + (8 - (a + j) % 8), by omega, by go_num, by rw [Hs.out]⟩
      case measure => simp [intOf]; omega
    · have Hm := Lib.hid (mask_dig (N := pk 8 bs) (a := a) (show wd ≤ j by omega) hw)
      go_wp2
      go_ret
      exact ⟨ret_int Hm.out, rfl⟩
end Go.Proofs.YthibbgmicmfkfaaGreat
-- part B5p
namespace Go.Proofs.YthibbgmicmfkfaaGreat
open Go.RowKit
theorem isWidth_yes (wd : Int) (w : World) (h0 : 0 ≤ wd) (h1 : wd ≤ 64) :
    Calls Tryz.prog 168 #[.int .i64 wd] w fun e w' => e = .returned (.bool true) ∧ w = w' := by
  go_enter Tryz.func168, Tryz.ntmps168
  go_wp2
  go_ret
  exact ⟨rfl, rfl⟩
theorem isWidth_no (wd : Int) (w : World) (h : wd < 0 ∨ 64 < wd) :
    Calls Tryz.prog 168 #[.int .i64 wd] w fun e w' => e = .returned (.bool false) ∧ w = w' := by
  rcases h with h | h
  · go_enter Tryz.func168, Tryz.ntmps168
    go_wp2
    go_ret
    exact ⟨rfl, rfl⟩
  · have h2 : decide (wd ≤ 64) = false := by simp; omega
    by_cases h0 : 0 ≤ wd
    all_goals
      go_enter Tryz.func168, Tryz.ntmps168
      go_wp2
      go_ret
      exact ⟨rfl, rfl⟩
theorem place_any (wd i : Int) (w : World) (h0 : 0 ≤ wd) (h1 : wd ≤ 64) (h2 : 0 ≤ i) (h3 : i ≤ 9223372036854775807) (h4 : 0 ≤ wd * i) (h5 : wd * i ≤ 18446744073709551615) :
    Calls Tryz.prog 172 #[.int .i64 wd, .int .i64 i] w fun e w' => e = .returned (.int .u64 (wd * i)) ∧ w = w' := by
  go_enter Tryz.func172, Tryz.ntmps172
  go_wp2
  go_ret
  exact ⟨rfl, rfl⟩
theorem bytesFor_any (wd i : Int) (w : World) (h0 : 0 ≤ wd) (h1 : wd ≤ 64) (h2 : 0 ≤ i) (h3 : i ≤ 9223372036854775807) (h4 : 0 ≤ wd * i) (h5 : wd * i ≤ 9223372036854775807) :
    Calls Tryz.prog 170 #[.int .i64 wd, .int .i64 i] w fun e w' => e = .returned (.int .i64 ((wd * i + 7) / 8)) ∧ w = w' := by
  go_enter Tryz.func170, Tryz.ntmps170
  go_wp2_with (go_at_call 172; refine (place_any _ _ _ h0 h1 h2 h3 h4 (by omega)).mono ?_; rintro e w1 ⟨rfl, rfl⟩)
  go_ret
  exact ⟨rfl, rfl⟩
end Go.Proofs.YthibbgmicmfkfaaGreat
-- part B6p
namespace Go.Proofs.YthibbgmicmfkfaaGreat
open Go.RowKit
set_option maxRecDepth 100000
theorem top_bits {N len k : Nat} (hN : N < 2 ^ (8 * len)) (h1 : k ≤ 8 * len) (h2 : 8 * len - k < 8) (h3 : 0 < k % 8) : N / 2 ^ (8 * (k / 8)) % 2 ^ 8 / 2 ^ (k % 8) = N / 2 ^ k := by
  rw [byte_from]
  apply Nat.mod_eq_of_lt
  apply Nat.div_lt_of_lt_mul
  rw [← Nat.pow_add]
  rwa [show k + (8 - k % 8) = 8 * len from by omega]
theorem upk_step {w i N : Nat} {n : Nat} (h : i < n) : upk w (i + 1) N ++ List.replicate (n - (i + 1)) 0 = (upk w i N ++ List.replicate (n - i) 0).set i (dig N (w * i) w) := by
  rw [upk_snoc, List.set_append_right _ _ (by rw [upk_len]; omega), upk_len, Nat.sub_self]
  obtain ⟨m, hm⟩ : ∃ m, n - i = m + 1 := ⟨n - i - 1, by omega⟩
  rw [hm, show n - (i + 1) = m from by omega, List.replicate_succ, List.set_cons_zero, List.append_assoc]
  rfl
set_option maxHeartbeats 1600000 in
theorem unpack_any (A : Option Addr) (n c : Nat) (wd cnt : Int) (bs : List Nat) (w : World) (hx : Rd .u8 w A n bs) (hu : U8 bs) (hn : n ≤ 140737488355328) :
    Calls Tryz.prog 154 #[.slice A n c, .int .i64 wd, .int .i64 cnt] w (UnpPost (pk 8 bs) n wd cnt w) := by
  by_cases hw : wd < 0 ∨ 64 < wd
  · have HE := Lib.hid (unpE_bad (N := pk 8 bs) (len := n) (cnt := cnt) (show wd < 0 ∨ 64 < wd ∨ cnt < 0 ∨ 4096 < cnt by omega))
    go_enter Tryz.func154, Tryz.ntmps154
    go_wp2_with (go_at_call 168; refine (isWidth_no _ _ hw).mono ?_; rintro e w1 ⟨rfl, rfl⟩)
    go_ret2
    exact UnpPost.err HE.out (by decide) (Ext.refl _)
  · have hw0 : 0 ≤ wd := by omega
    have hw1 : wd ≤ 64 := by omega
    by_cases hbad : cnt < 0 ∨ 4096 < cnt
    · have HE := Lib.hid (unpE_bad (N := pk 8 bs) (len := n) (cnt := cnt) (show wd < 0 ∨ 64 < wd ∨ cnt < 0 ∨ 4096 < cnt by omega))
      clear hw
      by_cases hc : cnt < 0
      · clear hbad
        go_enter Tryz.func154, Tryz.ntmps154
        go_wp2_with (go_at_call 168; refine (isWidth_yes _ _ hw0 hw1).mono ?_; rintro e w1 ⟨rfl, rfl⟩)
        go_ret2
        exact UnpPost.err HE.out (by decide) (Ext.refl _)
      · have hc2 : 4096 < cnt := by omega
        clear hbad
        go_enter Tryz.func154, Tryz.ntmps154
        go_wp2_with (go_at_call 168; refine (isWidth_yes _ _ hw0 hw1).mono ?_; rintro e w1 ⟨rfl, rfl⟩)
        go_ret2
        exact UnpPost.err HE.out (by decide) (Ext.refl _)
    · have hc0 : 0 ≤ cnt := by omega
      have hc1 : cnt ≤ 4096 := by omega
      have Hbad := Lib.hid (show ¬ (wd < 0 ∨ 64 < wd ∨ cnt < 0 ∨ 4096 < cnt) by omega)
      have hm0 : 0 ≤ wd * cnt := Int.mul_nonneg hw0 hc0
      have hm1 : wd * cnt ≤ 64 * 4096 := Int.mul_le_mul hw1 hc1 hc0 (by omega)
      obtain ⟨wn, rfl⟩ := Int.eq_ofNat_of_zero_le hw0
      obtain ⟨m, rfl⟩ := Int.eq_ofNat_of_zero_le hc0
      have hmul : (wn : Int) * (m : Int) = ((wn * m : Nat) : Int) := by norm_cast
      obtain ⟨k, hk⟩ : ∃ k, k = wn * m := ⟨_, rfl⟩
      rw [← hk] at hmul
      have hm2 : (wn : Int) * (m : Int) ≤ 9223372036854775807 := by omega
      have Hk := Lib.hid hk
      have Hmul := Lib.hid hmul
      have hkb : k ≤ 262144 := by omega
      clear hk hw hbad
      by_cases hs : 8 * n < k
      · have HE := Lib.hid (unpE_short (N := pk 8 bs) Hbad.out (show 8 * (n : Int) < (wn : Int) * (m : Int) by omega))
        have hlt : (n : Int) < ((k : Int) + 7) / 8 := by omega
        go_enter Tryz.func154, Tryz.ntmps154
        go_wp2_with (first | (go_at_call 168; refine (isWidth_yes _ _ hw0 hw1).mono ?_; rintro e w1 ⟨rfl, rfl⟩) | (go_at_call 170; refine (bytesFor_any _ _ _ hw0 hw1 hc0 (by omega) (by rw [Hmul.out]; omega) (by rw [Hmul.out]; omega)).mono ?_; rintro e w1 ⟨rfl, rfl⟩))
        go_ret2
        exact UnpPost.err HE.out (by decide) (Ext.refl _)
      · by_cases ht : 8 ≤ 8 * (n : Int) - (k : Int)
        · have HE := Lib.hid (unpE_trail (N := pk 8 bs) Hbad.out (show ¬ 8 * (n : Int) < (wn : Int) * (m : Int) by omega) (by omega))
          have hle : ((k : Int) + 7) / 8 < (n : Int) := by omega
          go_enter Tryz.func154, Tryz.ntmps154
          go_wp2_with (first | (go_at_call 168; refine (isWidth_yes _ _ hw0 hw1).mono ?_; rintro e w1 ⟨rfl, rfl⟩) | (go_at_call 170; refine (bytesFor_any _ _ _ hw0 hw1 hc0 (by omega) (by rw [Hmul.out]; omega) (by rw [Hmul.out]; omega)).mono ?_; rintro e w1 ⟨rfl, rfl⟩))
          go_ret2
          exact UnpPost.err HE.out (by decide) (Ext.refl _)
        · have HF := Lib.hid (fun h4 => unpE_form (N := pk 8 bs) Hbad.out (show ¬ 8 * (n : Int) < (wn : Int) * (m : Int) by omega) (by omega) h4)
          have HK := Lib.hid (fun h4 => unpE_ok (N := pk 8 bs) Hbad.out (show ¬ 8 * (n : Int) < (wn : Int) * (m : Int) by omega) (by omega) h4)
          have hat : ((wn : Int) * (m : Int)).toNat = k := by rw [hmul]; rfl
          rw [hat] at HF HK
          have hN : pk 8 bs < 2 ^ (8 * n) := by rw [← hx.len]; exact pk_lt (U8_wd.1 hu)
          have hneed : ((k : Int) + 7) / 8 = (n : Int) := by omega
          clear hat hs
          have hpl : (wn : Int) * (m : Int) ≤ 18446744073709551615 := by omega
          by_cases hform : 2 ^ k ≤ pk 8 bs
          · have HE := Lib.hid (HF.out hform)
            have hus : 0 < k % 8 := by
              rcases Nat.eq_zero_or_pos (k % 8) with h0 | h0
              · have : k = 8 * n := by omega
                rw [this] at hform
                omega
              · exact h0
            have htop := top_bits hN (show k ≤ 8 * n by omega) (by omega) hus
            have hk8 : k / 8 = n - 1 := by omega
            obtain ⟨b, o, rfl, hb, hc⟩ := hx.at_ (show n - 1 < n by omega)
            have hxb := hu.at_ (n - 1)
            rw [pk_at (U8_wd.1 hu), hk8] at htop
            obtain ⟨x, hx'⟩ : ∃ x, x = bs.getD (n - 1) 0 := ⟨_, rfl⟩
            rw [← hx'] at hc htop hxb
            have hpos : 0 < pk 8 bs / 2 ^ k := Nat.div_pos hform (Nat.two_pow_pos k)
            have hcast : ((x : Int) / 2 ^ (k % 8)) = ((x / 2 ^ (k % 8) : Nat) : Int) := by rw [Int.natCast_ediv]; norm_cast
            have hne : (((x : Int) / 2 ^ (k % 8)) != 0) = true := by rw [hcast, htop, bne_iff_ne]; omega
            have hn1 : (0 : Int) ≤ ((k : Int) + 7) / 8 - 1 := by omega
            have hn2 : ((k : Int) + 7) / 8 - 1 < (n : Int) := by omega
            have hn3 : (((k : Int) + 7) / 8 - 1).toNat = n - 1 := by omega
            clear hcast htop hpos hN hform hx' hmul
            go_enter Tryz.func154, Tryz.ntmps154
            go_wp2_with (first | (go_at_call 168; refine (isWidth_yes _ _ hw0 hw1).mono ?_; rintro e w1 ⟨rfl, rfl⟩) | (go_at_call 170; refine (bytesFor_any _ _ _ hw0 hw1 hc0 (by omega) (by rw [Hmul.out]; omega) (by rw [Hmul.out]; omega)).mono ?_; rintro e w1 ⟨rfl, rfl⟩; rw [Hmul.out]) | (go_at_call 172; refine (place_any _ _ _ hw0 hw1 hc0 (by omega) (by rw [Hmul.out]; omega) (by rw [Hmul.out]; omega)).mono ?_; rintro e w1 ⟨rfl, rfl⟩; rw [Hmul.out]))
            go_ret2
            exact UnpPost.err HE.out (by decide) (Ext.refl _)
          · have HE := Lib.hid (HK.out hform)
            have key : k % 8 = 0 ∨ (0 < k % 8 ∧ 0 < n ∧ ∃ b o x, A = some ⟨b, o, none⟩ ∧ w.cell? ⟨b, o + (n - 1), none⟩ = some (.int .u8 ((x : Nat) : Int)) ∧ (((x : Int) / 2 ^ (k % 8)) != 0) = false) := by
              rcases Nat.eq_zero_or_pos (k % 8) with h0 | hus
              · exact .inl h0
              · right
                have htop := top_bits hN (show k ≤ 8 * n by omega) (by omega) hus
                have hk8 : k / 8 = n - 1 := by omega
                obtain ⟨b, o, hA, hb, hc⟩ := hx.at_ (show n - 1 < n by omega)
                rw [pk_at (U8_wd.1 hu), hk8] at htop
                refine ⟨hus, by omega, b, o, _, hA, hc, ?_⟩
                have h0 : pk 8 bs / 2 ^ k = 0 := Nat.div_eq_of_lt (by omega)
                have hcast : ((bs.getD (n - 1) 0 : Int) / 2 ^ (k % 8)) = ((bs.getD (n - 1) 0 / 2 ^ (k % 8) : Nat) : Int) := by rw [Int.natCast_ediv]; norm_cast
                rw [hcast, htop, h0]
                rfl
            have hd64 : ∀ i, dig (pk 8 bs) (wn * i) wn ≤ 18446744073709551615 := fun i => by have := dig_le64 (pk 8 bs) (wn * i) wn (by omega); omega
            have hle8 : k ≤ 8 * n := by omega
            have Hd64 := Lib.hid hd64
            clear hN hform hmul hd64
            rcases key with hus | ⟨hus, hnp, b, o, x, rfl, hc, hne⟩
            all_goals
              go_enter Tryz.func154, Tryz.ntmps154
              go_wp2_with (first | (go_at_call 168; refine (isWidth_yes _ _ hw0 hw1).mono ?_; rintro e w1 ⟨rfl, rfl⟩) | (go_at_call 170; refine (bytesFor_any _ _ _ hw0 hw1 hc0 (by omega) (by rw [Hmul.out]; omega) (by rw [Hmul.out]; omega)).mono ?_; rintro e w1 ⟨rfl, rfl⟩; rw [Hmul.out]) | (go_at_call 172; refine (place_any _ _ _ hw0 hw1 hc0 (by omega) (by rw [Hmul.out]; omega) (by rw [Hmul.out]; omega)).mono ?_; rintro e w1 ⟨rfl, rfl⟩; rw [Hmul.out]) | (at_make; refine wpList_mk .u64 69 rfl _ _ 72 rfl 8 Tryz.underlying72 Tryz.infoU64 _ _ m rfl rfl rfl rfl (by omega) (by omega) ?_; intro w2 hown2 he2))
              have h0 : Own .u64 69 w2 w.heap.size (some ⟨w.heap.size, 0, none⟩) m (upk wn 0 (pk 8 bs) ++ List.replicate (m - 0) 0) := hown2
              clear hown2
              go_loopw [53] (fun i wr => ∃ j : Nat, j ≤ m ∧ i = .int .i64 j ∧ Own .u64 69 wr w.heap.size (some ⟨w.heap.size, 0, none⟩) m (upk wn j (pk 8 bs) ++ List.replicate (m - j) 0) ∧ Ext w wr) (fun i _ => m - (intOf i).toNat)
              case atStart => exact ⟨0, Nat.zero_le _, rfl, h0, he2⟩
              case round =>
                clear h0 he2
                obtain ⟨j, hj, rfl, hown, he⟩ := hrel
                by_cases hlt : j < m
                · have hle1 : wn * j + wn ≤ k := by
                    have := Nat.mul_le_mul_left wn (show j + 1 ≤ m by omega)
                    rw [Nat.mul_add, Nat.mul_one, ← Hk.out] at this
                    exact this
                  have hmj : (wn : Int) * (j : Int) = ((wn * j : Nat) : Int) := by norm_cast
                  have hmj0 : (0 : Int) ≤ (wn : Int) * (j : Int) := by omega
                  have hmj1 : (wn : Int) * (j : Int) ≤ 18446744073709551615 := by omega
                  have Hmj := Lib.hid hmj
                  have hxr := hx.ext he
                  obtain ⟨b2, hb2, hbase, hblt, hcell, hfro, hset⟩ := hown.at_ (show j < (upk wn j (pk 8 bs) ++ List.replicate (m - j) 0).length by rw [List.length_append, upk_len, List.length_replicate]; omega)
                  injection hb2 with hb2
                  injection hb2 with hb2
                  subst hb2
                  obtain ⟨hs1, hs2⟩ := hset (dig (pk 8 bs) (wn * j) wn)
                  rw [← upk_step hlt] at hs1
                  have Hs1 := Lib.hid hs1
                  have He := Lib.hid (he.setCell (p := ⟨w.heap.size, j, none⟩) (Nat.le_refl _) (.int .u64 (dig (pk 8 bs) (wn * j) wn : Int)))
                  obtain ⟨old, hold⟩ : ∃ v, v = Value.int .u64 (((upk wn j (pk 8 bs) ++ List.replicate (m - j) 0).getD j 0 : Nat) : Int) := ⟨_, rfl⟩
                  rw [← hold] at hcell
                  clear hold hs1 hs2 hset hmj hown he hbase
                  go_wp2_with (first | (go_at_call 172; refine (place_any _ _ _ hw0 hw1 (by omega) (by omega) hmj0 hmj1).mono ?_; rintro e w1 ⟨rfl, rfl⟩; rw [Hmj.out]) | (go_at_call 188; refine (read_any _ _ _ _ _ bs _ hxr hu hn (by omega) (by omega)).mono ?_; rintro e w1 ⟨rfl, rfl⟩))
                  go_roundw
                  case rel => exact ⟨j + 1, by omega, by go_num, Hs1.out, He.out⟩
                  case measure => simp [intOf]; omega
                · obtain rfl : j = m := by omega
                  rw [Nat.sub_self, List.replicate_zero, List.append_nil] at hown
                  go_wp2
                  go_ret2
                  exact UnpPost.ok HE.out (Int.toNat_natCast _) hown he
end Go.Proofs.YthibbgmicmfkfaaGreat
-- part B7p
namespace Go.Proofs.YthibbgmicmfkfaaGreat
open Go.RowKit
theorem lay_step {M v a j : Nat} (hM : M < 2 ^ a) :
    let P := M + 2 ^ a * (v % 2 ^ j)
    let d := v / 2 ^ j % 2 ^ (8 - (a + j) % 8) * 2 ^ ((a + j) % 8)
    P / 2 ^ (8 * ((a + j) / 8)) % 2 ^ 8 < 2 ^ ((a + j) % 8) ∧ d < 256 ∧ P / 2 ^ (8 * ((a + j) / 8)) % 2 ^ 8 + d < 256 ∧ M + 2 ^ a * (v % 2 ^ (j + (8 - (a + j) % 8))) = P + 2 ^ (8 * ((a + j) / 8)) * d := by
  intro P d
  have hs : (a + j) % 8 < 8 := Nat.mod_lt _ (by omega)
  have hk : 8 * ((a + j) / 8) + (a + j) % 8 = a + j := by omega
  have hP : P < 2 ^ (a + j) := by
    have h1 := Nat.mod_lt v (Nat.two_pow_pos j)
    rw [Nat.pow_add]
    calc P < 2 ^ a + 2 ^ a * (v % 2 ^ j) := by omega
      _ = 2 ^ a * (v % 2 ^ j + 1) := by rw [Nat.mul_succ, Nat.add_comm]
      _ ≤ 2 ^ a * 2 ^ j := Nat.mul_le_mul_left _ h1
  have hx : P / 2 ^ (8 * ((a + j) / 8)) < 2 ^ ((a + j) % 8) := by
    apply Nat.div_lt_of_lt_mul
    rw [← Nat.pow_add, hk]
    exact hP
  have hx2 := Nat.lt_of_le_of_lt (Nat.mod_le _ (2 ^ 8)) hx
  have h256 : 2 ^ (8 - (a + j) % 8) * 2 ^ ((a + j) % 8) = 256 := by rw [← Nat.pow_add, show 8 - (a + j) % 8 + (a + j) % 8 = 8 from by omega]
  have hd1 := Nat.mod_lt (v / 2 ^ j) (Nat.two_pow_pos (8 - (a + j) % 8))
  have hd2 : d + 2 ^ ((a + j) % 8) ≤ 256 := by
    have := Nat.mul_le_mul_right (2 ^ ((a + j) % 8)) (show v / 2 ^ j % 2 ^ (8 - (a + j) % 8) + 1 ≤ 2 ^ (8 - (a + j) % 8) from hd1)
    rw [h256, Nat.add_mul, Nat.one_mul] at this
    exact this
  refine ⟨hx2, by have := Nat.two_pow_pos ((a + j) % 8); omega, by omega, ?_⟩
  show _ = M + 2 ^ a * (v % 2 ^ j) + _
  rw [Nat.pow_add, Nat.mod_mul, Nat.mul_add, Nat.add_assoc]
  congr 2
  rw [← Nat.mul_assoc, ← Nat.pow_add]
  show 2 ^ (a + j) * _ = 2 ^ (8 * ((a + j) / 8)) * (v / 2 ^ j % 2 ^ (8 - (a + j) % 8) * 2 ^ ((a + j) % 8))
  rw [Nat.mul_comm (v / 2 ^ j % 2 ^ (8 - (a + j) % 8)), ← Nat.mul_assoc, ← Nat.pow_add, hk]
theorem lay_or {x v j s : Nat} (hs : s < 8) (hx : x < 2 ^ s) :
    bits .or .u8 (x : Int) (IntKind.u64.wrap ((v : Int) / 2 ^ j * 2 ^ s) % 256) = ((x + v / 2 ^ j % 2 ^ (8 - s) * 2 ^ s : Nat) : Int) := by
  have e1 : ((v : Int) / 2 ^ j * 2 ^ s) = ((v / 2 ^ j * 2 ^ s : Nat) : Int) := by norm_cast
  rw [e1, IntKind.wrap_u64]
  have h256 : (256 : Nat) = 2 ^ (8 - s) * 2 ^ s := by rw [← Nat.pow_add, show 8 - s + s = 8 from by omega]
  have e2 : v / 2 ^ j * 2 ^ s % 256 = v / 2 ^ j % 2 ^ (8 - s) * 2 ^ s := by rw [h256, Nat.mul_mod_mul_right]
  have hx8 : x < 256 := Nat.lt_of_lt_of_le hx (Nat.pow_le_pow_right (n := 2) (by omega) (show s ≤ 8 by omega))
  have hd : v / 2 ^ j % 2 ^ (8 - s) * 2 ^ s < 256 := by rw [← e2]; omega
  have hdm : v / 2 ^ j % 2 ^ (8 - s) * 2 ^ s % 2 ^ s = 0 := Nat.mul_mod_left _ _
  generalize v / 2 ^ j * 2 ^ s = Z at *
  generalize v / 2 ^ j % 2 ^ (8 - s) * 2 ^ s = d at *
  have e3 : (Z : Int) % 18446744073709551616 % 256 = (d : Int) := by omega
  rw [e3, u8_or_nat x d hx8 hd, Nat.or_comm, nat_join s d x hdm hx, Nat.add_comm]
set_option maxHeartbeats 1600000 in
theorem lay_any (A : Option Addr) (n c base a wd v M : Nat) (w : World) (hx : Own .u8 5 w base A c (upk 8 n M)) (hn : n ≤ 140737488355328) (hw : wd ≤ 64) (hk : a + wd ≤ 8 * n) (hv : v < 2 ^ wd) (hM : M < 2 ^ a) :
    Calls Tryz.prog 171 #[.slice A n c, .int .u64 a, .int .i64 wd, .int .u64 v] w fun e w' => e = .returned (.tuple #[]) ∧ Own .u8 5 w' base A c (upk 8 n (M + 2 ^ a * v)) ∧ w.grownBy w' (A.map (·.block)) := by
  have HM := Lib.hid hM
  have hv64 : v < 18446744073709551616 := Nat.lt_of_lt_of_le hv (Nat.pow_le_pow_right (by omega) hw)
  have Hv := Lib.hid hv
  clear hM hv
  go_enter Tryz.func171, Tryz.ntmps171
  go_wp2_with fail
  go_loopw [8, 9] (fun i _ wr => ∃ j : Nat, j ≤ wd + 7 ∧ i = .int .i64 j ∧ Own .u8 5 wr base A c (upk 8 n (M + 2 ^ a * (v % 2 ^ j))) ∧ w.grownBy wr (A.map (·.block))) (fun i _ _ => wd + 7 - (intOf i).toNat)
  case atStart => exact ⟨0, by omega, rfl, by rw [Nat.pow_zero, Nat.mod_one, Nat.mul_zero, Nat.add_zero]; exact hx, World.grownBy.refl _ _⟩
  case round =>
    obtain ⟨j, hj, rfl, hown, hg⟩ := hrel
    by_cases hlt : j < wd
    · obtain ⟨h1, h2, h3, h4⟩ := lay_step (M := M) (v := v) (a := a) (j := j) HM.out
      have hkn : (a + j) / 8 < n := by omega
      obtain ⟨b, rfl, hbb, hbl, hc, hf, hset⟩ := hown.at_ (show (a + j) / 8 < (upk 8 n (M + 2 ^ a * (v % 2 ^ j))).length by rw [upk_len]; exact hkn)
      rw [upk_at _ _ _ _ hkn] at hc
      obtain ⟨d, hd⟩ : ∃ d, d = v / 2 ^ j % 2 ^ (8 - (a + j) % 8) * 2 ^ ((a + j) % 8) := ⟨_, rfl⟩
      rw [← hd] at h2 h3 h4
      have hnew := upk_add (w := 8) (n := n) (N := M + 2 ^ a * (v % 2 ^ j)) hkn h3
      obtain ⟨x, hx'⟩ : ∃ x, x = (M + 2 ^ a * (v % 2 ^ j)) / 2 ^ (8 * ((a + j) / 8)) % 2 ^ 8 := ⟨_, rfl⟩
      rw [← hx'] at hc h1 h3 hnew
      have hor := lay_or (x := x) (v := v) (j := j) (Nat.mod_lt (a + j) (show 0 < 8 by omega)) h1
      rw [← hd] at hor
      obtain ⟨hs1, hs2⟩ := hset (x + d)
      rw [← hnew, ← h4] at hs1
      have Hs1 := Lib.hid hs1
      have Hg := Lib.hid (World.grownBy.trans hg hs2)
      have Hor := Lib.hid hor
      have f1 : IntKind.u64.wrap (((a : Int) + (j : Int)) / 8) = ((a : Int) + (j : Int)) / 8 := IntWalk.u64_in _ (by omega)
      have f2 : (((a : Int) + (j : Int)) / 8).toNat = (a + j) / 8 := by omega
      have f3 : (0 : Int) ≤ ((a : Int) + (j : Int)) / 8 := by omega
      have f4 : ((a : Int) + (j : Int)) / 8 < (n : Int) := by omega
      have f5 : ((a : Int) + (j : Int)).tmod 8 = ((a : Int) + (j : Int)) % 8 := Int.tmod_eq_emod_of_nonneg (by omega)
      have f6 : (((a : Int) + (j : Int)) % 8).toNat = (a + j) % 8 := by omega
      have f7 : (0 : Int) ≤ ((a : Int) + (j : Int)) % 8 := by omega
      clear hor hs1 hs2 hset hnew hx' hd hown hg h1 h2 h3 h4
      go_wp2_with fail
      go_region
      rw [Hor.out]
      go_wp2
      go_roundw
      case rel => exact ⟨j + (8 - (a + j) % 8), by omega, by go_num, Hs1.out.ext ((Ext.refl _).drew), ⟨Hg.out.os, Hg.out.tape, Hg.out.output, Hg.out.size, Hg.out.block⟩⟩
      case measure => simp [intOf]; omega
    · have hvm : v % 2 ^ j = v := Nat.mod_eq_of_lt (Nat.lt_of_lt_of_le Hv.out (Nat.pow_le_pow_right (by omega) (by omega)))
      rw [hvm] at hown
      go_wp2
      go_end0
      exact ⟨rfl, hown, hg⟩
end Go.Proofs.YthibbgmicmfkfaaGreat
-- part B8p
namespace Go.Proofs.YthibbgmicmfkfaaGreat
open Go.RowKit
def packE (wd : Int) (vs : List Nat) : Int := if wd < 0 ∨ 64 < wd then 1 else if 4096 < vs.length then 4 else if wd < (wdt vs : Int) then 10 else 0
def packB (wd : Nat) (vs : List Nat) : List Nat := upk 8 ((wd * vs.length + 7) / 8) (pk wd vs)
def packL (wd : Int) (vs : List Nat) : List Nat := if packE wd vs = 0 then packB wd.toNat vs else []
def PackPost (wd : Int) (vs : List Nat) (w : World) (e : Ending) (w' : World) : Prop :=
  ∃ A' c', e = .returned (.tuple #[.slice A' (packL wd vs).length c', .int .i64 (packE wd vs)]) ∧ Own .u8 5 w' w.heap.size A' c' (packL wd vs) ∧ Ext w w'
theorem PackPost.err {wd r : Int} {vs : List Nat} {w w' : World} (h : packE wd vs = r) (hr : r ≠ 0) (he : Ext w w') : PackPost wd vs w (.returned (.tuple #[.slice none 0 0, .int .i64 r])) w' := by
  have h0 : packL wd vs = [] := by unfold packL; rw [h, if_neg hr]
  refine ⟨none, 0, ?_, ?_, he⟩
  · rw [h0, h]; rfl
  · rw [h0]; exact Own.nil ..
theorem PackPost.ok {wd m : Nat} {vs : List Nat} {w w' : World} {A : Option Addr} {c : Nat} (h : packE wd vs = 0) (hm : m = (packB wd vs).length) (ho : Own .u8 5 w' w.heap.size A c (packB wd vs)) (he : Ext w w') :
    PackPost wd vs w (.returned (.tuple #[.slice A m c, .int .i64 0])) w' := by
  have h0 : packL wd vs = packB wd vs := by unfold packL; rw [h, if_pos rfl]; rfl
  refine ⟨A, c, ?_, ?_, he⟩
  · rw [h0, h, hm]
  · rw [h0]; exact ho
theorem packE_arg {wd : Int} {vs : List Nat} (h : wd < 0 ∨ 64 < wd) : packE wd vs = 1 := if_pos h
theorem packE_long {wd : Int} {vs : List Nat} (h : ¬ (wd < 0 ∨ 64 < wd)) (h2 : 4096 < vs.length) : packE wd vs = 4 := by unfold packE; rw [if_neg h, if_pos h2]
theorem packE_bits {wd : Int} {vs : List Nat} (h : ¬ (wd < 0 ∨ 64 < wd)) (h2 : ¬ 4096 < vs.length) (h3 : wd < (wdt vs : Int)) : packE wd vs = 10 := by unfold packE; rw [if_neg h, if_neg h2, if_pos h3]
theorem packE_ok {wd : Int} {vs : List Nat} (h : ¬ (wd < 0 ∨ 64 < wd)) (h2 : ¬ 4096 < vs.length) (h3 : ¬ wd < (wdt vs : Int)) : packE wd vs = 0 := by unfold packE; rw [if_neg h, if_neg h2, if_neg h3]
theorem Own.grown_ext {k : IntKind} {e : TypeId} {w0 w w' : World} {base c : Nat} {A : Option Addr} {xs : List Nat} (h : Own k e w base A c xs) (hE : Ext w0 w) (hb : w0.heap.size ≤ base) (hg : w.grownBy w' (A.map (·.block))) : Ext w0 w' :=
  grownBy_ext hE hg (by
    intro g hg
    cases hA : A with
    | none => rw [hA] at hg; simp at hg
    | some a => rw [hA] at hg; simp at hg; subst hg; exact Nat.le_trans hb (h.block a hA).1)
set_option maxHeartbeats 1600000 in
theorem pack_any (A : Option Addr) (n c : Nat) (wd : Int) (vs : List Nat) (w : World) (hx : Rd .u64 w A n vs) (hu : U64 vs) (hn : n * 8 ≤ 140737488355328) :
    Calls Tryz.prog 141 #[.int .i64 wd, .slice A n c] w (PackPost wd vs w) := by
  have hl := hx.len
  by_cases hw : wd < 0 ∨ 64 < wd
  · have HE := Lib.hid (packE_arg (vs := vs) hw)
    clear hl
    go_enter Tryz.func141, Tryz.ntmps141
    go_wp2_with (go_at_call 168; refine (isWidth_no _ _ hw).mono ?_; rintro e w1 ⟨rfl, rfl⟩)
    go_ret2
    exact PackPost.err HE.out (by decide) (Ext.refl _)
  · have hw0 : 0 ≤ wd := by omega
    have hw1 : wd ≤ 64 := by omega
    by_cases hlong : 4096 < n
    · have HE := Lib.hid (packE_long (vs := vs) hw (by omega))
      clear hl hw
      go_enter Tryz.func141, Tryz.ntmps141
      go_wp2_with (go_at_call 168; refine (isWidth_yes _ _ hw0 hw1).mono ?_; rintro e w1 ⟨rfl, rfl⟩)
      go_ret2
      exact PackPost.err HE.out (by decide) (Ext.refl _)
    · by_cases hbits : wd < (wdt vs : Int)
      · have HE := Lib.hid (packE_bits (vs := vs) hw (by omega) hbits)
        clear hl hw
        go_enter Tryz.func141, Tryz.ntmps141
        go_wp2_with (first | (go_at_call 168; refine (isWidth_yes _ _ hw0 hw1).mono ?_; rintro e w1 ⟨rfl, rfl⟩) | (go_at_call 169; refine (width_any _ _ _ vs _ hx hu (by omega)).mono ?_; rintro e w1 ⟨rfl, rfl⟩))
        go_ret2
        exact PackPost.err HE.out (by decide) (Ext.refl _)
      · have HE := Lib.hid (packE_ok (vs := vs) hw (by omega) hbits)
        obtain ⟨wn, rfl⟩ := Int.eq_ofNat_of_zero_le hw0
        have hwd : Wd wn vs := wdt_le.1 (by omega)
        have hmul : (wn : Int) * (n : Int) = ((wn * n : Nat) : Int) := by norm_cast
        have hmb : wn * n ≤ 64 * 4096 := Nat.mul_le_mul (by omega) (by omega)
        obtain ⟨k, hk⟩ : ∃ k, k = wn * n := ⟨_, rfl⟩
        rw [← hk] at hmul hmb
        obtain ⟨nb, hnb⟩ : ∃ nb, nb = (k + 7) / 8 := ⟨_, rfl⟩
        have hnb2 : ((k : Int) + 7) / 8 = (nb : Int) := by omega
        have hpb : packB wn vs = upk 8 nb (pk wn vs) := by unfold packB; rw [hl, ← hk, ← hnb]
        have h8 : k ≤ 8 * nb := by omega
        have hnbb : nb ≤ 40000 := by omega
        have Hl := Lib.hid hl
        have Hk := Lib.hid hk
        have Hmul := Lib.hid hmul
        have Hwd := Lib.hid hwd
        have Hpb := Lib.hid hpb
        clear hl hk hmul hnb hpb hwd hw
        go_enter Tryz.func141, Tryz.ntmps141
        go_wp2_with (first | (go_at_call 168; refine (isWidth_yes _ _ hw0 hw1).mono ?_; rintro e w1 ⟨rfl, rfl⟩) | (go_at_call 169; refine (width_any _ _ _ vs _ hx hu (by omega)).mono ?_; rintro e w1 ⟨rfl, rfl⟩) | (go_at_call 170; refine (bytesFor_any _ _ _ hw0 hw1 (by omega) (by omega) (by rw [Hmul.out]; omega) (by rw [Hmul.out]; omega)).mono ?_; rintro e w1 ⟨rfl, rfl⟩; rw [Hmul.out, hnb2]) | (at_make; refine wpList_mk .u8 5 rfl _ _ 22 rfl 1 Tryz.underlying22 Tryz.infoU8 _ _ nb rfl rfl rfl rfl (by omega) (by omega) ?_; intro w2 hown2 he2))
        have h0 : Own .u8 5 w2 w.heap.size (some ⟨w.heap.size, 0, none⟩) nb (upk 8 nb (pk wn (vs.take 0))) := by rw [List.take_zero]; show Own _ _ _ _ _ _ (upk 8 nb 0); rw [upk_zero]; exact hown2
        clear hown2
        go_loopw [25] (fun i wr => ∃ j : Nat, j ≤ n ∧ i = .int .i64 j ∧ Own .u8 5 wr w.heap.size (some ⟨w.heap.size, 0, none⟩) nb (upk 8 nb (pk wn (vs.take j))) ∧ Ext w wr) (fun i _ => n - (intOf i).toNat)
        case atStart => exact ⟨0, Nat.zero_le _, rfl, h0, he2⟩
        case round =>
          clear h0 he2
          obtain ⟨j, hj, rfl, hown, he⟩ := hrel
          by_cases hlt : j < n
          · have hle1 : wn * j + wn ≤ k := by
              have := Nat.mul_le_mul_left wn (show j + 1 ≤ n by omega)
              rw [Nat.mul_add, Nat.mul_one, ← Hk.out] at this
              exact this
            have hmj : (wn : Int) * (j : Int) = ((wn * j : Nat) : Int) := by norm_cast
            have hmj0 : (0 : Int) ≤ (wn : Int) * (j : Int) := by omega
            have hmj1 : (wn : Int) * (j : Int) ≤ 18446744073709551615 := by omega
            have Hmj := Lib.hid hmj
            obtain ⟨b, o, rfl, hb, hc⟩ := (hx.ext he).at_ hlt
            have hjl : j < vs.length := by have := Hl.out; omega
            have hvw : vs.getD j 0 < 2 ^ wn := by
              have := Hwd.out _ (List.getElem_mem hjl)
              simpa [List.getD, hjl] using this
            have hM : pk wn (vs.take j) < 2 ^ (wn * j) := by
              have := pk_lt (w := wn) (vs := vs.take j) (fun v hv => Hwd.out v (List.mem_of_mem_take hv))
              rwa [List.length_take, Nat.min_eq_left (by omega)] at this
            have hsn : pk wn (vs.take j) + 2 ^ (wn * j) * vs.getD j 0 = pk wn (vs.take (j + 1)) := by rw [take_next _ _ hjl, pk_snoc, List.length_take, Nat.min_eq_left (by omega)]
            obtain ⟨v, hv⟩ : ∃ v, v = vs.getD j 0 := ⟨_, rfl⟩
            rw [← hv] at hc hvw hsn
            have Hvw := Lib.hid hvw
            have HM := Lib.hid hM
            have Hsn := Lib.hid hsn
            clear hv hvw hM hsn hmj
            go_wp2_with fail
            go_region_with (first | (go_at_call 172; refine (place_any _ _ _ hw0 hw1 (by omega) (by omega) hmj0 hmj1).mono ?_; rintro e w1 ⟨rfl, rfl⟩; rw [Hmj.out]) | (go_at_call 171; refine (lay_any (some ⟨w.heap.size, 0, none⟩) nb nb w.heap.size (wn * j) wn v (pk wn (vs.take j)) _ ?_ (by omega) (by omega) (by omega) Hvw.out HM.out).mono ?_; exact hown.ext ((Ext.refl _).drew); rintro e w1 ⟨rfl, hown1, hg1⟩))
            all_goals
              rw [Hsn.out] at hown1
              have he1 := Lib.hid (Own.grown_ext (hown.ext ((Ext.refl _).drew)) he.drew (Nat.le_refl _) hg1)
              have Ho1 := Lib.hid hown1
              clear hown1 hg1 hown he
              go_wp2
              go_roundw
              case rel => exact ⟨j + 1, by omega, by go_num, Ho1.out, he1.out⟩
              case measure => simp [intOf]; omega
          · obtain rfl : j = n := by omega
            rw [List.take_of_length_le (Nat.le_of_eq Hl.out)] at hown
            go_wp2
            go_ret2
            exact PackPost.ok HE.out (by rw [Hpb.out, upk_len]) (by rw [Hpb.out]; exact hown) he
end Go.Proofs.YthibbgmicmfkfaaGreat
-- part B9p
namespace Go.Proofs.YthibbgmicmfkfaaGreat
open Go.RowKit
theorem num_bit {N w a x j : Nat} (hx : N / 2 ^ a % 2 ^ w = x) (hj : j < w) : x / 2 ^ j % 2 = bitAt N (a + j) := by
  unfold bitAt
  have hw : 2 ^ w = 2 ^ j * 2 ^ (w - j) := by rw [← Nat.pow_add]; congr 1; omega
  have hw2 : 2 ^ (w - j) = 2 * 2 ^ (w - j - 1) := by rw [Nat.mul_comm, ← Nat.pow_succ]; congr 1; omega
  rw [← hx, hw, Nat.mod_mul_right_div_self, Nat.div_div_eq_div_mul, ← Nat.pow_add, hw2, Nat.mod_mul_right_mod]
theorem bit_step {S k : Nat} :
    let M := S % 2 ^ k
    let β := bitAt S k
    M / 2 ^ (8 * (k / 8)) % 2 ^ 8 < 2 ^ (k % 8) ∧ M / 2 ^ (8 * (k / 8)) % 2 ^ 8 + β * pw (k % 8) < 256 ∧
      (upk 8 (k / 8 + 1) M).set (k / 8) (M / 2 ^ (8 * (k / 8)) % 2 ^ 8 + β * pw (k % 8)) = upk 8 ((k + 1 + 7) / 8) (S % 2 ^ (k + 1)) ∧
      (k % 8 = 0 → upk 8 ((k + 7) / 8) M ++ [0] = upk 8 (k / 8 + 1) M) := by
  intro M β
  have hk : 8 * (k / 8) + k % 8 = k := by omega
  have hs : k % 8 < 8 := Nat.mod_lt _ (by omega)
  have hM : M < 2 ^ k := Nat.mod_lt _ (Nat.two_pow_pos k)
  have hβ : β < 2 := bitAt_lt S k
  have hx : M / 2 ^ (8 * (k / 8)) < 2 ^ (k % 8) := by
    apply Nat.div_lt_of_lt_mul
    rw [← Nat.pow_add, hk]
    exact hM
  have hx2 := Nat.lt_of_le_of_lt (Nat.mod_le (M / 2 ^ (8 * (k / 8))) (2 ^ 8)) hx
  have hp : 2 ^ (k % 8) * 2 ≤ 256 := by rw [← Nat.pow_succ]; exact Nat.pow_le_pow_right (n := 2) (by omega) (show k % 8 + 1 ≤ 8 by omega)
  have hb : β * pw (k % 8) ≤ 2 ^ (k % 8) := by
    have := Nat.mul_le_mul_right (2 ^ (k % 8)) (show β ≤ 1 by omega)
    rw [Nat.one_mul] at this
    exact this
  have hlt : M / 2 ^ (8 * (k / 8)) % 2 ^ 8 + β * pw (k % 8) < 256 := by omega
  refine ⟨hx2, hlt, ?_, ?_⟩
  · rw [← upk_add (by omega) hlt, show (k + 1 + 7) / 8 = k / 8 + 1 from by omega]
    congr 1
    show M + 2 ^ (8 * (k / 8)) * (β * 2 ^ (k % 8)) = _
    rw [Nat.mul_comm β, ← Nat.mul_assoc, ← Nat.pow_add, hk, Nat.pow_succ, Nat.mod_mul]
    rfl
  · intro h0
    have hz : M / 2 ^ (8 * (k / 8)) = 0 := Nat.div_eq_of_lt (by rw [show 8 * (k / 8) = k from by omega]; exact hM)
    rw [show (k + 7) / 8 = k / 8 from by omega, upk_snoc, hz]
set_option maxHeartbeats 3200000 in
theorem refPack_any (A : Option Addr) (n c : Nat) (wd : Int) (vs : List Nat) (w : World) (hx : Rd .u64 w A n vs) (hu : U64 vs) (hn : n * 8 ≤ 140737488355328) :
    Calls Tryz.prog 165 #[.int .i64 wd, .slice A n c] w (PackPost wd vs w) := by
  have hl := hx.len
  by_cases hw : wd < 0 ∨ 64 < wd
  · have HE := Lib.hid (packE_arg (vs := vs) hw)
    clear hl
    go_enter Tryz.func165, Tryz.ntmps165
    rcases hw with h | h
    · go_wp2
      go_ret2
      exact PackPost.err HE.out (by decide) (Ext.refl _)
    · by_cases h2 : wd < 0
      all_goals
        go_wp2
        go_ret2
        exact PackPost.err HE.out (by decide) (Ext.refl _)
  · have hw0 : 0 ≤ wd := by omega
    have hw1 : wd ≤ 64 := by omega
    have b1 : decide (wd < 0) = false := by simp; omega
    have b2 : decide (64 < wd) = false := by simp; omega
    by_cases hlong : 4096 < n
    · have HE := Lib.hid (packE_long (vs := vs) hw (by omega))
      clear hl hw
      go_enter Tryz.func165, Tryz.ntmps165
      go_wp2
      go_ret2
      exact PackPost.err HE.out (by decide) (Ext.refl _)
    · have b3 : decide (4096 < (n : Int)) = false := by simp; omega
      by_cases hbits : wd < (wdt vs : Int)
      · have HE := Lib.hid (packE_bits (vs := vs) hw (by omega) hbits)
        clear hl hw
        go_enter Tryz.func165, Tryz.ntmps165
        go_wp2_with (go_at_call 84; refine (refWidth_any _ _ _ vs _ hx hu (by omega)).mono ?_; rintro e w1 ⟨rfl, rfl⟩)
        go_ret2
        exact PackPost.err HE.out (by decide) (Ext.refl _)
      · have HE := Lib.hid (packE_ok (vs := vs) hw (by omega) hbits)
        have b4 : decide (wd < (wdt vs : Int)) = false := by simp; omega
        obtain ⟨wn, rfl⟩ := Int.eq_ofNat_of_zero_le hw0
        have b5 : decide (wn < wdt vs) = false := by simp; omega
        have hwd : Wd wn vs := wdt_le.1 (by omega)
        obtain ⟨S, hS⟩ : ∃ S, S = pk wn vs := ⟨_, rfl⟩
        have Hat := Lib.hid (fun i => pk_at hwd i)
        rw [← hS] at Hat
        have hend : packB wn vs = upk 8 ((wn * n + 7) / 8) (S % 2 ^ (wn * n)) := by
          unfold packB
          rw [hl, hS, Nat.mod_eq_of_lt (by have := pk_lt hwd; rwa [hl] at this)]
        have hmb : wn * n ≤ 64 * 4096 := Nat.mul_le_mul (by omega) (by omega)
        have Hl := Lib.hid hl
        have Hend := Lib.hid hend
        clear hl hwd hw hend hS
        go_enter Tryz.func165, Tryz.ntmps165
        go_wp2_with (go_at_call 84; refine (refWidth_any _ _ _ vs _ hx hu (by omega)).mono ?_; rintro e w1 ⟨rfl, rfl⟩)
        go_loopw [6, 7, 8, 9, 10] (fun v kk i _ _ wr => ∃ (j : Nat) (A' : Option Addr) (c' : Nat), j ≤ n ∧ i = .int .i64 j ∧ kk = .int .i64 (wn * j : Nat) ∧ v = .slice A' ((wn * j + 7) / 8 : Nat) c' ∧ Own .u8 5 wr w.heap.size A' c' (upk 8 ((wn * j + 7) / 8) (S % 2 ^ (wn * j))) ∧ Ext w wr) (fun _ _ i _ _ _ => n - (intOf i).toNat)
        case atStart => exact ⟨0, _, _, Nat.zero_le _, rfl, rfl, by rw [Nat.mul_zero], by rw [Nat.mul_zero]; exact Own.made _ _ w (Nat.le_refl _), (Ext.refl w).alloc _⟩
        case round =>
          obtain ⟨j, A', c', hj, rfl, rfl, rfl, hown, he⟩ := hrel
          by_cases hlt : j < n
          · obtain ⟨b, o, rfl, hb, hc⟩ := (hx.ext he).at_ hlt
            have hx64 := hu.at_ j
            have hxa := Hat.out j
            have hle1 : wn * j + wn ≤ wn * n := by
              have := Nat.mul_le_mul_left wn (show j + 1 ≤ n by omega)
              rw [Nat.mul_add, Nat.mul_one] at this
              exact this
            obtain ⟨x, hx'⟩ : ∃ x, x = vs.getD j 0 := ⟨_, rfl⟩
            rw [← hx'] at hc hx64 hxa
            have Hxa := Lib.hid hxa
            clear hx' hxa
            obtain ⟨K, hK⟩ : ∃ K, K = wn * j := ⟨_, rfl⟩
            rw [← hK] at Hxa hle1 hown ⊢
            have HK := Lib.hid hK
            clear hK
            go_wp2_with fail
            go_loopw [6, 7, 9, 10] (fun v kk y i wr => ∃ (t : Nat) (A' : Option Addr) (c' : Nat), t ≤ wn ∧ i = .int .i64 t ∧ kk = .int .i64 (K + t : Nat) ∧ y = .int .u64 (x / 2 ^ t : Nat) ∧ v = .slice A' ((K + t + 7) / 8 : Nat) c' ∧ Own .u8 5 wr w.heap.size A' c' (upk 8 ((K + t + 7) / 8) (S % 2 ^ (K + t))) ∧ Ext w wr) (fun _ _ _ i _ => wn - (intOf i).toNat)
            case atStart => exact ⟨0, _, _, Nat.zero_le _, rfl, rfl, by rw [Nat.pow_zero, Nat.div_one], rfl, hown, he⟩
            case round =>
              clear hown he
              obtain ⟨t, A', c', ht, rfl, rfl, rfl, rfl, hown, he⟩ := hrel
              by_cases hlt2 : t < wn
              · have hbs := bit_step (S := S) (k := K + t)
                have hnb := num_bit (j := t) Hxa.out hlt2
                have hxt : x / 2 ^ t < 18446744073709551616 := Nat.lt_of_le_of_lt (Nat.div_le_self _ _) hx64
                obtain ⟨y, hy⟩ : ∃ y, y = x / 2 ^ t := ⟨_, rfl⟩
                have hy2 : x / 2 ^ (t + 1) = y / 2 := by rw [hy, Nat.div_div_eq_div_mul, ← Nat.pow_succ]
                rw [← hy] at hnb hxt ⊢
                have Hy2 := Lib.hid hy2
                obtain ⟨k, hk⟩ : ∃ k, k = K + t := ⟨_, rfl⟩
                have hk1 : K + (t + 1) = k + 1 := by omega
                rw [← hk] at hbs hnb hown ⊢
                have hkb : k ≤ 262144 := by omega
                have Hk1 := Lib.hid hk1
                obtain ⟨h1, h2, h3, h4⟩ := hbs
                obtain ⟨x0, hx0⟩ : ∃ x0, x0 = S % 2 ^ k / 2 ^ (8 * (k / 8)) % 2 ^ 8 := ⟨_, rfl⟩
                rw [← hnb] at h2 h3
                clear hy hy2 hk hk1 hnb
                have hpw := pw_le (show k % 8 ≤ 7 by omega)
                have hmul : y % 2 * pw (k % 8) ≤ 128 := by
                  have := Nat.mul_le_mul (show y % 2 ≤ 1 by omega) (show pw (k % 8) ≤ 128 from hpw)
                  omega
                have hmc : ((y % 2 : Nat) : Int) * ((pw (k % 8) : Nat) : Int) = ((y % 2 * pw (k % 8) : Nat) : Int) := by norm_cast
                have f2 : ((k : Int) / 8).toNat = k / 8 := by omega
                have f3 : (0 : Int) ≤ (k : Int) / 8 := by omega
                have f6 : ((k : Int) % 8).toNat = k % 8 := by omega
                have hz := he.size
                by_cases hk0 : k % 8 = 0
                · have h4' := h4 hk0
                  have hk0' : (((k : Int) % 8) == 0) = true := by rw [beq_iff_eq]; omega
                  have f4 : (k : Int) / 8 < ((k : Int) + 7) / 8 + 1 := by omega
                  have f5 : IntKind.i64.wrap ((k : Int) / 8) = (k : Int) / 8 := IntWalk.i64_in _ (by omega)
                  have f7 : (k : Int).tmod 8 = (k : Int) % 8 := Int.tmod_eq_emod_of_nonneg (by omega)
                  have f8 : (y : Int).tmod 2 = (y : Int) % 2 := Int.tmod_eq_emod_of_nonneg (by omega)
                  have Hk0 := Lib.hid hk0
                  clear h4 hk0
                  go_wp2_with (at_builtin; refine wpList_push .u8 0 5 rfl _ _ 22 rfl _ 1 Tryz.underlying22 Tryz.infoU8 rfl hown ((k + 7) / 8) (upk_len ..) rfl rfl rfl (by omega) (by omega) he hz ?_; intro A1 c1 w1 hown1 hb1 hz1)
                  rw [h4'] at hown1
                  obtain ⟨b2, rfl, hbase, hblt, hcell, hfro, hset⟩ := hown1.at_ (show k / 8 < (upk 8 (k / 8 + 1) (S % 2 ^ k)).length by rw [upk_len]; omega)
                  rw [upk_at _ _ _ _ (show k / 8 < k / 8 + 1 by omega), ← hx0] at hcell
                  rw [← hx0] at h1 h2 h3
                  obtain ⟨hs1, hs2⟩ := hset (x0 + y % 2 * pw (k % 8))
                  rw [h3] at hs1
                  have Hs1 := Lib.hid hs1
                  have He := Lib.hid (Ext.setCell hb1 (p := ⟨b2, k / 8, none⟩) hbase (.int .u8 ((x0 + y % 2 * pw (k % 8) : Nat) : Int)))
                  have hval : IntKind.u8.wrap ((x0 : Int) + IntKind.u8.wrap (IntKind.u64.wrap (((y : Int) % 2) * (pw (k % 8) : Int)))) = ((x0 + y % 2 * pw (k % 8) : Nat) : Int) := by
                    rw [show (y : Int) % 2 = ((y % 2 : Nat) : Int) from by omega, hmc]
                    generalize y % 2 * pw (k % 8) = z at *
                    rw [IntWalk.u64_in (z : Int) (by omega), IntWalk.u8_in (z : Int) (by omega), IntWalk.u8_in _ (by omega)]
                    omega
                  have Hval := Lib.hid hval
                  have Hy := Lib.hid Hy2.out
                  clear hval hs1 hs2 hset h3 hx0 hmc hown he hown1 hb1
                  go_region_with (go_at_call 160; refine (power_any _ _ (by omega) (by omega)).mono ?_; rintro e w' ⟨rfl, rfl⟩)
                  all_goals
                    rw [Hval.out]
                    go_wp2
                    go_roundw
                    case rel => exact ⟨t + 1, _, _, by omega, by go_num, by rw [Hk1.out]; go_num, by rw [Hy.out]; go_num, by rw [Hk1.out, show (k + 1 + 7) / 8 = (k + 7) / 8 + 1 from by have := Hk0.out; omega], by rw [Hk1.out]; exact Hs1.out.ext ((Ext.refl _).drew), Ext.drew He.out⟩
                    case measure => simp [intOf]; omega
                · have hlen : (k + 7) / 8 = k / 8 + 1 := by omega
                  rw [hlen] at hown
                  rw [hlen]
                  have hb1 := he
                  have hk0' : (((k : Int) % 8) == 0) = false := by rw [beq_eq_false_iff_ne]; omega
                  have f4 : (k : Int) / 8 < (k : Int) / 8 + 1 := by omega
                  have f5 : IntKind.i64.wrap ((k : Int) / 8) = (k : Int) / 8 := IntWalk.i64_in _ (by omega)
                  have f7 : (k : Int).tmod 8 = (k : Int) % 8 := Int.tmod_eq_emod_of_nonneg (by omega)
                  have f8 : (y : Int).tmod 2 = (y : Int) % 2 := Int.tmod_eq_emod_of_nonneg (by omega)
                  have Hk0 := Lib.hid hk0
                  clear h4 hk0
                  have hown1 := hown
                  clear hown
                  go_wp2_with fail
                  obtain ⟨b2, rfl, hbase, hblt, hcell, hfro, hset⟩ := hown1.at_ (show k / 8 < (upk 8 (k / 8 + 1) (S % 2 ^ k)).length by rw [upk_len]; omega)
                  rw [upk_at _ _ _ _ (show k / 8 < k / 8 + 1 by omega), ← hx0] at hcell
                  rw [← hx0] at h1 h2 h3
                  obtain ⟨hs1, hs2⟩ := hset (x0 + y % 2 * pw (k % 8))
                  rw [h3] at hs1
                  have Hs1 := Lib.hid hs1
                  have He := Lib.hid (Ext.setCell hb1 (p := ⟨b2, k / 8, none⟩) hbase (.int .u8 ((x0 + y % 2 * pw (k % 8) : Nat) : Int)))
                  have hval : IntKind.u8.wrap ((x0 : Int) + IntKind.u8.wrap (IntKind.u64.wrap (((y : Int) % 2) * (pw (k % 8) : Int)))) = ((x0 + y % 2 * pw (k % 8) : Nat) : Int) := by
                    rw [show (y : Int) % 2 = ((y % 2 : Nat) : Int) from by omega, hmc]
                    generalize y % 2 * pw (k % 8) = z at *
                    rw [IntWalk.u64_in (z : Int) (by omega), IntWalk.u8_in (z : Int) (by omega), IntWalk.u8_in _ (by omega)]
                    omega
                  have Hval := Lib.hid hval
                  have Hy := Lib.hid Hy2.out
                  clear hval hs1 hs2 hset h3 hx0 hmc he hown1 hb1 hlen
                  go_region_with (go_at_call 160; refine (power_any _ _ (by omega) (by omega)).mono ?_; rintro e w' ⟨rfl, rfl⟩)
                  all_goals
                    rw [Hval.out]
                    go_wp2
                    go_roundw
                    case rel => exact ⟨t + 1, _, _, by omega, by go_num, by rw [Hk1.out]; go_num, by rw [Hy.out]; go_num, by rw [Hk1.out, show (k + 1 + 7) / 8 = k / 8 + 1 from by have := Hk0.out; omega], by rw [Hk1.out]; exact Hs1.out.ext ((Ext.refl _).drew), Ext.drew He.out⟩
                    case measure => simp [intOf]; omega
              · obtain rfl : t = wn := by omega
                have hKt : K + t = t * (j + 1) := by rw [HK.out, Nat.mul_succ]
                rw [hKt] at hown ⊢
                go_wp2
                go_roundw
                case rel => exact ⟨j + 1, _, _, by omega, by go_num, rfl, rfl, hown, he⟩
                case measure => simp [intOf]; omega
          · obtain rfl : j = n := by omega
            go_wp2
            go_ret2
            exact PackPost.ok HE.out (by rw [Hend.out, upk_len]) (by rw [Hend.out]; exact hown) he
end Go.Proofs.YthibbgmicmfkfaaGreat
