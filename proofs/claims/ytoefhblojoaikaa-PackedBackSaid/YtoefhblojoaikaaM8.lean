/-
  Layer 8 as mathematics: numbers as runs, runs as numbers, runs as bytes.
-/
import Derived.Test.YtoefhblojoaikaaV3s
import Derived.Test.YtoefhblojoaikaaB10t
namespace Go.Proofs.Ytoefhblojoaikaa
open Go.RowKit

/-- One number more: the last run grows, or a new one begins. -/
def gat (rs : List (Int × Int)) (v : Int) : List (Int × Int) :=
  match rs.getLast? with
  | none => [(v, 1)]
  | some r => if r.1 = v then rs.dropLast ++ [(v, r.2 + 1)] else rs ++ [(v, 1)]
theorem gat_nil (v : Int) : gat [] v = [(v, 1)] := rfl
theorem gat_same (rs : List (Int × Int)) (v c : Int) : gat (rs ++ [(v, c)]) v = rs ++ [(v, c + 1)] := by simp [gat]
theorem gat_new {rs : List (Int × Int)} {u c v : Int} (h : u ≠ v) : gat (rs ++ [(u, c)]) v = rs ++ [(u, c)] ++ [(v, 1)] := by simp [gat, h]

/-- The numbers as runs. -/
def rsp (vs : List Int) : List (Int × Int) := vs.foldl gat []
theorem rsp_nil : rsp [] = [] := rfl
theorem rsp_snoc (vs : List Int) (v : Int) : rsp (vs ++ [v]) = gat (rsp vs) v := by simp [rsp, List.foldl_append]

/-- The numbers that runs tell. -/
def flat (rs : List (Int × Int)) : List Int := (rs.map fun r => List.replicate r.2.toNat r.1).flatten
theorem flat_nil : flat [] = [] := rfl
theorem flat_cons (r : Int × Int) (rs : List (Int × Int)) : flat (r :: rs) = List.replicate r.2.toNat r.1 ++ flat rs := by simp [flat]
theorem flat_append (a b : List (Int × Int)) : flat (a ++ b) = flat a ++ flat b := by simp [flat]

/-- The value of the last run; ahead of all runs l. -/
def lastV : Option Int → List (Int × Int) → Option Int
  | l, [] => l
  | _, r :: rs => lastV (some r.1) rs
theorem lastV_append (l : Option Int) (a b : List (Int × Int)) : lastV l (a ++ b) = lastV (lastV l a) b := by
  induction a generalizing l with
  | nil => rfl
  | cons r rs ih => exact ih _
theorem lastV_snoc (l : Option Int) (a : List (Int × Int)) (r : Int × Int) : lastV l (a ++ [r]) = some r.1 := by rw [lastV_append]; rfl

def R64 (v : Int) : Prop := -9223372036854775808 ≤ v ∧ v ≤ 9223372036854775807

/-- Runs as few as can be: counts of one at least, no two neighbours of one value. -/
def GoodR : Option Int → List (Int × Int) → Prop
  | _, [] => True
  | l, r :: rs => l ≠ some r.1 ∧ 1 ≤ r.2 ∧ R64 r.1 ∧ GoodR (some r.1) rs
theorem GoodR.append {l : Option Int} {a b : List (Int × Int)} : GoodR l (a ++ b) ↔ GoodR l a ∧ GoodR (lastV l a) b := by
  induction a generalizing l with
  | nil => simp [GoodR, lastV]
  | cons r rs ih => simp [GoodR, lastV, ih, and_assoc]
theorem GoodR.mem {l : Option Int} {rs : List (Int × Int)} (h : GoodR l rs) : ∀ r ∈ rs, 1 ≤ r.2 ∧ R64 r.1 := by
  induction rs generalizing l with
  | nil => intro r hr; cases hr
  | cons q rs ih =>
    intro r hr
    rcases List.mem_cons.1 hr with rfl | hr
    · exact ⟨h.2.1, h.2.2.1⟩
    · exact ih h.2.2.2 r hr

theorem snoc_or {T : Type} (l : List T) : l = [] ∨ ∃ a b, l = a ++ [b] := by
  rcases List.eq_nil_or_concat l with h | ⟨a, b, h⟩
  · exact .inl h
  · exact .inr ⟨a, b, by rw [h, List.concat_eq_append]⟩

theorem gat_good {rs : List (Int × Int)} {v : Int} (h : GoodR none rs) (hv : R64 v) : GoodR none (gat rs v) ∧ flat (gat rs v) = flat rs ++ [v] ∧ lastV none (gat rs v) = some v := by
  rcases snoc_or rs with rfl | ⟨a, ⟨u, c⟩, rfl⟩
  · exact ⟨⟨by simp, Int.le_refl 1, hv, trivial⟩, by simp [gat_nil, flat], rfl⟩
  · obtain ⟨h1, h2⟩ := GoodR.append.1 h
    by_cases huv : u = v
    · subst huv
      rw [gat_same, lastV_snoc]
      refine ⟨GoodR.append.2 ⟨h1, h2.1, by have := h2.2.1; show 1 ≤ c + 1; simp at this; omega, h2.2.2.1, trivial⟩, ?_, rfl⟩
      have hc := h2.2.1
      simp at hc
      rw [flat_append, flat_append, List.append_assoc]
      congr 1
      simp only [flat, List.map_cons, List.map_nil, List.flatten_cons, List.flatten_nil, List.append_nil]
      rw [show (c + 1).toNat = c.toNat + 1 from by omega, List.replicate_succ']
    · rw [gat_new huv, lastV_snoc]
      refine ⟨GoodR.append.2 ⟨h, by rw [lastV_snoc]; simpa using huv, Int.le_refl 1, hv, trivial⟩, ?_, rfl⟩
      rw [flat_append]
      rfl

def R64s (vs : List Int) : Prop := ∀ v ∈ vs, R64 v
theorem foldl_good {vs : List Int} : ∀ {rs : List (Int × Int)}, GoodR none rs → R64s vs → GoodR none (vs.foldl gat rs) ∧ flat (vs.foldl gat rs) = flat rs ++ vs := by
  induction vs with
  | nil => intro rs h _; exact ⟨h, by simp⟩
  | cons v r ih =>
    intro rs h hv
    obtain ⟨h1, h2, _⟩ := gat_good h (hv v (by simp))
    obtain ⟨h3, h4⟩ := ih h1 (fun u hu => hv u (by simp [hu]))
    exact ⟨h3, by rw [List.foldl_cons, h4, h2]; simp⟩
theorem rsp_good {vs : List Int} (h : R64s vs) : GoodR none (rsp vs) := (foldl_good (rs := []) trivial h).1
theorem rsp_flat {vs : List Int} (h : R64s vs) : flat (rsp vs) = vs := (foldl_good (rs := []) trivial h).2

theorem flat_last {l : Option Int} {rs : List (Int × Int)} (h : GoodR l rs) (hn : rs ≠ []) : (flat rs).getLast? = lastV none rs := by
  rcases snoc_or rs with rfl | ⟨a, ⟨u, c⟩, rfl⟩
  · exact absurd rfl hn
  · obtain ⟨_, h2⟩ := GoodR.append.1 h
    have hc := h2.2.1
    simp at hc
    rw [lastV_snoc, flat_append, flat_cons, flat_nil, List.append_nil]
    obtain ⟨m, hm⟩ : ∃ m, c.toNat = m + 1 := ⟨c.toNat - 1, by omega⟩
    simp only [hm]
    rw [List.replicate_succ', ← List.append_assoc, List.getLast?_append]
    simp
theorem rsp_last {vs : List Int} (h : R64s vs) : lastV none (rsp vs) = vs.getLast? := by
  by_cases hn : rsp vs = []
  · have := rsp_flat h
    rw [hn] at this
    rw [hn, ← this]
    rfl
  · rw [← flat_last (rsp_good h) hn, rsp_flat h]

theorem flat_len_le {l : Option Int} {rs : List (Int × Int)} (h : GoodR l rs) : rs.length ≤ (flat rs).length ∧ ∀ r ∈ rs, r.2 ≤ (flat rs).length := by
  induction rs generalizing l with
  | nil => exact ⟨Nat.le_refl _, fun r hr => by cases hr⟩
  | cons q rs ih =>
    obtain ⟨h1, h2⟩ := ih h.2.2.2
    have hc := h.2.1
    rw [flat_cons, List.length_append, List.length_replicate]
    refine ⟨by rw [List.length_cons]; omega, fun r hr => ?_⟩
    rcases List.mem_cons.1 hr with rfl | hr
    · omega
    · have := h2 r hr; omega

/-- n times the value v, behind runs whose last isn't v's: one run more. -/
theorem foldl_rep {rs : List (Int × Int)} {v : Int} (h : lastV none rs ≠ some v) (n : Nat) : (List.replicate (n + 1) v).foldl gat rs = rs ++ [(v, ((n + 1 : Nat) : Int))] := by
  induction n with
  | zero =>
    rcases snoc_or rs with rfl | ⟨a, ⟨u, c⟩, rfl⟩
    · rfl
    · rw [lastV_snoc] at h
      rw [show List.replicate (0 + 1) v = [v] from rfl, List.foldl_cons, List.foldl_nil, gat_new (by simpa using h)]
      rfl
  | succ n ih => rw [List.replicate_succ', List.foldl_append, ih, List.foldl_cons, List.foldl_nil, gat_same]; congr 2
theorem foldl_flat {rs : List (Int × Int)} : ∀ {acc : List (Int × Int)}, GoodR (lastV none acc) rs → (flat rs).foldl gat acc = acc ++ rs := by
  induction rs with
  | nil => intro acc _; simp [flat]
  | cons q rs ih =>
    intro acc h
    obtain ⟨v, c⟩ := q
    have hc := h.2.1
    simp at hc
    obtain ⟨m, hm⟩ : ∃ m : Nat, c = ((m + 1 : Nat) : Int) := ⟨c.toNat - 1, by omega⟩
    subst hm
    rw [flat_cons, List.foldl_append]
    simp only [Int.toNat_natCast]
    rw [foldl_rep h.1 m, ih (by rw [lastV_snoc]; exact h.2.2.2)]
    simp
theorem rsp_of_flat {rs : List (Int × Int)} (h : GoodR none rs) : rsp (flat rs) = rs := foldl_flat (acc := []) h

/-- What Join answers, when the runs so far have told vs. -/
def joinF : List Int → List (Int × Int) → List Int × Int
  | vs, [] => (vs, 0)
  | vs, r :: rs => if r.2 < 1 then ([], 1) else if vs.getLast? = some r.1 then ([], 5) else if 4096 - (vs.length : Int) < r.2 then ([], 4) else joinF (vs ++ List.replicate r.2.toNat r.1) rs
theorem joinF_at {vs : List Int} {rs : List (Int × Int)} {j : Nat} {r : Int × Int} (h : rs[j]? = some r) :
    joinF vs (rs.drop j) = if r.2 < 1 then ([], 1) else if vs.getLast? = some r.1 then ([], 5) else if 4096 - (vs.length : Int) < r.2 then ([], 4) else joinF (vs ++ List.replicate r.2.toNat r.1) (rs.drop (j + 1)) := by
  obtain ⟨h1, rfl⟩ := List.getElem?_eq_some_iff.1 h
  rw [List.drop_eq_getElem_cons h1]
  rfl
theorem joinF_end {vs : List Int} {rs : List (Int × Int)} {j : Nat} (h : rs.length ≤ j) : joinF vs (rs.drop j) = (vs, 0) := by
  rw [List.drop_of_length_le h]; rfl
theorem joinF_len {rs : List (Int × Int)} : ∀ {vs : List Int}, vs.length ≤ 4096 → (joinF vs rs).1.length ≤ 4096 := by
  induction rs with
  | nil => intro vs h; exact h
  | cons r rs ih =>
    intro vs h
    rw [joinF]
    split
    · simp
    · split
      · simp
      · split
        · simp
        · refine ih ?_
          rw [List.length_append, List.length_replicate]
          omega
theorem last_rep (vs : List Int) (v : Int) (n : Nat) : (vs ++ List.replicate (n + 1) v).getLast? = some v := by
  rw [List.replicate_succ', ← List.append_assoc, List.getLast?_append]; simp
theorem joinF_good {rs : List (Int × Int)} : ∀ {vs : List Int}, GoodR vs.getLast? rs → vs.length + (flat rs).length ≤ 4096 → joinF vs rs = (vs ++ flat rs, 0) := by
  induction rs with
  | nil => intro vs _ _; simp [joinF, flat]
  | cons r rs ih =>
    intro vs h hl
    obtain ⟨v, c⟩ := r
    have hc := h.2.1
    simp at hc
    obtain ⟨m, hm⟩ : ∃ m : Nat, c = ((m + 1 : Nat) : Int) := ⟨c.toNat - 1, by omega⟩
    subst hm
    rw [flat_cons, List.length_append, List.length_replicate] at hl
    simp only [Int.toNat_natCast] at hl
    rw [joinF, if_neg (by simp; omega), if_neg h.1, if_neg (by simp; omega)]
    simp only [Int.toNat_natCast]
    rw [ih (by rw [last_rep]; exact h.2.2.2) (by rw [List.length_append, List.length_replicate]; omega), flat_cons]
    simp
theorem join_rsp {vs : List Int} (h : R64s vs) (hl : vs.length ≤ 4096) : joinF [] (rsp vs) = (vs, 0) := by
  rw [joinF_good (vs := []) (rsp_good h) (by rw [rsp_flat h]; simpa using hl), rsp_flat h]; rfl

/-- Runs as bytes. -/
def encL (rs : List (Int × Int)) : List Nat := (rs.map fun r => vput (foldS r.1).toNat ++ vput r.2.toNat).flatten
theorem encL_nil : encL [] = [] := rfl
theorem encL_cons (r : Int × Int) (rs : List (Int × Int)) : encL (r :: rs) = vput (foldS r.1).toNat ++ (vput r.2.toNat ++ encL rs) := by simp [encL]
theorem encL_snoc (rs : List (Int × Int)) (r : Int × Int) : encL (rs ++ [r]) = encL rs ++ vput (foldS r.1).toNat ++ vput r.2.toNat := by simp [encL]
def encR (rs : List (Int × Int)) : List Nat := vput rs.length ++ encL rs

/-- What Decode answers, when the runs so far have told vs, m are left, and the next begins at place a. -/
def decR (bs : List Nat) : Nat → List Int → Int → List Int × Int
  | 0, vs, a => if a < (bs.length : Int) then ([], 3) else (vs, 0)
  | m + 1, vs, a =>
    if (vget bs a).2.2 ≠ 0 then ([], (vget bs a).2.2) else
    if (vget bs (vget bs a).2.1).2.2 ≠ 0 then ([], (vget bs (vget bs a).2.1).2.2) else
    if (vget bs (vget bs a).2.1).1 = 0 ∨ vs.getLast? = some (unfS (vget bs a).1) then ([], 5) else
    if 4096 - (vs.length : Int) < (vget bs (vget bs a).2.1).1 then ([], 4) else
    decR bs m (vs ++ List.replicate (vget bs (vget bs a).2.1).1 (unfS (vget bs a).1)) (vget bs (vget bs a).2.1).2.1
def decode8 (bs : List Nat) : List Int × Int :=
  if (vget bs 0).2.2 ≠ 0 then ([], (vget bs 0).2.2) else if 4096 < (vget bs 0).1 then ([], 4) else decR bs (vget bs 0).1 [] (vget bs 0).2.1

theorem unf_range {u : Nat} (h : u < 18446744073709551616) : R64 (unfS u) := by unfold R64 unfS; split <;> omega
theorem fold_range {v : Int} (h : R64 v) : 0 ≤ foldS v ∧ foldS v < 18446744073709551616 := by unfold R64 at h; unfold foldS; split <;> omega
theorem unf_fold (v : Int) : unfS (foldS v) = v := by unfold unfS foldS; split <;> split <;> omega
theorem fold_unf {u : Int} (h : 0 ≤ u) : foldS (unfS u) = u := by unfold unfS foldS; split <;> split <;> omega

/-- What vput has written is got. -/
theorem vget_put {bs rest : List Nat} {a u : Nat} (hu : u < 18446744073709551616) (ha : a ≤ bs.length) (h : bs.drop a = vput u ++ rest) :
    vget bs (a : Int) = (u, (a : Int) + (vput u).length, 0) ∧ a + (vput u).length ≤ bs.length ∧ bs.drop (a + (vput u).length) = rest := by
  refine ⟨?_, ?_, ?_⟩
  · rw [vput_len]
    exact vget_ok ha (by rw [h]; exact vgetF_vput hu rest)
  · have := congrArg List.length h
    rw [List.length_drop, List.length_append] at this
    omega
  · rw [← List.drop_drop, h, List.drop_left]

/-- What has been written is decoded. -/
theorem decR_enc {bs rest : List Nat} {rs : List (Int × Int)} : ∀ {vs : List Int} {a : Nat}, a ≤ bs.length → bs.drop a = encL rs ++ rest → GoodR vs.getLast? rs → vs.length + (flat rs).length ≤ 4096 →
    decR bs rs.length vs (a : Int) = if rest = [] then (vs ++ flat rs, 0) else ([], 3) := by
  induction rs with
  | nil =>
    intro vs a ha hd _ _
    have hl := congrArg List.length hd
    rw [encL_nil, List.nil_append, List.length_drop] at hl
    rw [List.length_nil, decR]
    by_cases hr : rest = []
    · subst hr
      rw [if_pos rfl, if_neg (by simp at hl; omega)]
      simp [flat]
    · rw [if_neg hr, if_pos]
      have : 0 < rest.length := List.length_pos_iff.2 hr
      omega
  | cons r rs ih =>
    intro vs a ha hd hg hl
    obtain ⟨v, c⟩ := r
    have hc := hg.2.1
    simp at hc
    obtain ⟨m, hm⟩ : ∃ m : Nat, c = ((m + 1 : Nat) : Int) := ⟨c.toNat - 1, by omega⟩
    subst hm
    obtain ⟨f0, f1⟩ := fold_range hg.2.2.1
    simp only at f0 f1
    obtain ⟨u, hu⟩ : ∃ u : Nat, foldS v = (u : Int) := ⟨(foldS v).toNat, by omega⟩
    have huv : unfS (u : Int) = v := by rw [← hu, unf_fold]
    rw [flat_cons, List.length_append, List.length_replicate] at hl
    simp only [Int.toNat_natCast] at hl
    rw [encL_cons, List.append_assoc, List.append_assoc] at hd
    simp only [Int.toNat_natCast, hu] at hd
    obtain ⟨g1, b1, d1⟩ := vget_put (by omega) ha hd
    obtain ⟨g2, b2, d2⟩ := vget_put (by omega) b1 d1
    rw [Int.natCast_add] at g2
    rw [List.length_cons, decR, g1]
    simp only [ne_eq, not_true_eq_false, if_false]
    rw [g2]
    simp only [not_true_eq_false, if_false]
    rw [huv, if_neg (by rintro (h | h); omega; exact hg.1 h), if_neg (by omega)]
    rw [show (a : Int) + ((vput u).length : Int) + ((vput (m + 1)).length : Int) = ((a + (vput u).length + (vput (m + 1)).length : Nat) : Int) from by omega]
    rw [ih b2 d2 (by rw [last_rep]; exact hg.2.2.2) (by rw [List.length_append, List.length_replicate]; omega), flat_cons]
    simp

theorem encR_len (rs : List (Int × Int)) : (encR rs).length = (vput rs.length).length + (encL rs).length := by rw [encR, List.length_append]
theorem decode8_enc {rs : List (Int × Int)} (rest : List Nat) (h : GoodR none rs) (hl : (flat rs).length ≤ 4096) : decode8 (encR rs ++ rest) = if rest = [] then (flat rs, 0) else ([], 3) := by
  have hn := (flat_len_le h).1
  obtain ⟨g1, b1, d1⟩ := vget_put (bs := encR rs ++ rest) (a := 0) (u := rs.length) (rest := encL rs ++ rest) (by omega) (Nat.zero_le _) (by rw [List.drop_zero, encR, List.append_assoc])
  rw [decode8, show (0 : Int) = ((0 : Nat) : Int) from rfl, g1]
  simp only [ne_eq]
  rw [← Int.natCast_add, decR_enc (vs := []) b1 d1 h (by simpa using hl), if_neg (by simp), if_neg (by omega)]
  simp

/-- Bytes that are decoded are those of the runs. -/
theorem decR_only {bs : List Nat} (hb : U8 bs) : ∀ {m : Nat} {vs out : List Int} {a : Int}, 0 ≤ a → a ≤ bs.length → vs.length ≤ 4096 → decR bs m vs a = (out, 0) →
    ∃ rs, rs.length = m ∧ GoodR vs.getLast? rs ∧ out = vs ++ flat rs ∧ bs.drop a.toNat = encL rs ∧ out.length ≤ 4096 := by
  intro m
  induction m with
  | zero =>
    intro vs out a h0 ha hl h
    rw [decR] at h
    by_cases hlt : a < (bs.length : Int)
    · rw [if_pos hlt] at h; injection h with _ h; exact absurd h (by decide)
    · rw [if_neg hlt] at h
      injection h with h _
      subst h
      exact ⟨[], rfl, trivial, by simp [flat], by rw [List.drop_of_length_le (by omega)]; rfl, hl⟩
  | succ m ih =>
    intro vs out a h0 ha hl h
    rcases hg1 : vget bs a with ⟨u, a1, e1⟩
    rw [decR, hg1] at h
    simp only at h
    by_cases he1 : e1 = 0
    · subst he1
      rcases hg2 : vget bs a1 with ⟨k, a2, e2⟩
      rw [hg2] at h
      simp only [ne_eq, not_true_eq_false, if_false] at h
      by_cases he2 : e2 = 0
      · subst he2
        simp only [not_true_eq_false, if_false] at h
        by_cases h3 : k = 0 ∨ vs.getLast? = some (unfS u)
        · rw [if_pos h3] at h; injection h with _ h; exact absurd h (by decide)
        rw [if_neg h3] at h
        by_cases h4 : 4096 - (vs.length : Int) < k
        · rw [if_pos h4] at h; injection h with _ h; exact absurd h (by decide)
        rw [if_neg h4] at h
        obtain ⟨p1, p2, p3, p4, p5⟩ := vget_at hb hg1
        obtain ⟨q1, q2, q3, q4, q5⟩ := vget_at hb hg2
        obtain ⟨t, rfl⟩ : ∃ t, k = t + 1 := ⟨k - 1, by omega⟩
        obtain ⟨rs, r1, r2, r3, r4, r5⟩ := ih (by omega) q3 (by rw [List.length_append, List.length_replicate]; omega) h
        rw [last_rep] at r2
        refine ⟨(unfS u, ((t + 1 : Nat) : Int)) :: rs, by rw [List.length_cons, r1], ⟨fun hh => h3 (.inr hh), by show (1 : Int) ≤ ((t + 1 : Nat) : Int); omega, unf_range p4, r2⟩, ?_, ?_, r5⟩
        · rw [r3, flat_cons]; simp
        · rw [encL_cons, ← r4]
          simp only [Int.toNat_natCast]
          rw [fold_unf (by omega), Int.toNat_natCast, p5, q5, show a1.toNat = a.toNat + (a1.toNat - a.toNat) from by omega, ← List.drop_drop]
          generalize hD : bs.drop a.toNat = D
          rw [show a2.toNat = a.toNat + ((a1.toNat - a.toNat) + (a2.toNat - a1.toNat)) from by omega, ← List.drop_drop, hD, ← List.drop_drop]
          rw [show a.toNat + (a1.toNat - a.toNat) - a.toNat = a1.toNat - a.toNat from by omega, show a.toNat + (a1.toNat - a.toNat + (a2.toNat - a1.toNat)) - (a.toNat + (a1.toNat - a.toNat)) = a2.toNat - a1.toNat from by omega]
          rw [List.take_append_drop, List.take_append_drop]
      · rw [if_pos he2] at h; injection h with _ h; exact absurd h he2
    · rw [if_pos he1] at h; injection h with _ h; exact absurd h he1

theorem decode8_only {bs : List Nat} {vs : List Int} (hb : U8 bs) (h : decode8 bs = (vs, 0)) : ∃ rs, GoodR none rs ∧ vs = flat rs ∧ bs = encR rs ∧ vs.length ≤ 4096 ∧ rs = rsp vs := by
  rcases hg : vget bs 0 with ⟨m, a, e⟩
  rw [decode8, hg] at h
  simp only at h
  by_cases he : e = 0
  · subst he
    simp only [ne_eq, not_true_eq_false, if_false] at h
    by_cases hm : 4096 < m
    · rw [if_pos hm] at h; injection h with _ h; exact absurd h (by decide)
    rw [if_neg hm] at h
    obtain ⟨p1, p2, p3, p4, p5⟩ := vget_at hb hg
    obtain ⟨rs, r1, r2, r3, r4, r5⟩ := decR_only hb (by omega) p3 (by simp) h
    rw [List.nil_append] at r3
    refine ⟨rs, r2, r3, ?_, r5, by rw [r3, rsp_of_flat r2]⟩
    rw [encR, r1, p5, ← r4]
    simp
  · rw [if_pos he] at h; injection h with _ h; exact absurd h he
theorem decode8_err {bs : List Nat} (he : (decode8 bs).2 ≠ 0) : (decode8 bs).1 = [] := by
  have hR : ∀ m vs a, (decR bs m vs a).2 ≠ 0 → (decR bs m vs a).1 = [] := by
    intro m
    induction m with
    | zero =>
      intro vs a h
      rw [decR] at h ⊢
      split
      · rfl
      · rename_i h2; rw [if_neg h2] at h; exact absurd rfl h
    | succ m ih =>
      intro vs a h
      rw [decR] at h ⊢
      split
      · rfl
      · rename_i h2; rw [if_neg h2] at h
        split
        · rfl
        · rename_i h3; rw [if_neg h3] at h
          split
          · rfl
          · rename_i h4; rw [if_neg h4] at h
            split
            · rfl
            · rename_i h5; rw [if_neg h5] at h
              exact ih _ _ h
  unfold decode8 at he ⊢
  split
  · rfl
  · rename_i h2; rw [if_neg h2] at he
    split
    · rfl
    · rename_i h3; rw [if_neg h3] at he
      exact hR _ _ _ he

/-- What Split and Encode answer. -/
def split8 (vs : List Int) : List (Int × Int) × Int := if 4096 < vs.length then ([], 4) else (rsp vs, 0)
def encode8 (vs : List Int) : List Nat × Int := if 4096 < vs.length then ([], 4) else (encR (rsp vs), 0)

end Go.Proofs.Ytoefhblojoaikaa
