/-
  Layer 9 as mathematics: what is encoded is decoded; bytes that are decoded are the only ones.
-/
import Derived.Test.YtoefhblojoaikaaP9j
namespace Go.Proofs.Ytoefhblojoaikaa
open Go.RowKit

theorem dst_above (l : Int) (far : List Nat) : dst l (above l far) = far := by
  unfold dst above
  rw [List.map_map]
  conv => rhs; rw [← List.map_id far]
  refine List.map_congr_left fun x _ => ?_
  show (l + (x : Int) - l).toNat = x
  omega
theorem above_dst {l : Int} {vs : List Int} (h : ∀ v ∈ vs, l ≤ v) : above l (dst l vs) = vs := by
  unfold dst above
  rw [List.map_map]
  conv => rhs; rw [← List.map_id vs]
  refine List.map_congr_left fun v hv => ?_
  have := h v hv
  show l + (((v - l).toNat : Nat) : Int) = v
  omega
theorem lo_above {l : Int} {far : List Nat} (h : 0 ∈ far) : lo (above l far) = l := by
  have h1 : l ∈ above l far := List.mem_map.2 ⟨0, h, by simp⟩
  have h2 := lo_le _ h1
  have h3 := lo_mem (List.length_pos_of_mem h1)
  obtain ⟨x, _, hx⟩ := List.mem_map.1 h3
  omega

theorem packL_ok {wd : Nat} {vs : List Nat} (h : packE wd vs = 0) : packL wd vs = packB wd vs := by unfold packL; rw [if_pos h]; rfl

/-- Bytes that are decoded are those of their numbers. -/
theorem only9 {bs : List Nat} (hu : U8 bs) (h : (decode9 bs).2 = 0) : encode9 (decode9 bs).1 = (bs, 0) ∧ R64s (decode9 bs).1 := by
  rcases hd : decode9 bs with ⟨vs, e⟩
  rw [hd] at h
  simp only at h
  subst h
  show encode9 vs = (bs, 0) ∧ R64s vs
  unfold decode9 at hd
  rcases hg : vget bs 0 with ⟨M, a, e1⟩
  rw [hg] at hd
  simp only at hd
  by_cases h1 : e1 = 0
  · subst h1
    rw [if_neg (by simp)] at hd
    obtain ⟨p1, p2, p3, p4, p5⟩ := vget_at hu hg
    by_cases h2 : 4096 < M
    · rw [if_pos h2] at hd; injection hd with _ hd; exact absurd hd (by decide)
    rw [if_neg h2] at hd
    by_cases h3 : M = 0
    · subst h3
      rw [if_pos rfl] at hd
      by_cases h4 : a < (bs.length : Int)
      · rw [if_pos h4] at hd; injection hd with _ hd; exact absurd hd (by decide)
      · rw [if_neg h4] at hd
        injection hd with hd _
        subst hd
        refine ⟨?_, fun v hv => by cases hv⟩
        have : bs = vput 0 := by
          rw [p5, show (0 : Int).toNat = 0 from rfl, List.drop_zero, List.take_of_length_le (by omega)]
        rw [this]
        rfl
    · rw [if_neg h3] at hd
      unfold decSome at hd
      rcases hg2 : vget bs a with ⟨u, a2, e2⟩
      rw [hg2] at hd
      simp only at hd
      by_cases h4 : e2 = 0
      · subst h4
        rw [if_neg (by simp)] at hd
        obtain ⟨q1, q2, q3, q4, q5⟩ := vget_at hu hg2
        obtain ⟨k, rfl⟩ : ∃ k : Nat, a = (k : Int) := ⟨a.toNat, by omega⟩
        obtain ⟨q, rfl⟩ : ∃ q : Nat, a2 = (q : Int) := ⟨a2.toNat, by omega⟩
        rw [Int.toNat_natCast] at hd
        simp only [Int.toNat_natCast, Int.toNat_zero, List.drop_zero, Nat.sub_zero] at p5 q5
        have hle := unf_range q4
        have hfu : foldS (unfS (u : Int)) = (u : Int) := fold_unf (by omega)
        obtain ⟨l, hl⟩ : ∃ l, l = unfS (u : Int) := ⟨_, rfl⟩
        rw [← hl] at hd hle hfu
        unfold decTail at hd
        by_cases h5 : q = bs.length
        · rw [if_pos h5] at hd; injection hd with _ hd; exact absurd hd (by decide)
        rw [if_neg h5] at hd
        obtain ⟨d, hde⟩ : ∃ d, d = bs.getD q 0 := ⟨_, rfl⟩
        rw [← hde] at hd
        by_cases h6 : 64 < d
        · rw [if_pos h6] at hd; injection hd with _ hd; exact absurd hd (by decide)
        rw [if_neg h6] at hd
        by_cases h7 : secE bs q M = 0
        · rw [if_neg (by simpa using h7)] at hd
          have hF := secL_len h7
          have hUe : secL bs q M = upk d M (pk 8 (bs.drop (q + 1))) := by
            unfold secL
            rw [unp_ok h7, ← hde, Int.toNat_natCast, Int.toNat_natCast]
          have hE : unpE (pk 8 (bs.drop (q + 1))) (bs.drop (q + 1)).length (d : Int) (M : Int) = 0 := by
            rw [List.length_drop]
            unfold secE at h7
            rw [← hde] at h7
            exact h7
          obtain ⟨c1, c2⟩ := pack_unp (by omega) (by omega) (fun v hv => hu v (List.mem_of_mem_drop hv)) hE
          rw [packL_ok c1, ← hUe] at c2
          obtain ⟨F, hFe⟩ : ∃ F, F = secL bs q M := ⟨_, rfl⟩
          rw [← hFe] at hd hF c2
          by_cases h8 : onlyF l d F = true
          · rw [if_pos h8] at hd
            injection hd with hd _
            subst hd
            unfold onlyF at h8
            simp only [Bool.and_eq_true, decide_eq_true_eq] at h8
            obtain ⟨g1, g2, g3⟩ := h8
            have hz := (loN_zero (by omega)).1 g2
            have hlo := lo_above (l := l) hz
            have hM : (above l F).length = M := by rw [above_len, hF]
            refine ⟨?_, ?_⟩
            · have hw : wid (above l F) = d := by unfold wid; rw [hlo, dst_above]; omega
              unfold encode9
              rw [if_neg (by omega)]
              unfold encP
              rw [if_neg (by omega), hM, hw, hlo, dst_above, c2, hfu, Int.toNat_natCast, p5, q5]
              congr 1
              have e1 : bs.drop q = d :: bs.drop (q + 1) := by rw [hde]; exact drop_cons (by omega)
              have e2 : (bs.drop k).take (q - k) ++ bs.drop q = bs.drop k := by
                conv => rhs; rw [← List.take_append_drop (q - k) (bs.drop k)]
                rw [List.drop_drop, show k + (q - k) = q from by omega]
              rw [List.singleton_append, ← e1, e2, List.take_append_drop]
            · intro v hv
              obtain ⟨x, hx, rfl⟩ := List.mem_map.1 hv
              have := le_hiN x hx
              unfold R64 at hle ⊢
              omega
          · rw [if_neg h8] at hd; injection hd with _ hd; exact absurd hd (by decide)
        · rw [if_pos h7] at hd; injection hd with _ hd; exact absurd hd h7
      · rw [if_pos h4] at hd; injection hd with _ hd; exact absurd hd h4
  · rw [if_pos h1] at hd; injection hd with _ hd; exact absurd hd h1

theorem decTail_err {bs : List Nat} {l : Int} {a n : Nat} (he : (decTail bs l a n).2 ≠ 0) : (decTail bs l a n).1 = [] := by
  unfold decTail at he ⊢
  by_cases h1 : a = bs.length
  · rw [if_pos h1]
  rw [if_neg h1] at he ⊢
  by_cases h2 : 64 < bs.getD a 0
  · rw [if_pos h2]
  rw [if_neg h2] at he ⊢
  by_cases h3 : secE bs a n ≠ 0
  · rw [if_pos h3]
  rw [if_neg h3] at he ⊢
  by_cases h4 : onlyF l (bs.getD a 0 : Nat) (secL bs a n) = true
  · rw [if_pos h4] at he; exact absurd rfl he
  · rw [if_neg h4]
theorem decode9_err {bs : List Nat} (he : (decode9 bs).2 ≠ 0) : (decode9 bs).1 = [] := by
  unfold decode9 at he ⊢
  by_cases h1 : (vget bs 0).2.2 ≠ 0
  · rw [if_pos h1]
  rw [if_neg h1] at he ⊢
  by_cases h2 : 4096 < (vget bs 0).1
  · rw [if_pos h2]
  rw [if_neg h2] at he ⊢
  by_cases h3 : (vget bs 0).1 = 0
  · rw [if_pos h3] at he ⊢
    by_cases h4 : (vget bs 0).2.1 < (bs.length : Int)
    · rw [if_pos h4]
    · rw [if_neg h4]
  rw [if_neg h3] at he ⊢
  unfold decSome at he ⊢
  by_cases h4 : (vget bs (vget bs 0).2.1).2.2 ≠ 0
  · rw [if_pos h4]
  rw [if_neg h4] at he ⊢
  exact decTail_err he

/-- What Decode answers of bytes that begin as Encode's do. -/
theorem decode9_form {V1 V2 T : List Nat} {n u d : Nat} (hn1 : 1 ≤ n) (hn : n ≤ 4096) (h1 : V1 = vput n) (h2 : V2 = vput u) (hu : u < 18446744073709551616) (hd : d ≤ 64) :
    decode9 (V1 ++ (V2 ++ (d :: T))) = if unpE (pk 8 T) T.length (d : Int) (n : Int) ≠ 0 then ([], unpE (pk 8 T) T.length (d : Int) (n : Int)) else
      if onlyF (unfS u) d (unpL (pk 8 T) T.length (d : Int) (n : Int)) = true then (above (unfS u) (unpL (pk 8 T) T.length (d : Int) (n : Int)), 0) else ([], 5) := by
  obtain ⟨bs, hb⟩ : ∃ bs, bs = V1 ++ (V2 ++ (d :: T)) := ⟨_, rfl⟩
  rw [← hb]
  obtain ⟨g1, b1, d1⟩ := vget_put (bs := bs) (a := 0) (u := n) (rest := V2 ++ (d :: T)) (by omega) (Nat.zero_le _) (by rw [List.drop_zero, hb, h1])
  rw [← h1] at g1 b1 d1
  obtain ⟨g2, b2, d2⟩ := vget_put (bs := bs) (a := 0 + V1.length) (u := u) (rest := d :: T) hu b1 (by rw [d1, h2])
  rw [← h2] at g2 b2 d2
  obtain ⟨q, hq⟩ : ∃ q, q = 0 + V1.length + V2.length := ⟨_, rfl⟩
  rw [← hq] at b2 d2
  have hql : q < bs.length := by
    have := congrArg List.length d2
    rw [List.length_drop, List.length_cons] at this
    omega
  have e1 := drop_cons hql
  rw [d2] at e1
  injection e1 with e2 e3
  have e4 : bs.length - (q + 1) = T.length := by rw [e3, List.length_drop]
  have hE : secE bs q n = unpE (pk 8 T) T.length (d : Int) (n : Int) := by unfold secE; rw [← e3, e4, ← e2]
  have hL : secL bs q n = unpL (pk 8 T) T.length (d : Int) (n : Int) := by unfold secL; rw [← e3, e4, ← e2]
  have g1' : vget bs 0 = (n, (((0 + V1.length : Nat)) : Int), 0) := by rw [show (0 : Int) = ((0 : Nat) : Int) from rfl, g1, Int.natCast_add]; rfl
  unfold decode9
  rw [g1']
  simp only
  rw [if_neg (by simp), if_neg (by omega), if_neg (by omega)]
  unfold decSome
  rw [g2]
  simp only
  rw [if_neg (by simp), ← Int.natCast_add, Int.toNat_natCast, ← hq]
  unfold decTail
  rw [if_neg (by omega), ← e2, if_neg (by omega), hE, hL]

/-- What is encoded is decoded again; a byte more isn't. -/
theorem back9 {vs : List Int} (hv : R64s vs) (h4 : vs.length ≤ 4096) : decode9 (encP vs) = (vs, 0) ∧ decode9 (encP vs ++ [0]) = ([], 3) := by
  by_cases hn : vs.length = 0
  · obtain rfl : vs = [] := List.eq_nil_of_length_eq_zero hn
    exact ⟨by decide +kernel, by decide +kernel⟩
  · have hlm := hv _ (lo_mem (show 0 < vs.length by omega))
    obtain ⟨f0, f1⟩ := fold_range hlm
    obtain ⟨u, hu⟩ : ∃ u : Nat, foldS (lo vs) = (u : Int) := ⟨(foldS (lo vs)).toNat, by omega⟩
    have hul : unfS (u : Int) = lo vs := by rw [← hu, unf_fold]
    have hw := wid_le hv (show 0 < vs.length by omega)
    have hdl := dst_len (lo vs) vs
    have hwd : Wd (wid vs) (dst (lo vs) vs) := wdt_le.1 (Nat.le_refl _)
    obtain ⟨c1, c2, c3⟩ := unp_pack hw (by omega) hwd
    rw [hdl] at c1 c2 c3
    have hP : ∀ r, encP vs ++ r = vput vs.length ++ (vput u ++ (wid vs :: (packB (wid vs) (dst (lo vs) vs) ++ r))) := fun r => by
      unfold encP
      rw [if_neg hn, hu, Int.toNat_natCast]
      simp
    refine ⟨?_, ?_⟩
    · have := hP []
      rw [List.append_nil, List.append_nil] at this
      rw [this, decode9_form (by omega) h4 rfl rfl (by omega) hw, if_neg (by simpa using c1), c2, hul, if_pos, above_dst lo_le]
      unfold onlyF
      simp only [Bool.and_eq_true, decide_eq_true_eq]
      have hz : 0 ∈ dst (lo vs) vs := List.mem_map.2 ⟨lo vs, lo_mem (by omega), by simp⟩
      refine ⟨rfl, (loN_zero (by omega)).2 hz, ?_⟩
      obtain ⟨v, hvm, hve⟩ := List.mem_map.1 (hiN_mem (xs := dst (lo vs) vs) (by omega))
      have h1 := hv v hvm
      have h2 := lo_le v hvm
      unfold R64 at h1
      omega
    · rw [hP [0], decode9_form (by omega) h4 rfl rfl (by omega) hw, List.length_append, List.length_singleton, c3, if_pos (by decide)]

end Go.Proofs.Ytoefhblojoaikaa
