import Derived.Test.YtfghepkojcebfaaGreatG17

/-
  Layer 12: what cells write is read as these cells (mathematics).
-/
namespace Go.Proofs.YtfghepkojcebfaaGreat
open Go.RowKit
set_option maxRecDepth 100000

theorem wN_fwd : ∀ (xs : List Ci), (∀ x ∈ xs, x.nul = true → x.num = 0 ∧ x.txt = []) → wN (nb xs) ((nn xs).map Ci.val) = xs.map Ci.val
  | [], _ => rfl
  | x :: r, h => by
    have ih := wN_fwd r (fun y hy => h y (List.mem_cons_of_mem _ hy))
    have hx := h x (List.mem_cons_self ..)
    obtain ⟨nu, num, A, c, t⟩ := x
    cases nu with
    | true =>
      obtain ⟨h1, h2⟩ := hx rfl
      simp only at h1 h2
      subst h1 h2
      show wN (1 :: nb r) ((nn r).map Ci.val) = _
      rw [wN_null rfl, ih]
      rfl
    | false =>
      show wN (0 :: nb r) (Ci.val ⟨false, num, A, c, t⟩ :: (nn r).map Ci.val) = _
      rw [wN_val (by decide), ih]
      rfl
theorem nb_count : ∀ (xs : List Ci), (nb xs).count 0 = (nn xs).length
  | [] => rfl
  | x :: r => by
    have ih := nb_count r
    obtain ⟨nu, num, A, c, t⟩ := x
    cases nu with
    | true =>
      show (1 :: nb r).count 0 = (nn r).length
      rw [List.count_cons_of_ne (by decide), ih]
    | false =>
      show (0 :: nb r).count 0 = (nn r).length + 1
      rw [List.count_cons_self, ih]

theorem nullR_fwd (pre rest : List Nat) {xs : List Ci} (hn : xs.length ≤ 4096) :
    nullR (pre ++ (nullsL xs ++ rest)) pre.length xs.length = ((nb xs, ((pre.length + (nullsL xs).length : Nat) : Int)), 0) := by
  by_cases h1 : 1 ∈ nb xs
  · have hN : nullsL xs = 1 :: packB 1 (nb xs) := if_pos h1
    obtain ⟨R, hR⟩ : ∃ R, R = packB 1 (nb xs) := ⟨_, rfl⟩
    obtain ⟨u1, u2, _⟩ := unp_pack (wd := 1) (vs := nb xs) (by decide) (by rw [nb_len]; exact hn) (nb_wd xs)
    rw [← hR, nb_len] at u1 u2
    have hRl : R.length = (xs.length + 7) / 8 := by rw [hR]; unfold packB; rw [upk_len, nb_len, Nat.one_mul]
    rw [← hR] at hN
    rw [hN]
    unfold nullR
    rw [if_neg (by simp)]
    have hg : (pre ++ (1 :: R ++ rest)).getD pre.length 0 = 1 := by simp
    rw [hg, if_neg (by decide), if_pos rfl]
    have hd : ((pre ++ (1 :: R ++ rest)).drop (pre.length + 1)).take ((xs.length + 7) / 8) = R := by
      rw [← List.drop_drop, List.drop_left, List.cons_append, List.drop_succ_cons, List.drop_zero, ← hRl, List.take_left]
    unfold rowR
    rw [hd, ← hRl, if_neg (by simp; omega)]
    have u1' : unpE (pk 8 R) R.length 1 (xs.length : Int) = 0 := u1
    have u2' : unpL (pk 8 R) R.length 1 (xs.length : Int) = nb xs := u2
    rw [u1', u2', if_neg (fun q => q rfl), if_neg (by have := List.count_pos_iff.2 h1; omega), List.length_cons]
    congr 3
    omega
  · have hN : nullsL xs = [0] := if_neg h1
    rw [hN]
    unfold nullR
    rw [if_neg (by simp)]
    have hg : (pre ++ ([0] ++ rest)).getD pre.length 0 = 0 := by simp
    rw [hg, if_pos rfl]
    have hb : nb xs = List.replicate xs.length 0 := by
      rw [← nb_len xs]
      exact List.eq_replicate_of_mem fun v hv => by
        have h2 := nb_wd xs v hv
        have h3 : v ≠ 1 := fun e => h1 (e ▸ hv)
        omega
    rw [← hb]
    rfl

/-- Cells that stand for themselves by their kind. -/
def Canon (k : Int) (ys : List Ci) : Prop := ∀ y ∈ ys, y.nul = false ∧ (numK k = true → y.txt = []) ∧ (numK k = false → y.num = 0) ∧ R64 y.num ∧ y.txt.length ≤ 200

theorem pcR_fwd {k : Int} {y : Ci} (pre rest : List Nat) (h1 : numK k = true → y.txt = []) (h2 : numK k = false → y.num = 0) (h3 : R64 y.num) (h4 : y.txt.length ≤ 200) :
    pcR k (pre ++ (plain1 k y ++ rest)) (pre.length : Int) = ((y.num, y.txt), ((pre.length + (plain1 k y).length : Nat) : Int), 0) := by
  unfold pcR plain1
  cases hk : numK k with
  | true =>
    rw [if_pos rfl, if_pos rfl]
    have hr := fold_range h3
    obtain ⟨g, _, _⟩ := vget_put (bs := pre ++ (vput (foldS y.num).toNat ++ rest)) (rest := rest) (a := pre.length) (u := (foldS y.num).toNat) (by omega) (by simp) (by rw [List.drop_left])
    rw [g, if_neg (fun q => q rfl), h1 hk]
    simp only
    rw [Int.toNat_of_nonneg hr.1, unf_fold]
    congr 2
  | false =>
    rw [if_neg (by decide), if_neg (by decide), List.append_assoc, dtx_put pre y.txt rest h4, h2 hk]
    congr 2

theorem plA_fwd {k : Int} : ∀ (ys : List Ci) (pre : List Nat) (acc : List Cv), Canon k ys → plA k (pre ++ plainL k ys) ys.length (pre.length : Int) acc = (acc ++ ys.map Ci.val, ((pre ++ plainL k ys).length : Int), 0)
  | [], pre, acc, _ => by simp [plA, plainL]
  | y :: r, pre, acc, h => by
    obtain ⟨y0, y1, y2, y3, y4⟩ := h y (List.mem_cons_self ..)
    have e : plainL k (y :: r) = plain1 k y ++ plainL k r := by simp [plainL]
    have ih := plA_fwd r (pre ++ plain1 k y) (acc ++ [(false, y.num, y.txt)]) (fun z hz => h z (List.mem_cons_of_mem _ hz))
    rw [List.length_cons]
    unfold plA
    rw [e, pcR_fwd pre (plainL k r) y1 y2 y3 y4, if_neg (fun q => q rfl)]
    simp only
    rw [List.append_assoc, List.length_append] at ih
    rw [ih, List.map_cons, List.append_assoc]
    have hv : y.val = (false, y.num, y.txt) := by unfold Ci.val; rw [y0]
    rw [hv]
    rfl

theorem valuesR_fwd (k cd : Int) (hm : cd ∈ codecs k) {ys : List Ci} (hc : Canon k ys) (hl : ys.length ≤ 4096) : valuesR k cd (valR k cd ys).1 ys.length = (ys.map Ci.val, 0) := by
  have h64 : R64s (ys.map Ci.num) := fun v hv => by
    obtain ⟨y, hy, rfl⟩ := List.mem_map.1 hv
    exact (hc y hy).2.2.2.1
  have h200 : ∀ s ∈ ys.map Ci.txt, s.length ≤ 200 := fun s hs => by
    obtain ⟨y, hy, rfl⟩ := List.mem_map.1 hs
    exact (hc y hy).2.2.2.2
  have hz : numK k = true → (ys.map Ci.num).map (fun v => (false, v, ([] : List Nat))) = ys.map Ci.val := fun hk => by
    rw [List.map_map]
    refine List.map_congr_left fun y hy => ?_
    obtain ⟨y0, y1, _⟩ := hc y hy
    show (false, y.num, []) = (y.nul, y.num, y.txt)
    rw [y0, y1 hk]
  have ht : numK k = false → (ys.map Ci.txt).map (fun t => (false, (0 : Int), t)) = ys.map Ci.val := fun hk => by
    rw [List.map_map]
    refine List.map_congr_left fun y hy => ?_
    obtain ⟨y0, _, y2, _⟩ := hc y hy
    show (false, 0, y.txt) = (y.nul, y.num, y.txt)
    rw [y0, y2 hk]
  have hln : (ys.map Ci.num).length = ys.length := List.length_map ..
  have hlt : (ys.map Ci.txt).length = ys.length := List.length_map ..
  unfold valuesR
  by_cases c1 : cd = 1
  · subst c1
    rw [if_pos rfl]
    have hv : valR k 1 ys = (plainL k ys, 0) := rfl
    rw [hv]
    have h := plA_fwd ys [] [] hc
    rw [List.nil_append, List.nil_append] at h
    unfold gplR
    have h' : plA k (plainL k ys) ys.length 0 [] = (ys.map Ci.val, ((plainL k ys).length : Int), 0) := h
    rw [h', if_neg (fun q => q rfl), if_neg (Int.lt_irrefl _)]
  rw [if_neg c1]
  have done : ∀ b, codR cd b = (ys.map Ci.val, 0) → (if (codR cd b).2 ≠ 0 then (([] : List Cv), (codR cd b).2) else if (codR cd b).1.length ≠ ys.length then ([], 5) else ((codR cd b).1, 0)) = (ys.map Ci.val, 0) := fun b hb => by
    rw [hb, if_neg (fun q => q rfl), if_neg (fun q => q (List.length_map ..))]
  refine done _ ?_
  unfold codR valR
  unfold codecs at hm
  cases hk : numK k with
  | true =>
    rw [hk, if_pos rfl] at hm
    by_cases c2 : cd = 2
    · subst c2
      rw [if_pos rfl, if_pos rfl]
      have hs : encode8 (ys.map Ci.num) = (encR (rsp (ys.map Ci.num)), 0) := by unfold encode8; rw [if_neg (by omega)]
      have hd : decode8 (encR (rsp (ys.map Ci.num))) = (ys.map Ci.num, 0) := by
        have := decode8_enc (rs := rsp (ys.map Ci.num)) [] (rsp_good h64) (by rw [rsp_flat h64]; omega)
        rw [List.append_nil, if_pos rfl, rsp_flat h64] at this
        exact this
      rw [hs, hd]
      unfold zR
      rw [if_neg (fun q => q rfl), hz hk]
    · have c3 : cd = 3 := by simp at hm; omega
      subst c3
      rw [if_neg (by decide), if_pos rfl, if_neg (by decide), if_pos rfl]
      have hs : encode9 (ys.map Ci.num) = (encP (ys.map Ci.num), 0) := by unfold encode9; rw [if_neg (by omega)]
      rw [hs, (back9 h64 (by omega)).1]
      unfold zR
      rw [if_neg (fun q => q rfl), hz hk]
  | false =>
    rw [hk, if_neg (by decide)] at hm
    by_cases c4 : cd = 4
    · subst c4
      rw [if_neg (by decide), if_neg (by decide), if_pos rfl, if_neg (by decide), if_neg (by decide), if_pos rfl, dencR_good (by omega) (noLong12 h200), ddec_put (by omega) (noLong12 h200)]
      unfold tR
      rw [if_neg (fun q => q rfl), ht hk]
    · have c5 : cd = 5 := by simp at hm; omega
      subst c5
      rw [if_neg (by decide), if_neg (by decide), if_neg (by decide), if_neg (by decide), if_neg (by decide), if_neg (by decide), if_pos rfl, pencR_good (by omega) (noLong12 h200)]
      have hp := pdec_put (ys.map Ci.txt) [] (by omega) h200
      rw [List.append_nil] at hp
      have hp2 : pdec (penc (ys.map Ci.txt)) = (ys.map Ci.txt, 0) := hp
      show tR (pdec (penc (ys.map Ci.txt))) = _
      rw [hp2]
      unfold tR
      rw [if_neg (fun q => q rfl), ht hk]

end Go.Proofs.YtfghepkojcebfaaGreat

/-
  Layer 12: a block that was written is read again (mathematics).
-/
namespace Go.Proofs.YtfghepkojcebfaaGreat
open Go.RowKit
set_option maxRecDepth 100000

theorem chk_canon {k : Int} {nul : Bool} {num : Int} {txt : List Nat} (hk : 1 ≤ k ∧ k ≤ 8) (h : chk k true nul num txt = 0) :
    (nul = true → num = 0 ∧ txt = []) ∧ (nul = false → (numK k = true → txt = []) ∧ (numK k = false → num = 0)) := by
  constructor
  · rintro rfl
    rw [chk_null hk, if_pos rfl] at h
    by_cases q : num ≠ 0 ∨ 0 < txt.length
    · rw [if_pos q] at h; exact absurd h (by decide)
    · exact ⟨Decidable.not_not.1 (fun e => q (.inl e)), List.eq_nil_of_length_eq_zero (by have : ¬ 0 < txt.length := fun e => q (.inr e); omega)⟩
  · rintro rfl
    constructor
    · intro h6
      have h6' := of_decide_eq_true h6
      rw [chk_num h6'] at h
      by_cases q : 0 < txt.length
      · rw [if_pos q] at h; exact absurd h (by decide)
      · exact List.eq_nil_of_length_eq_zero (by omega)
    · intro h6
      have h6' := of_decide_eq_false h6
      rw [chk_txt (by omega)] at h
      by_cases q : num ≠ 0
      · rw [if_pos q] at h; exact absurd h (by decide)
      · exact Decidable.not_not.1 q

theorem canon_of {k : Int} {xs : List Ci} (hk : 1 ≤ k ∧ k ≤ 8) (h : chkB k xs = 0) (h64 : R64s (xs.map Ci.num)) : Canon k (nn xs) ∧ ∀ x ∈ xs, x.nul = true → x.num = 0 ∧ x.txt = [] := by
  obtain ⟨_, g2, g3⟩ := chkB_good h
  refine ⟨fun y hy => ?_, fun x hx hn => (chk_canon hk (g2 x hx)).1 hn⟩
  have hyx := nn_mem hy
  have hn : y.nul = false := by
    have := (List.mem_filter.1 hy).2
    simpa using this
  obtain ⟨c1, c2⟩ := (chk_canon hk (g2 y hyx)).2 hn
  exact ⟨hn, c1, c2, h64 _ (List.mem_map_of_mem hyx), g3 y hyx⟩

theorem getB_fwd (k cd : Int) (hm : cd ∈ codecs k) (hk : 1 ≤ k ∧ k ≤ 8) {xs : List Ci} (h : chkB k xs = 0) (h64 : R64s (xs.map Ci.num)) : getB k (outW k cd xs) = (xs.map Ci.val, 0) := by
  obtain ⟨hc, hnul⟩ := canon_of hk h h64
  obtain ⟨g1, _, _⟩ := chkB_good h
  have hcd := codecs_mem hm
  obtain ⟨d, rfl⟩ : ∃ d : Nat, cd = d := ⟨cd.toNat, by omega⟩
  have hv := valuesR_fwd k d hm hc (by have := nn_le xs; omega)
  have hbs : outW k d xs = ([d] ++ vput xs.length) ++ (nullsL xs ++ (valR k d (nn xs)).1) := by unfold outW; rw [Int.toNat_natCast, List.append_assoc]
  obtain ⟨V, hV⟩ : ∃ V, V = (valR k d (nn xs)).1 := ⟨_, rfl⟩
  rw [← hV] at hv hbs
  have hN := nullR_fwd ([d] ++ vput xs.length) V g1
  rw [← hbs] at hN
  obtain ⟨bs, hb⟩ : ∃ bs, bs = outW k d xs := ⟨_, rfl⟩
  rw [← hb] at hN hbs ⊢
  have hlen : bs.length ≠ 0 := by rw [hbs]; simp
  have hd0 : bs.getD 0 0 = d := by rw [hbs]; rfl
  obtain ⟨q, _, _⟩ := vget_put (bs := bs) (rest := nullsL xs ++ V) (a := 1) (u := xs.length) (by omega) (by omega) (by rw [hbs]; rfl)
  have q' : vget bs 1 = (xs.length, ((([d] ++ vput xs.length).length : Nat) : Int), 0) := by
    have q1 : vget bs 1 = (xs.length, 1 + ((vput xs.length).length : Int), 0) := q
    rw [q1, List.length_append, List.length_singleton]
    congr 2
  have hdrop : bs.drop (([d] ++ vput xs.length).length + (nullsL xs).length) = V := by
    rw [hbs, ← List.drop_drop, List.drop_left, List.drop_left]
  unfold getB
  rw [if_neg hlen, hd0, if_neg (fun e => e hm), q']
  simp only [Int.toNat_natCast]
  rw [hN]
  simp only [Int.toNat_natCast]
  rw [hdrop, nb_count, hv]
  simp only [ne_eq, not_true_eq_false, if_false]
  rw [if_neg (by omega), wN_fwd xs hnul]

theorem bencR_ok {k cd : Int} {xs : List Ci} (h : (bencR k cd xs).2 = 0) : (1 ≤ k ∧ k ≤ 8) ∧ cd ∈ codecs k ∧ chkB k xs = 0 ∧ (outW k cd xs).length + 4 ≤ 65000 ∧ bencR k cd xs = (sl (outW k cd xs), 0) := by
  unfold bencR at h ⊢
  by_cases h1 : kindK k = false
  · rw [if_pos h1] at h; exact absurd h (by decide)
  rw [if_neg h1] at h ⊢
  by_cases h2 : cd ∈ codecs k
  · rw [if_neg (fun q => q h2)] at h ⊢
    by_cases h3 : chkB k xs = 0
    · rw [if_neg (fun q => q h3), putR_outW k cd h3, if_neg (fun q => q rfl)] at h ⊢
      have h4 : sealE (outW k cd xs) = 0 := h
      have h5 : (outW k cd xs).length + 4 ≤ 65000 := by
        unfold sealE at h4
        by_cases q : 65000 < (outW k cd xs).length + 4
        · rw [if_pos q] at h4; exact absurd h4 (by decide)
        · omega
      refine ⟨?_, h2, h3, h5, ?_⟩
      · exact Decidable.byContradiction fun q => h1 (decide_eq_false q)
      · simp only
        rw [h4]
        unfold sealL
        rw [if_neg (by omega)]
    · rw [if_pos h3] at h; exact absurd h h3
  · rw [if_pos h2] at h; exact absurd h (by decide)

/-- What was encoded is decoded again. -/
theorem bdec_fwd {k cd : Int} {xs : List Ci} (h64 : R64s (xs.map Ci.num)) (hu : ∀ x ∈ xs, U8 x.txt) (h : (bencR k cd xs).2 = 0) : bdecR k (bencR k cd xs).1 = (xs.map Ci.val, 0) := by
  obtain ⟨hk, hm, hc, hl, he⟩ := bencR_ok h
  rw [he]
  have hU := outW_u8 k cd (codecs_mem hm) h64 hu
  have hG := getB_fwd k cd hm hk hc h64
  obtain ⟨O, hO⟩ : ∃ O, O = outW k cd xs := ⟨_, rfl⟩
  rw [← hO] at hU hG hl ⊢
  show bdecR k (sl O) = _
  have ht : (sl O).take ((sl O).length - 4) = O := by
    rw [sl_len, Nat.add_sub_cancel]
    unfold sl
    rw [List.take_left]
  unfold bdecR
  rw [if_neg (by unfold kindK; rw [decide_eq_true hk]; decide), if_neg (by rw [sl_len]; omega), if_neg (fun q => q (sld_seal hU)), ht, hG, if_neg (fun q => q rfl)]
  simp only
  rw [← chkB_val, hc, if_neg (fun q => q rfl)]

end Go.Proofs.YtfghepkojcebfaaGreat

/-
  Layer 12: the statement BlockBack, walked.
-/
namespace Go.Proofs.YtfghepkojcebfaaGreat
open Go.RowKit
set_option maxRecDepth 100000

theorem bestF_spec {k : Int} {xs : List Ci} (hc : chkB k xs = 0) : ∀ (L : List Int) (s : Int × List Nat), (∀ cd ∈ L, cd ∈ codecs k) → (s.1 ≠ 0 → s.2 = outW k s.1 xs ∧ s.1 ∈ codecs k) →
    ∃ r, bestF k xs L s = (r, 0) ∧ (r.1 ≠ 0 → r.2 = outW k r.1 xs ∧ r.1 ∈ codecs k) ∧ (∀ cd ∈ L, r.1 ≠ 0 ∧ r.2.length ≤ (outW k cd xs).length) ∧ (s.1 ≠ 0 → r.1 ≠ 0 ∧ r.2.length ≤ s.2.length)
  | [], s, _, hs => ⟨s, rfl, hs, fun cd h => (by cases h), fun h => ⟨h, Nat.le_refl _⟩⟩
  | cd :: cs, s, hL, hs => by
    have hcd := hL cd (List.mem_cons_self ..)
    have hne : cd ≠ 0 := by have := codecs_mem hcd; omega
    unfold bestF
    rw [putR_outW k cd hc, if_neg (fun q => q rfl)]
    simp only
    by_cases q : s.1 = 0 ∨ (outW k cd xs).length < s.2.length
    · rw [if_pos q]
      obtain ⟨r, r1, r2, r3, r4⟩ := bestF_spec hc cs (cd, outW k cd xs) (fun c h => hL c (List.mem_cons_of_mem _ h)) (fun _ => ⟨rfl, hcd⟩)
      obtain ⟨r5, r6⟩ := r4 hne
      refine ⟨r, r1, r2, fun c h => ?_, fun h => ⟨r5, ?_⟩⟩
      · rcases List.mem_cons.1 h with rfl | h
        · exact ⟨r5, r6⟩
        · exact r3 c h
      · have r6' : r.2.length ≤ (outW k cd xs).length := r6
        rcases q with q | q
        · exact absurd q h
        · omega
    · rw [if_neg q]
      have hs1 : s.1 ≠ 0 := fun e => q (.inl e)
      have hs2 : ¬ (outW k cd xs).length < s.2.length := fun e => q (.inr e)
      obtain ⟨r, r1, r2, r3, r4⟩ := bestF_spec hc cs s (fun c h => hL c (List.mem_cons_of_mem _ h)) hs
      obtain ⟨r5, r6⟩ := r4 hs1
      refine ⟨r, r1, r2, fun c h => ?_, r4⟩
      rcases List.mem_cons.1 h with rfl | h
      · exact ⟨r5, by omega⟩
      · exact r3 c h
/-- Where one codec writes cells, Best does. -/
theorem bbestR_ok {k cd : Int} {xs : List Ci} (h : (bencR k cd xs).2 = 0) : ∃ c' P, bbestR k xs = ((c', P), 0) ∧ bencR k c' xs = (P, 0) := by
  obtain ⟨hk, hm, hc, hl, _⟩ := bencR_ok h
  obtain ⟨r, r1, r2, r3, _⟩ := bestF_spec hc (codecs k) (0, []) (fun c q => q) (fun q => absurd rfl q)
  obtain ⟨h0, h1⟩ := r3 cd hm
  obtain ⟨e1, e2⟩ := r2 h0
  have hs : sealE r.2 = 0 := by unfold sealE; rw [if_neg (by omega)]
  have hK : ¬ kindK k = false := by unfold kindK; rw [decide_eq_true hk]; decide
  refine ⟨r.1, sealL r.2, ?_, ?_⟩
  · unfold bbestR
    rw [if_neg hK, if_neg (fun q => q hc), r1, if_neg (fun q => q rfl)]
    simp only
    rw [hs, if_neg (fun q => q rfl)]
  · unfold bencR
    rw [if_neg hK, if_neg (fun q => q e2), if_neg (fun q => q hc), putR_outW k r.1 hc, if_neg (fun q => q rfl)]
    simp only
    rw [← e1, hs]
theorem bencR_bad {k cd : Int} {xs : List Ci} (h : (bencR k cd xs).2 ≠ 0) : (bencR k cd xs).1 = [] := by
  unfold bencR at h ⊢
  split
  · rfl
  · rename_i h1
    rw [if_neg h1] at h
    split
    · rfl
    · rename_i h2
      rw [if_neg h2] at h
      split
      · rfl
      · rename_i h3
        rw [if_neg h3] at h
        split
        · rfl
        · rename_i h4
          rw [if_neg h4] at h
          simp only at h ⊢
          unfold sealE at h
          unfold sealL
          split
          · rfl
          · rename_i h5
            rw [if_neg h5] at h
            exact absurd rfl h
theorem val_in12 {w : World} {xs : List Ci} (h : ∀ x ∈ xs, x.In w) (h2 : ∀ x ∈ xs, x.txt.length ≤ 200) : ∀ v ∈ xs.map Ci.val, VIn v := by
  intro v hv
  obtain ⟨x, hx, rfl⟩ := List.mem_map.1 hv
  have := h x hx
  exact ⟨this.u8, this.lo, this.hi, h2 x hx⟩

set_option maxHeartbeats 3200000 in
theorem walk_BlockBack (k cd : Int) (A : Option Addr) (n c : Nat) (xs : List Ci) (w : World) (hx : RdX w A n xs) (hn : n * 40 ≤ 140737488351232) (hc : CapX xs) :
    Calls Tryz.prog 6 #[.int .i64 k, .int .i64 cd, .slice A n c] w fun e w' => e = .returned (.bool true) ∧ Ext w w' := by
  have HB := Lib.hid (fun W (hW : Ext w W) => bencode_any k cd A n c xs W (hx.ext hW) hc (by omega))
  have HF := Lib.hid (fun W (hW : Ext w W) => refBencode_any k cd A n c xs W (hx.ext hW) hc (by omega))
  have HT := Lib.hid (fun W (hW : Ext w W) => bbest_any k A n c xs W (hx.ext hW) hc (by omega))
  have hn2 : n ≤ 4398046511104 := by omega
  by_cases h0 : (bencR k cd xs).2 = 0
  · have hb1 := bdec_fwd hx.nums (fun x h => (hx.all x h).u8) h0
    obtain ⟨c', P2, hbb, hbe⟩ := bbestR_ok h0
    have hb2 := bdec_fwd (k := k) (cd := c') hx.nums (fun x h => (hx.all x h).u8) (by rw [hbe])
    rw [hbe] at hb2
    have hu1 := bencR_u8 k cd hx.nums (fun x h => (hx.all x h).u8)
    have hu2 := bencR_u8 k c' hx.nums (fun x h => (hx.all x h).u8)
    rw [hbe] at hu2
    have hl1 := bencR_len k cd xs
    have hl2 := bencR_len k c' xs
    rw [hbe] at hl2
    obtain ⟨_, _, hck, _, _⟩ := bencR_ok h0
    have Hvi := Lib.hid (val_in12 hx.all (chkB_good hck).2.2)
    unfold PEncPost at HB HF
    unfold BestPost at HT
    rw [hbb] at HT
    rw [h0] at HB HF
    obtain ⟨P, hP⟩ : ∃ P, P = (bencR k cd xs).1 := ⟨_, rfl⟩
    rw [← hP] at HB HF hb1 hu1 hl1
    simp only at HT hb2 hu2 hl2
    obtain ⟨p, hp⟩ : ∃ p, p = P.length := ⟨_, rfl⟩
    obtain ⟨p2, hp2⟩ : ∃ p2, p2 = P2.length := ⟨_, rfl⟩
    rw [← hp] at HB HF hl1
    rw [← hp2] at HT hl2
    have Hp := Lib.hid hp.symm
    have Hp2 := Lib.hid hp2.symm
    have HD1 := Lib.hid (fun W A' c1 (hr : Rd .u8 W A' p P) (h1 : p ≤ c1) (h2 : c1 ≤ 9223372036854775807) => bdecode_any k A' p c1 P W hr hu1 (by omega) h1 h2)
    have HD2 := Lib.hid (fun W A' c1 (hr : Rd .u8 W A' p2 P2) (h1 : p2 ≤ c1) (h2 : c1 ≤ 9223372036854775807) => bdecode_any k A' p2 c1 P2 W hr hu2 (by omega) h1 h2)
    unfold GcPost at HD1 HD2
    rw [hb1] at HD1
    rw [hb2] at HD2
    have hvl : (xs.map Ci.val).length = n := by rw [List.length_map]; exact hx.1
    simp only [hvl] at HD1 HD2
    have Hvl := Lib.hid hvl
    have Hx := Lib.hid hx
    clear hb1 hb2 hbb hbe hu1 hu2 hl1 hl2 hck h0 hP hp hp2 hvl hx hc hn
    go_enter Tryz.func6, Tryz.ntmps6
    go_wp2_with fail
    refine (alive12 _).mono ?_
    rintro e w1 ⟨rfl, he1⟩
    go_wp2_with fail
    refine (HB.out _ he1).mono ?_
    rintro e w2 ⟨A2, c2, rfl, ho2, he2⟩
    have hE2 := he1.trans he2
    go_wp2_with fail
    refine (HF.out _ hE2).mono ?_
    rintro e w3 ⟨A3, c3, rfl, ho3, he3⟩
    have hE3 := hE2.trans he3
    have hcp2 := ho2.cap
    rw [Hp.out] at hcp2
    go_wp2_with fail
    refine (HD1.out _ A2 c2 ((ho2.ext he3).rd' Hp.out) hcp2.1 hcp2.2).mono ?_
    rintro e w4 ⟨fs, A4, c4, rfl, hv4, ho4, ht4, he4⟩
    have hE4 := hE3.trans he4
    have hf4 : fs.length = n := by rw [← Hvl.out, ← hv4, List.length_map]
    have hr4 := Lib.hid (ans_rdX hv4 hf4 Hvi.out ho4 (fun f hf => (ht4.1 f hf).rd))
    have Hv4 := Lib.hid hv4
    clear ho4 ht4 hv4 hf4 hcp2 ho3 he3
    go_wp2_with fail
    refine (HT.out _ hE4).mono ?_
    rintro e w5 ⟨A5, c5, rfl, ho5, he5⟩
    have hE5 := hE4.trans he5
    have hcp5 := ho5.cap
    rw [Hp2.out] at hcp5
    go_wp2_with fail
    refine (HD2.out _ A5 c5 (ho5.rd' Hp2.out) hcp5.1 hcp5.2).mono ?_
    rintro e w6 ⟨gs, A6, c6, rfl, hv6, ho6, ht6, he6⟩
    have hE6 := hE5.trans he6
    have hf6 : gs.length = n := by rw [← Hvl.out, ← hv6, List.length_map]
    have hr6 := Lib.hid (ans_rdX hv6 hf6 Hvi.out ho6 (fun f hf => (ht6.1 f hf).rd))
    have hA1 := Lib.hid (fun W (hW : Ext w6 W) => alikeRow_any A4 n c4 fs A n c xs W ((hr4.out.ext (he5.trans he6)).ext hW) (Hx.out.ext (hE6.trans hW)) (by omega) (by omega))
    have hA2 := Lib.hid (fun W (hW : Ext w6 W) => alikeRow_any A6 n c6 gs A n c xs W (hr6.out.ext hW) (Hx.out.ext (hE6.trans hW)) (by omega) (by omega))
    rw [alkR_iff.2 Hv4.out] at hA1
    rw [alkR_iff.2 hv6] at hA2
    clear ho6 ht6 hv6 hf6 hcp5
    go_wp2_with fail
    refine (hA1.out _ (Ext.refl _)).mono ?_
    rintro e w7 ⟨rfl, he7⟩
    go_wp2_with fail
    refine (hA2.out _ he7).mono ?_
    rintro e w8 ⟨rfl, he8⟩
    go_wp2_with fail
    go_ret
    exact ⟨rfl, (hE6.trans he7).trans he8⟩
  · have hP0 := bencR_bad h0
    obtain ⟨F, hF⟩ : ∃ F, F = (bencR k cd xs).2 := ⟨_, rfl⟩
    unfold PEncPost at HB HF
    rw [← hF] at HB HF h0
    rw [hP0] at HB HF
    simp only [List.length_nil] at HB HF
    have k1 : (F == F) = true := by simp
    have k2 : (F != 0) = true := by simp [h0]
    clear hP0 hF hx hc hn h0 HT
    go_enter Tryz.func6, Tryz.ntmps6
    go_wp2_with fail
    refine (alive12 _).mono ?_
    rintro e w1 ⟨rfl, he1⟩
    go_wp2_with fail
    refine (HB.out _ he1).mono ?_
    rintro e w2 ⟨A2, c2, rfl, ho2, he2⟩
    have hE2 := he1.trans he2
    go_wp2_with fail
    refine (HF.out _ hE2).mono ?_
    rintro e w3 ⟨A3, c3, rfl, ho3, he3⟩
    have hE3 := hE2.trans he3
    clear ho2 ho3
    go_wp2_with fail
    go_ret
    exact ⟨rfl, hE3⟩

end Go.Proofs.YtfghepkojcebfaaGreat

/-
  Layer 12: Best, the document's.
-/
namespace Go.Proofs.YtfghepkojcebfaaGreat
open Go.RowKit
set_option maxRecDepth 100000

/-- One codec more, as the document goes on. -/
def stepR (k : Int) (xs : List Ci) (c : Int) (t : Int × List Nat) : Int × List Nat :=
  if sealE (outW k c xs) = 0 ∧ (t.1 = 0 ∨ (sealL (outW k c xs)).length < t.2.length) then (c, sealL (outW k c xs)) else t
def rbN (k : Int) (xs : List Ci) : Nat → Int → Int × List Nat → Int × List Nat
  | 0, _, t => t
  | m + 1, c, t => rbN k xs m (c + 1) (if c ∈ codecs k then stepR k xs c t else t)
def foldR (k : Int) (xs : List Ci) : List Int → Int × List Nat → Int × List Nat
  | [], t => t
  | c :: cs, t => foldR k xs cs (stepR k xs c t)
theorem rbN_fold (k : Int) (xs : List Ci) (t : Int × List Nat) : rbN k xs 5 1 t = foldR k xs (codecs k) t := by
  have h1 : (1 : Int) ∈ codecs k := by unfold codecs; split <;> simp
  cases hk : numK k with
  | true =>
    have e : codecs k = [1, 2, 3] := by unfold codecs; rw [hk]; rfl
    simp only [rbN, e]
    rw [if_neg (by decide), if_neg (by decide), if_pos (by decide), if_pos (by decide), if_pos (by decide)]
    rfl
  | false =>
    have e : codecs k = [1, 4, 5] := by unfold codecs; rw [hk]; rfl
    simp only [rbN, e]
    rw [if_pos (by decide), if_pos (by decide), if_neg (by decide), if_neg (by decide), if_pos (by decide)]
    rfl
theorem sealE_iff (b : List Nat) : sealE b = 0 ↔ ¬ 65000 < b.length + 4 := by
  unfold sealE
  split
  · rename_i h; exact ⟨fun e => absurd e (by decide), fun e => absurd h e⟩
  · rename_i h; exact ⟨fun _ => h, fun _ => rfl⟩
theorem sealL_ok {b : List Nat} (h : sealE b = 0) : sealL b = sl b := if_neg ((sealE_iff b).1 h)
/-- What the document holds when the program holds s. -/
def held12 (s : Int × List Nat) : Int × List Nat := if s.1 = 0 then (0, []) else if sealE s.2 = 0 then (s.1, sl s.2) else (0, [])
theorem held_step {k c : Int} {xs : List Ci} (hc : c ≠ 0) (s : Int × List Nat) : stepR k xs c (held12 s) = held12 (if s.1 = 0 ∨ (outW k c xs).length < s.2.length then (c, outW k c xs) else s) := by
  unfold stepR
  obtain ⟨o, ho⟩ : ∃ o, o = outW k c xs := ⟨_, rfl⟩
  rw [← ho]
  have ho4 : (sl o).length = o.length + 4 := sl_len o
  have hs4 : (sl s.2).length = s.2.length + 4 := sl_len s.2
  have hnew : held12 (c, o) = if sealE o = 0 then (c, sl o) else (0, []) := by unfold held12; rw [if_neg hc]
  by_cases q0 : s.1 = 0
  · have hh : held12 s = (0, []) := if_pos q0
    rw [if_pos (Or.inl q0), hh, hnew]
    by_cases e : sealE o = 0
    · rw [if_pos ⟨e, Or.inl rfl⟩, if_pos e, sealL_ok e]
    · rw [if_neg (fun q => e q.1), if_neg e]
  · by_cases f : sealE s.2 = 0
    · have hh : held12 s = (s.1, sl s.2) := by unfold held12; rw [if_neg q0, if_pos f]
      have f' := (sealE_iff _).1 f
      by_cases l : o.length < s.2.length
      · have e : sealE o = 0 := (sealE_iff _).2 (by omega)
        rw [if_pos (Or.inr l), hnew, if_pos e, hh, sealL_ok e, if_pos ⟨e, Or.inr (by simp only; omega)⟩]
      · rw [if_neg (show ¬ (s.1 = 0 ∨ o.length < s.2.length) from fun q => q.elim q0 l), hh]
        rw [if_neg]
        rintro ⟨e, q⟩
        rw [sealL_ok e] at q
        rcases q with q | q
        · exact q0 q
        · simp only at q; omega
    · have hh : held12 s = (0, []) := by unfold held12; rw [if_neg q0, if_neg f]
      have f' : 65000 < s.2.length + 4 := Decidable.byContradiction fun q => f ((sealE_iff _).2 q)
      by_cases l : o.length < s.2.length
      · rw [if_pos (Or.inr l), hnew, hh]
        by_cases e : sealE o = 0
        · rw [if_pos ⟨e, Or.inl rfl⟩, if_pos e, sealL_ok e]
        · rw [if_neg (fun q => e q.1), if_neg e]
      · have e : ¬ sealE o = 0 := fun e => (sealE_iff _).1 e (by omega)
        rw [if_neg (show ¬ (s.1 = 0 ∨ o.length < s.2.length) from fun q => q.elim q0 l), hh, if_neg (fun q => e q.1)]
theorem held_fold {k : Int} {xs : List Ci} (hc : chkB k xs = 0) : ∀ (L : List Int) (s : Int × List Nat), (∀ c ∈ L, c ≠ 0) → ∃ r, bestF k xs L s = (r, 0) ∧ foldR k xs L (held12 s) = held12 r
  | [], s, _ => ⟨s, rfl, rfl⟩
  | c :: cs, s, h => by
    unfold bestF foldR
    rw [putR_outW k c hc, if_neg (fun q => q rfl), held_step (h c (List.mem_cons_self ..))]
    exact held_fold hc cs _ (fun d q => h d (List.mem_cons_of_mem _ q))
/-- What Best answers, from what the document holds at the end. -/
theorem bbest_held {k : Int} {xs : List Ci} (hk : 1 ≤ k ∧ k ≤ 8) (hc : chkB k xs = 0) : bbestR k xs = if (rbN k xs 5 1 (0, [])).1 = 0 then ((0, []), 4) else (rbN k xs 5 1 (0, []), 0) := by
  obtain ⟨r, r1, r2⟩ := held_fold hc (codecs k) (0, []) (fun c h => by have := codecs_mem h; omega)
  obtain ⟨r', s1, s2, s3, _⟩ := bestF_spec hc (codecs k) (0, []) (fun c q => q) (fun q => absurd rfl q)
  have e0 : held12 (0, []) = (0, []) := if_pos rfl
  rw [rbN_fold, ← e0, r2, e0]
  have hr : r = r' := by
    rw [r1] at s1
    exact congrArg Prod.fst s1
  subst hr
  have hne := (s3 1 (by unfold codecs; split <;> simp)).1
  have hK : ¬ kindK k = false := by unfold kindK; rw [decide_eq_true hk]; decide
  unfold bbestR
  rw [if_neg hK, if_neg (fun q => q hc), r1, if_neg (fun q => q rfl)]
  simp only
  by_cases e : sealE r.2 = 0
  · have hh : held12 r = (r.1, sl r.2) := by unfold held12; rw [if_neg hne, if_pos e]
    rw [if_neg (fun q => q e), hh, if_neg hne, sealL_ok e]
  · have hh : held12 r = (0, []) := by unfold held12; rw [if_neg hne, if_neg e]
    rw [if_pos e, hh, if_pos rfl]
    have : sealE r.2 = 4 := by
      unfold sealE at e ⊢
      split
      · rfl
      · rename_i q; rw [if_neg q] at e; exact absurd rfl e
    rw [this]

set_option maxHeartbeats 6400000 in
theorem refBest_any (k : Int) (A : Option Addr) (n c : Nat) (xs : List Ci) (w : World) (hx : RdX w A n xs) (hc : CapX xs) (hn : n ≤ 281474976710656) :
    Calls Tryz.prog 16 #[.int .i64 k, .slice A n c] w (BestPost (bbestR k xs) w) := by
  have HC := Lib.hid (fun W (hW : Ext w W) => refCheckB_any k A n c xs W (hx.ext hW) hn)
  by_cases hk : 1 ≤ k ∧ k ≤ 8
  · have HF := Lib.hid (fun v W => refFits_any k v W hk)
    have hk0 := hk.1
    have hk8 := hk.2
    by_cases hz : chkB k xs = 0
    · have HR := Lib.hid (bbest_held hk hz)
      obtain ⟨g1, g2, g3⟩ := chkB_good hz
      have HW := Lib.hid (fun cd (hcd : 1 ≤ cd ∧ cd ≤ 5) W (hW : Ext w W) => refWrite_any k cd A n c xs W (hx.ext hW) hc hk hcd (by rw [← hx.1]; exact g1) g3)
      unfold PEncPost at HW
      obtain ⟨R, hR⟩ : ∃ R, R = rbN k xs 5 1 (0, []) := ⟨_, rfl⟩
      rw [← hR] at HR
      have HS0 : Hid (rbN k xs (6 - 1) ((1 : Nat) : Int) (0, []) = R) := Lib.hid hR.symm
      rw [hz] at HC
      have HO0 : Hid (Own .u8 5 w w.heap.size none 0 []) := Lib.hid (Own.nil ..)
      clear g1 g2 g3 hz hx hc hR hk
      go_enter Tryz.func16, Tryz.ntmps16
      go_wp2_with fail
      refine (HC.out _ (Ext.refl _)).mono ?_
      rintro e w1 ⟨rfl, he1⟩
      have HO1 := Lib.hid ((Own.made .u8 5 w1 (Nat.le_refl _)).mono he1.size)
      have HE1 := Lib.hid (he1.alloc (.cells #[] 5))
      go_wp2_with fail
      go_loopw [8, 9, 10] (fun cc v i wr => ∃ (j L : Nat) (cv : Int) (bst : List Nat) (Ab : Option Addr) (cb : Nat), 1 ≤ j ∧ j ≤ 6 ∧ i = .int .i64 (j : Int) ∧ cc = .int .i64 cv ∧ v = .slice Ab L cb ∧ Hid (bst.length = L) ∧ L ≤ 65000 ∧ Hid (rbN k xs (6 - j) (j : Int) (cv, bst) = R) ∧ Hid (Own .u8 5 wr w.heap.size Ab cb bst) ∧ Hid (Ext w wr)) (fun _ _ i _ => 6 - (intOf i).toNat)
      case atStart => exact ⟨1, 0, 0, [], _, _, Nat.le_refl _, by decide, rfl, rfl, rfl, rfl, by decide, HS0.out, HO1.out, HE1.out⟩
      case round =>
        clear HO1 HE1 HS0 HO0
        obtain ⟨j, L, cv, bst, Ab, cb, hj1, hj6, rfl, rfl, rfl, HL, hL, HS, HO, HE⟩ := hrel
        by_cases hlt : j < 6
        · have hst : rbN k xs (6 - (j + 1)) ((j : Int) + 1) (if (j : Int) ∈ codecs k then stepR k xs j (cv, bst) else (cv, bst)) = R := by
            have h := HS.out
            rw [show 6 - j = (6 - (j + 1)) + 1 by omega] at h
            exact h
          have hj1' : ((j + 1 : Nat) : Int) = (j : Int) + 1 := by omega
          rw [← hj1'] at hst
          by_cases hm : (j : Int) ∈ codecs k
          · have hFj := HF.out (j : Int)
            rw [decide_eq_true hm] at hFj
            rw [if_pos hm] at hst
            have hcd := codecs_mem hm
            have HWj := Lib.hid (HW.out (j : Int) hcd)
            have HFj := Lib.hid hFj
            unfold stepR at hst
            by_cases he : sealE (outW k j xs) = 0
            · rw [he] at HWj
              have hpl := sealL_len (outW k j xs)
              obtain ⟨P, hP⟩ : ∃ P, P = sealL (outW k j xs) := ⟨_, rfl⟩
              rw [← hP] at HWj hst hpl
              obtain ⟨p, hp⟩ : ∃ p, p = P.length := ⟨_, rfl⟩
              rw [← hp] at HWj hpl
              have Hp := Lib.hid hp.symm
              by_cases ht : cv = 0 ∨ P.length < bst.length
              · rw [if_pos ⟨he, ht⟩] at hst
                have HS2 := Lib.hid hst
                by_cases hc0 : cv = 0
                · clear hst hm he hP hp ht hFj hcd
                  subst hc0
                  go_wp2_with fail
                  refine (HFj.out _).mono ?_
                  rintro e w2 ⟨rfl, rfl⟩
                  go_wp2_with fail
                  refine (HWj.out _ HE.out).mono ?_
                  rintro e w3 ⟨A3, c3, rfl, ho3, he3⟩
                  have HO3 := Lib.hid (ho3.mono HE.out.size)
                  have HE3 := Lib.hid (HE.out.trans he3)
                  go_wp2_with fail
                  go_roundw
                  case rel => exact ⟨j + 1, p, (j : Int), P, A3, c3, by omega, by omega, by go_num, rfl, rfl, Hp.out, hpl, HS2.out, HO3.out, HE3.out⟩
                  case measure => simp [intOf]; omega
                · have hlt2 : (p : Int) < (L : Int) := by
                    have h1 := HL.out
                    rcases ht with q | q
                    · exact absurd q hc0
                    · omega
                  have hcb : (cv == 0) = false := beq_eq_false_iff_ne.2 hc0
                  clear hst hm he hP hp ht hFj hcd hc0
                  go_wp2_with fail
                  refine (HFj.out _).mono ?_
                  rintro e w2 ⟨rfl, rfl⟩
                  go_wp2_with fail
                  refine (HWj.out _ HE.out).mono ?_
                  rintro e w3 ⟨A3, c3, rfl, ho3, he3⟩
                  have HO3 := Lib.hid (ho3.mono HE.out.size)
                  have HE3 := Lib.hid (HE.out.trans he3)
                  go_wp2_with fail
                  go_roundw
                  case rel => exact ⟨j + 1, p, (j : Int), P, A3, c3, by omega, by omega, by go_num, rfl, rfl, Hp.out, hpl, HS2.out, HO3.out, HE3.out⟩
                  case measure => simp [intOf]; omega
              · rw [if_neg (fun q => ht q.2)] at hst
                have HS2 := Lib.hid hst
                have hcb : (cv == 0) = false := beq_eq_false_iff_ne.2 (fun q => ht (.inl q))
                have hlt2 : ¬ (p : Int) < (L : Int) := by
                  have h1 := HL.out
                  have : ¬ P.length < bst.length := fun q => ht (.inr q)
                  omega
                clear hst hm he hP hp ht hFj hcd
                go_wp2_with fail
                refine (HFj.out _).mono ?_
                rintro e w2 ⟨rfl, rfl⟩
                go_wp2_with fail
                refine (HWj.out _ HE.out).mono ?_
                rintro e w3 ⟨A3, c3, rfl, ho3, he3⟩
                have HO3 := Lib.hid (HO.out.ext he3)
                have HE3 := Lib.hid (HE.out.trans he3)
                go_wp2_with fail
                go_roundw
                case rel => exact ⟨j + 1, L, cv, bst, Ab, cb, by omega, by omega, by go_num, rfl, rfl, HL.out, hL, HS2.out, HO3.out, HE3.out⟩
                case measure => simp [intOf]; omega
            · rw [if_neg (fun q => he q.1)] at hst
              have HS2 := Lib.hid hst
              obtain ⟨E, hE⟩ : ∃ E, E = sealE (outW k j xs) := ⟨_, rfl⟩
              obtain ⟨P, hP⟩ : ∃ P, P = sealL (outW k j xs) := ⟨_, rfl⟩
              rw [← hE, ← hP] at HWj
              rw [← hE] at he
              have heb : (E == 0) = false := beq_eq_false_iff_ne.2 he
              clear hst hm he hE hP hFj hcd
              go_wp2_with fail
              refine (HFj.out _).mono ?_
              rintro e w2 ⟨rfl, rfl⟩
              go_wp2_with fail
              refine (HWj.out _ HE.out).mono ?_
              rintro e w3 ⟨A3, c3, rfl, ho3, he3⟩
              have HO3 := Lib.hid (HO.out.ext he3)
              have HE3 := Lib.hid (HE.out.trans he3)
              go_wp2_with fail
              go_roundw
              case rel => exact ⟨j + 1, L, cv, bst, Ab, cb, by omega, by omega, by go_num, rfl, rfl, HL.out, hL, HS2.out, HO3.out, HE3.out⟩
              case measure => simp [intOf]; omega
          · have hFj := HF.out (j : Int)
            rw [decide_eq_false hm] at hFj
            rw [if_neg hm] at hst
            have HS2 := Lib.hid hst
            have HFj := Lib.hid hFj
            clear hst hm hFj
            go_wp2_with fail
            refine (HFj.out _).mono ?_
            rintro e w2 ⟨rfl, rfl⟩
            go_wp2_with fail
            go_roundw
            case rel => exact ⟨j + 1, L, cv, bst, Ab, cb, by omega, by omega, by go_num, rfl, rfl, HL.out, hL, HS2.out, HO.out, HE.out⟩
            case measure => simp [intOf]; omega
        · obtain rfl : j = 6 := by omega
          have hS : (cv, bst) = R := HS.out
          subst hS
          have hR := HR.out
          simp only at hR
          by_cases hc0 : cv = 0
          · subst hc0
            rw [if_pos rfl] at hR
            have HR2 := Lib.hid hR
            clear hR
            go_wp2_with fail
            go_ret3
            exact BestPost.bad _ HR2.out HE.out
          · have hcb : (cv == 0) = false := beq_eq_false_iff_ne.2 hc0
            rw [if_neg hc0] at hR
            have HR2 := Lib.hid hR
            clear hR hc0
            go_wp2_with fail
            go_ret3
            rw [HR2.out]
            exact ⟨Ab, cb, by simp only; rw [HL.out]; rfl, HO.out, HE.out⟩
    · obtain ⟨E, hE⟩ : ∃ E, E = chkB k xs := ⟨_, rfl⟩
      have hK : ¬ kindK k = false := by unfold kindK; rw [decide_eq_true hk]; decide
      have HR : Hid (bbestR k xs = ((0, []), E)) := Lib.hid (by unfold bbestR; rw [if_neg hK, if_pos hz, hE])
      rw [← hE] at HC hz
      have hzb : (E == 0) = false := beq_eq_false_iff_ne.2 hz
      clear hz hx hc hE hK HF hk
      go_enter Tryz.func16, Tryz.ntmps16
      go_wp2_with fail
      refine (HC.out _ (Ext.refl _)).mono ?_
      rintro e w1 ⟨rfl, he1⟩
      go_wp2_with fail
      go_ret3
      exact BestPost.bad _ HR.out he1
  · have HR : Hid (bbestR k xs = ((0, []), 1)) := Lib.hid (by unfold bbestR; rw [if_pos (by unfold kindK; rw [decide_eq_false hk])])
    clear hx hc HC
    by_cases h1 : k < 1
    · clear hk
      go_enter Tryz.func16, Tryz.ntmps16
      go_wp2_with fail
      go_ret3
      exact BestPost.bad _ HR.out (Ext.refl _)
    · have h8 : 8 < k := by omega
      clear hk
      go_enter Tryz.func16, Tryz.ntmps16
      go_wp2_with fail
      go_ret3
      exact BestPost.bad _ HR.out (Ext.refl _)

end Go.Proofs.YtfghepkojcebfaaGreat

/-
  Layer 12: the statement BlockBest, walked.
-/
namespace Go.Proofs.YtfghepkojcebfaaGreat
open Go.RowKit
set_option maxRecDepth 100000

theorem bestF_val12 {k : Int} {fs xs : List Ci} (h : fs.map Ci.val = xs.map Ci.val) : ∀ (L : List Int) (s : Int × List Nat), bestF k fs L s = bestF k xs L s
  | [], _ => rfl
  | c :: cs, s => by
    unfold bestF
    rw [putR_val12 h]
    split
    · rfl
    · exact bestF_val12 h cs _
theorem bbestR_val12 {k : Int} {fs xs : List Ci} (h : fs.map Ci.val = xs.map Ci.val) : bbestR k fs = bbestR k xs := by
  unfold bbestR
  rw [chkB_val, chkB_val, h, bestF_val12 h]
/-- The first of the shortest. -/
theorem bestF_min {k : Int} {xs : List Ci} (hc : chkB k xs = 0) : ∀ (L : List Int) (s r : Int × List Nat), L.Pairwise (· < ·) → (∀ c ∈ L, c ≠ 0 ∧ s.1 < c) → bestF k xs L s = (r, 0) →
    (∀ c ∈ L, (outW k c xs).length = r.2.length → r.1 ≤ c) ∧ (s.1 ≠ 0 → r.2.length ≤ s.2.length ∧ (s.2.length = r.2.length → r = s))
  | [], s, r, _, _, h => by
    have : s = r := congrArg Prod.fst h
    subst this
    exact ⟨fun c q => (by cases q), fun _ => ⟨Nat.le_refl _, fun _ => rfl⟩⟩
  | c :: cs, s, r, hp, hs, h => by
    obtain ⟨p1, p2⟩ := List.pairwise_cons.1 hp
    obtain ⟨hc0, hsc⟩ := hs c (List.mem_cons_self ..)
    unfold bestF at h
    rw [putR_outW k c hc, if_neg (fun q => q rfl)] at h
    simp only at h
    by_cases q : s.1 = 0 ∨ (outW k c xs).length < s.2.length
    · rw [if_pos q] at h
      obtain ⟨i1, i2⟩ := bestF_min hc cs (c, outW k c xs) r p2 (fun d hd => ⟨(hs d (List.mem_cons_of_mem _ hd)).1, p1 d hd⟩) h
      obtain ⟨i3, i4⟩ := i2 hc0
      have i3' : r.2.length ≤ (outW k c xs).length := i3
      refine ⟨fun d hd e => ?_, fun h0 => ?_⟩
      · rcases List.mem_cons.1 hd with rfl | hd
        · rw [i4 e]; exact Int.le_refl _
        · exact i1 d hd e
      · rcases q with q | q
        · exact absurd q h0
        · exact ⟨by omega, fun e => by omega⟩
    · rw [if_neg q] at h
      have h0 : s.1 ≠ 0 := fun e => q (.inl e)
      have hl : ¬ (outW k c xs).length < s.2.length := fun e => q (.inr e)
      obtain ⟨i1, i2⟩ := bestF_min hc cs s r p2 (fun d hd => hs d (List.mem_cons_of_mem _ hd)) h
      obtain ⟨i3, i4⟩ := i2 h0
      refine ⟨fun d hd e => ?_, i2⟩
      rcases List.mem_cons.1 hd with rfl | hd
      · rw [i4 (by omega)]; omega
      · exact i1 d hd e
theorem codecs_up (k : Int) : (codecs k).Pairwise (· < ·) := by unfold codecs; split <;> decide
/-- No codec takes fewer bytes. -/
theorem best_least {k j : Int} {xs : List Ci} (h : (bencR k j xs).2 = 0) : ∃ c' P, bbestR k xs = ((c', P), 0) ∧ P.length ≤ (bencR k j xs).1.length ∧ ((bencR k j xs).1.length = P.length → c' ≤ j) := by
  obtain ⟨hk, hm, hc, hl, he⟩ := bencR_ok h
  obtain ⟨r, r1, r2, r3, _⟩ := bestF_spec hc (codecs k) (0, []) (fun c q => q) (fun q => absurd rfl q)
  obtain ⟨m1, _⟩ := bestF_min hc (codecs k) (0, []) r (codecs_up k) (fun c q => by have := codecs_mem q; exact ⟨by omega, by show (0 : Int) < c; omega⟩) r1
  obtain ⟨h0, h1⟩ := r3 j hm
  have hs : sealE r.2 = 0 := (sealE_iff _).2 (by omega)
  have hK : ¬ kindK k = false := by unfold kindK; rw [decide_eq_true hk]; decide
  refine ⟨r.1, sl r.2, ?_, ?_, ?_⟩
  · unfold bbestR
    rw [if_neg hK, if_neg (fun q => q hc), r1, if_neg (fun q => q rfl)]
    simp only
    rw [if_neg (fun q => q hs), sealL_ok hs]
  · rw [he]
    simp only [sl_len]
    omega
  · rw [he]
    simp only [sl_len]
    intro e
    exact m1 j hm (by omega)
theorem bbestR_len (k : Int) (xs : List Ci) : (bbestR k xs).1.2.length ≤ 65000 := by
  unfold bbestR
  split
  · simp
  · split
    · simp
    · split
      · simp
      · split
        · simp
        · exact sealL_len _

set_option maxHeartbeats 6400000 in
theorem walk_BlockBest (k : Int) (A : Option Addr) (n c : Nat) (xs : List Ci) (w : World) (hx : RdX w A n xs) (hn : n * 40 ≤ 140737488351232) (hc : CapX xs) :
    Calls Tryz.prog 4 #[.int .i64 k, .slice A n c] w fun e w' => e = .returned (.bool true) ∧ Ext w w' := by
  have HT := Lib.hid (fun W (hW : Ext w W) => twinRow_any A n c xs W (hx.ext hW) (by omega))
  have HB := Lib.hid (fun (j : Int) W B' c' fs (hv : fs.map Ci.val = xs.map Ci.val) (hr : RdX W B' n fs) (hcp : CapX fs) => bencR_val12 hv k j ▸ bencode_any k j B' n c' fs W hr hcp (by omega))
  have HP := Lib.hid (fun W B' c' fs (hv : fs.map Ci.val = xs.map Ci.val) (hr : RdX W B' n fs) (hcp : CapX fs) => bbestR_val12 (k := k) hv ▸ bbest_any k B' n c' fs W hr hcp (by omega))
  have HF := Lib.hid (fun W (hW : Ext w W) => refBest_any k A n c xs W (hx.ext hW) hc (by omega))
  have hlen := bbestR_len k xs
  have hleast := fun (j : Int) (h : (bencR k j xs).2 = 0) => best_least h
  obtain ⟨⟨⟨cv, P⟩, F⟩, hR⟩ : ∃ R, R = bbestR k xs := ⟨_, rfl⟩
  unfold BestPost at HP HF
  unfold PEncPost at HB
  rw [← hR] at HP HF hlen hleast
  simp only at HP HF hlen
  obtain ⟨p, hp⟩ : ∃ p, p = P.length := ⟨_, rfl⟩
  rw [← hp] at HP HF hlen
  have Hp := Lib.hid hp.symm
  have Hx := Lib.hid hx
  have Hleast := Lib.hid hleast
  have Hbl := Lib.hid (fun (j : Int) => bencR_len k j xs)
  have k1 : (cv == cv) = true := by simp
  have k2 : (F == F) = true := by simp
  have k3 : (cv != cv) = false := by simp
  have k4 : (F != F) = false := by simp
  have hn2 : n ≤ 4398046511104 := by omega
  clear hp hR hx hc hn hleast
  go_enter Tryz.func4, Tryz.ntmps4
  go_wp2_with fail
  refine (alive12 _).mono ?_
  rintro e w1 ⟨rfl, he1⟩
  go_wp2_with fail
  refine (HT.out _ he1).mono ?_
  rintro e w2 ⟨fs, A2, c2, rfl, hv2, ho2, ht2, he2⟩
  have hE2 := he1.trans he2
  have hfl : fs.length = n := by rw [val_len12 hv2]; exact Hx.out.1
  have Hm : Hid (RdX w2 A2 n fs) := Lib.hid (by
    rw [← hfl]
    refine ho2.rdX (fun f hf => ?_)
    have hm : f.val ∈ xs.map Ci.val := by rw [← hv2]; exact List.mem_map_of_mem hf
    obtain ⟨x, hxm, hxv⟩ := List.mem_map.1 hm
    have hin := Hx.out.all x hxm
    have e1 : x.num = f.num := congrArg (fun v => v.2.1) hxv
    have e2 : x.txt = f.txt := congrArg (fun v => v.2.2) hxv
    exact ⟨(ht2.1 f hf).rd, e2 ▸ hin.u8, e1 ▸ hin.lo, e1 ▸ hin.hi, e2 ▸ hin.len⟩)
  have Hcp : Hid (CapX fs) := Lib.hid (fun f hf => (ht2.1 f hf).cap)
  have Hv := Lib.hid hv2
  clear ho2 ht2 hfl hv2 he1 he2
  go_wp2_with fail
  refine (HP.out _ _ _ _ Hv.out Hm.out Hcp.out).mono ?_
  rintro e w3 ⟨A3, c3, rfl, ho3, he3⟩
  go_wp2_with fail
  refine (HF.out _ (hE2.trans he3)).mono ?_
  rintro e w4 ⟨A4, c4, rfl, ho4, he4⟩
  have hE4 := (hE2.trans he3).trans he4
  have hS := Lib.hid (same_yes (c := c3) (c' := c4) (w := w4) ((ho3.ext he4).rd' Hp.out) (ho4.rd' Hp.out) (by omega))
  have hAl := Lib.hid (fun W (hW : Ext w4 W) => alikeRow_any A2 n c2 fs A n c xs W (((Hm.out.ext he3).ext he4).ext hW) (Hx.out.ext (hE4.trans hW)) (by omega) (by omega))
  rw [alkR_iff.2 Hv.out] at hAl
  have he34 := Lib.hid (he3.trans he4)
  clear ho3 ho4 he3 he4
  go_wp2_with fail
  refine hS.out.mono ?_
  rintro e w5 ⟨rfl, q5, rfl⟩
  go_wp2_with fail
  refine (hAl.out _ ((Ext.refl _).drewN _)).mono ?_
  rintro e w6 ⟨rfl, he6⟩
  have HE6 := Lib.hid ((hE4.drewN _).trans he6)
  have HM6 := Lib.hid ((Hm.out.ext he34.out).ext (((Ext.refl _).drewN _).trans he6))
  clear hE4 hE2 he6
  go_wp2_with fail
  go_loopw [12] (fun i wr => ∃ j : Nat, 1 ≤ j ∧ j ≤ 6 ∧ i = .int .i64 (j : Int) ∧ Hid (Ext w6 wr)) (fun i _ => 6 - (intOf i).toNat)
  case atStart => exact ⟨1, Nat.le_refl _, by decide, rfl, Lib.hid (Ext.refl _)⟩
  case round =>
    obtain ⟨j, hj1, hj6, rfl, HE⟩ := hrel
    by_cases hlt : j < 6
    · have hB := HB.out (j : Int) wr A2 c2 fs Hv.out (HM6.out.ext HE.out) Hcp.out
      have hbl := Hbl.out (j : Int)
      by_cases h0 : (bencR k j xs).2 = 0
      · obtain ⟨c', P', e1, e2, e3⟩ := Hleast.out j h0
        injection e1 with e1 e4
        injection e1 with e1 e5
        subst e1 e4 e5
        rw [h0] at hB
        rw [Hp.out] at e2 e3
        obtain ⟨q, hq⟩ : ∃ q, q = (bencR k j xs).1.length := ⟨_, rfl⟩
        rw [← hq] at hB e2 e3 hbl
        have HBj := Lib.hid hB
        have i1 : ¬ (q : Int) < (p : Int) := by omega
        by_cases hqp : q = p
        · have i2 := e3 hqp
          have i3 : ¬ (j : Int) < cv := by omega
          have i4 : ((q : Int) == (p : Int)) = true := by simp [hqp]
          have Hqp := Lib.hid hqp
          clear hB h0 hq e2 e3 hqp i2
          go_wp2_with fail
          refine HBj.out.mono ?_
          rintro e w7 ⟨A7, c7, rfl, ho7, he7⟩
          have HE7 := Lib.hid (HE.out.trans he7)
          clear ho7
          go_wp2_with fail
          go_roundw
          case rel => exact ⟨j + 1, by omega, by omega, by go_num, HE7.out⟩
          case measure => simp [intOf]; omega
        · have i4 : ((q : Int) == (p : Int)) = false := beq_eq_false_iff_ne.2 (by omega)
          have Hqp := Lib.hid hqp
          clear hB h0 hq e2 e3 hqp
          go_wp2_with fail
          refine HBj.out.mono ?_
          rintro e w7 ⟨A7, c7, rfl, ho7, he7⟩
          have HE7 := Lib.hid (HE.out.trans he7)
          clear ho7
          go_wp2_with fail
          go_roundw
          case rel => exact ⟨j + 1, by omega, by omega, by go_num, HE7.out⟩
          case measure => simp [intOf]; omega
      · obtain ⟨G, hG⟩ : ∃ G, G = (bencR k j xs).2 := ⟨_, rfl⟩
        rw [← hG] at hB h0
        obtain ⟨Q, hQ⟩ : ∃ Q, Q = (bencR k j xs).1 := ⟨_, rfl⟩
        rw [← hQ] at hB
        have HBj := Lib.hid hB
        have i0 : (G == 0) = false := beq_eq_false_iff_ne.2 h0
        clear hB h0 hG hQ hbl
        go_wp2_with fail
        refine HBj.out.mono ?_
        rintro e w7 ⟨A7, c7, rfl, ho7, he7⟩
        have HE7 := Lib.hid (HE.out.trans he7)
        clear ho7
        go_wp2_with fail
        go_roundw
        case rel => exact ⟨j + 1, by omega, by omega, by go_num, HE7.out⟩
        case measure => simp [intOf]; omega
    · obtain rfl : j = 6 := by omega
      go_wp2_with fail
      go_ret
      exact ⟨rfl, HE6.out.trans HE.out⟩

end Go.Proofs.YtfghepkojcebfaaGreat
