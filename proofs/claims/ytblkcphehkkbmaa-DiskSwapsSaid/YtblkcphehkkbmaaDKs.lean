/-
  Layer 14: what was synced stays: the states.
-/
import Derived.Test.YtblkcphehkkbmaaDKr
namespace Go.Proofs.Ytblkcphehkkbmaa
open Go.RowKit Go.Maps Go.WideMaps
set_option maxRecDepth 100000

abbrev nF : List UInt8 := [102]
theorem okF : isNm ⟨nF.toArray⟩ = true := by decide
abbrev mS (files safe : Dir) (chs : List Chg) (fl : List (Nat × FS)) (steps : Int) : DS := mkS 16777216 files safe chs fl steps
theorem newRoom : newS 16777216 = mS [] [] [] [] 0 := rfl
theorem ss_1 (q : Nat) : doCreate nF q (mS [] [] [] [] 1) = (0, mS [(nF, q)] [] [.cr nF q] [(q, ⟨[], 0⟩)] 1) := by
  have h : refC (mS [] [] [] [] 1) nF = 0 := by unfold refC; rw [okF]; simp [mkS, lkp]
  unfold doCreate
  rw [if_pos h]
  simp [mkS, putD]
theorem ss_2 (q : Nat) (ys : List Nat) (h : ys.length ≤ 1048576) : doAppend nF ys (mS [(nF, q)] [] [.cr nF q] [(q, ⟨[], 0⟩)] 2) = (0, mS [(nF, q)] [] [.cr nF q] [(q, ⟨ys, 0⟩)] 2) := by
  have h1 : ¬ (16777216 : Int) < (ys.length : Int) := by omega
  simp [doAppend, mkS, lkp, usedD, lenF, setF, h1]
theorem ss_3 (q : Nat) (ys : List Nat) : doSync nF (mS [(nF, q)] [] [.cr nF q] [(q, ⟨ys, 0⟩)] 3) = (0, mS [(nF, q)] [] [.cr nF q] [(q, ⟨ys, ys.length⟩)] 3) := by
  simp [doSync, mkS, lkp, setF]
theorem ss_4 (q : Nat) (ys : List Nat) : doSyncDir (mS [(nF, q)] [] [.cr nF q] [(q, ⟨ys, ys.length⟩)] 4) = (0, mS [(nF, q)] [(nF, q)] [] [(q, ⟨ys, ys.length⟩)] 4) := by
  simp [doSyncDir, mkS]
theorem ss_5 (q : Nat) (ys zs : List Nat) (h : ys.length ≤ 1048576) (h2 : zs.length ≤ 1048576) : doAppend nF zs (mS [(nF, q)] [(nF, q)] [] [(q, ⟨ys, ys.length⟩)] 5) = (0, mS [(nF, q)] [(nF, q)] [] [(q, ⟨ys ++ zs, ys.length⟩)] 5) := by
  have h1 : ¬ (16777216 : Int) - (ys.length : Int) < (zs.length : Int) := by omega
  simp [doAppend, mkS, lkp, usedD, lenF, setF, h1]

/-- While other names are made. -/
structure LI (q : Nat) (ys zs : List Nat) (n : Nat) (S : DS) : Prop where
  pl : Plain S
  room : S.room = 16777216
  steps : S.steps = 5 + (n : Int)
  f : (q, ⟨ys ++ zs, ys.length⟩) ∈ S.fl
  len : ∀ p f, (p, f) ∈ S.fl → f.data.length ≤ 2097152
  safe : S.safe = [(nF, q)]
  chs : ∀ g ∈ S.chs, ∃ y p, g = .cr y p ∧ y ≠ nF
  cnt : S.chs.length ≤ n
theorem LI.zero (q : Nat) (ys zs : List Nat) (h : ys.length ≤ 1048576) (h2 : zs.length ≤ 1048576) : LI q ys zs 0 (mS [(nF, q)] [(nF, q)] [] [(q, ⟨ys ++ zs, ys.length⟩)] 5) where
  pl := plain_mkS ..
  room := rfl
  steps := rfl
  f := by simp [mkS]
  len := by
    intro p f hf
    simp only [mkS, List.mem_singleton, Prod.mk.injEq] at hf
    obtain ⟨_, rfl⟩ := hf
    simp only [List.length_append]
    omega
  safe := rfl
  chs := by intro g hg; simp [mkS] at hg
  cnt := by simp [mkS]
theorem LI.fit {q : Nat} {ys zs : List Nat} {n : Nat} {S : DS} (h : LI q ys zs n S) : Fit S 140737488355328 := ⟨by rw [h.room]; decide, fun p f hf => by have := h.len p f hf; omega⟩
theorem LI.next {q : Nat} {ys zs : List Nat} {n : Nat} {S : DS} (h : LI q ys zs n S) (x : List UInt8) (hx : x ≠ nF) (k : Nat) : LI q ys zs (n + 1) (doCreate x k { S with steps := S.steps + 1 }).2 := by
  unfold doCreate
  split
  · exact {
      pl := ⟨h.pl.on, h.pl.plan⟩
      room := h.room
      steps := by show S.steps + 1 = _; rw [h.steps]; omega
      f := List.mem_append.2 (.inl h.f)
      len := fun p f hf => by
        rcases List.mem_append.1 hf with hf | hf
        · exact h.len p f hf
        · rw [List.mem_singleton] at hf
          injection hf with _ hf
          subst hf
          simp
      safe := h.safe
      chs := fun g hg => by
        rcases List.mem_append.1 hg with hg | hg
        · exact h.chs g hg
        · rw [List.mem_singleton] at hg
          exact ⟨x, k, hg, hx⟩
      cnt := by show (S.chs ++ [_]).length ≤ _; rw [List.length_append]; have := h.cnt; simp; omega }
  · exact ⟨⟨h.pl.on, h.pl.plan⟩, h.room, by show S.steps + 1 = _; rw [h.steps]; omega, h.f, h.len, h.safe, h.chs, Nat.le_trans h.cnt (Nat.le_succ n)⟩

/-- What becomes of the file. -/
def Good (ys zs : List Nat) (f : FS) : Prop := ys.length ≤ f.safe ∧ f.safe ≤ f.data.length ∧ f.data = (ys ++ zs).take f.data.length
theorem good_keep {ys zs : List Nat} {f : FS} (ks : List Int) (j : Nat) (h : Good ys zs f) : Good ys zs (keepF ks j f) := by
  obtain ⟨h1, h2, h3⟩ := h
  have hk := keptC_le ks (j + 1) (f.data.length - f.safe)
  rw [show ((f.data.length - f.safe : Nat) : Int) = (f.data.length : Int) - (f.safe : Int) from by omega] at hk
  unfold Good keepF
  simp only
  obtain ⟨k, hkk⟩ : ∃ k, k = (keptC ks (j + 1) ((f.data.length : Int) - (f.safe : Int))).toNat := ⟨_, rfl⟩
  rw [← hkk]
  have hle : f.safe + k ≤ f.data.length := by omega
  have hl : (f.data.take (f.safe + k)).length = f.safe + k := by rw [List.length_take]; omega
  rw [hl]
  refine ⟨by omega, Nat.le_refl _, ?_⟩
  rw [h3, List.take_take]
  congr 1
  have : ((ys ++ zs).take f.data.length).length = f.data.length := by rw [← h3]
  omega
theorem good_on {ys zs : List Nat} {ks : List Int} {d : Dir} {fl : List (Nat × FS)} {q : Nat} (h : ∀ f, (q, f) ∈ fl → Good ys zs f) : ∀ j f, (q, f) ∈ onFl ks d fl j → Good ys zs f
  | 0, f, hf => h f hf
  | j + 1, f, hf => by
    have ih := good_on (ks := ks) (d := d) h j
    unfold onFl at hf
    split at hf
    · rcases mem_setF.1 hf with ⟨_, hf⟩ | ⟨_, f0, hf0, rfl⟩
      · exact ih f hf
      · exact good_keep ks j (ih f0 hf0)
    · exact ih f hf
theorem lkp_fold {q : Nat} : ∀ (l : List Chg) (d : Dir), AscD d → (∀ g ∈ l, ∃ y p, g = .cr y p ∧ y ≠ nF) → lkp d nF = some q → lkp (l.foldl apD d) nF = some q
  | [], _, _, _, h => h
  | g :: r, d, ha, hg, h => by
    obtain ⟨y, p, rfl, hy⟩ := hg _ (List.mem_cons_self)
    refine lkp_fold r _ (apD_asc ha _) (fun g hg' => hg g (List.mem_cons_of_mem _ hg')) ?_
    show lkp (putD d y p) nF = some q
    rw [lkp_put ha, if_neg (Ne.symm hy)]
    exact h

/-- Behind the crash. -/
theorem LI.after {q : Nat} {ys zs : List Nat} {n : Nat} {S : DS} (h : LI q ys zs n S) (ks : List Int) (hnd : S.fl.Pairwise fun (a b : Nat × FS) => a.1 ≠ b.1) (hnd2 : (doOn ks S).fl.Pairwise fun (a b : Nat × FS) => a.1 ≠ b.1) :
    ∃ m, ys.length ≤ m ∧ m ≤ (ys ++ zs).length ∧ sizeC (doOn ks S) nF = (m, 0) ∧ readC (doOn ks S) nF 0 (m : Int) = ((ys ++ zs).take m, 0) ∧ Fit (doOn ks S) 140737488355328 := by
  have hl : lkp (preD S (keptC ks 0 (S.chs.length : Int)).toNat) nF = some q := by
    unfold preD
    rw [h.safe]
    exact lkp_fold _ _ (List.pairwise_singleton _ _) (fun g hg => h.chs g (List.mem_of_mem_take hg)) (by simp [lkp])
  obtain ⟨f, hf⟩ : ∃ f, (q, f) ∈ (doOn ks S).fl := onFl_has _ ⟨_, h.f⟩
  have hg : Good ys zs f := good_on (fun f' hf' => by
    rw [one_of hnd hf' h.f]
    exact ⟨Nat.le_refl _, by simp, (List.take_of_length_le (Nat.le_refl _)).symm⟩) _ f hf
  have hfd := fileD_mem hnd2 hf
  have hfind : findC (doOn ks S) nF = (some q, 0) := by
    unfold findC
    rw [if_neg (by show ¬ true = false; decide), show (doOn ks S).files = preD S (keptC ks 0 (S.chs.length : Int)).toNat from rfl, hl]
  obtain ⟨h1, h2, h3⟩ := hg
  have hlen : f.data.length ≤ (ys ++ zs).length := by
    have := congrArg List.length h3
    rw [List.length_take] at this
    omega
  refine ⟨f.data.length, by omega, hlen, ?_, ?_, ⟨by show 0 ≤ S.room ∧ S.room ≤ 16777216; rw [h.room]; decide, ?_⟩⟩
  · unfold sizeC
    rw [hfind]
    simp only [hfd]
  · unfold readC
    rw [hfind]
    simp only [hfd]
    rw [if_neg (by omega), if_neg (by simp)]
    simp only [Int.toNat_zero, List.drop_zero, Int.toNat_natCast, List.take_length]
    rw [← h3]
  · have hlenS : ∀ j p f', (p, f') ∈ onFl ks (preD S (keptC ks 0 (S.chs.length : Int)).toNat) S.fl j → f'.data.length ≤ 2097152 := by
      intro j
      induction j with
      | zero => exact fun p f' hf' => h.len p f' hf'
      | succ j ih =>
        intro p f' hf'
        unfold onFl at hf'
        split at hf'
        · rcases mem_setF.1 hf' with ⟨_, hf'⟩ | ⟨_, f0, hf0, rfl⟩
          · exact ih p f' hf'
          · have := ih p f0 hf0
            unfold keepF
            simp only [List.length_take]
            omega
        · exact ih p f' hf'
    intro p f' hf'
    have := hlenS _ p f' hf'
    omega

end Go.Proofs.Ytblkcphehkkbmaa
