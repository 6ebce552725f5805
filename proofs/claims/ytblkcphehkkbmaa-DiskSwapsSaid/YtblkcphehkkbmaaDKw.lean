/-
  Layer 14: a file that is renamed over another one: the states.
-/
import Derived.Test.YtblkcphehkkbmaaDKs
import Derived.Test.YtblkcphehkkbmaaDKu
import Derived.Test.YtblkcphehkkbmaaDKv
namespace Go.Proofs.Ytblkcphehkkbmaa
open Go.RowKit Go.Maps Go.WideMaps
set_option maxRecDepth 100000

abbrev nN : List UInt8 := [110, 97, 109, 101]
abbrev nT : List UInt8 := [116, 109, 112]
theorem okN : isNm ⟨nN.toArray⟩ = true := by decide
theorem okT : isNm ⟨nT.toArray⟩ = true := by decide
theorem ltNT : nN < nT := by decide
theorem ltTN : ¬ nT < nN := by decide
theorem ltNN : ¬ nN < nN := by decide

theorem fated_zero {S S' : DS} {f : DS → Int × DS} {g : DS → Int → DS} (h : (0, S') = fated S f g) : (f { S with steps := S.steps + 1 }) = (0, S') := by
  unfold fated at h
  split at h
  · injection h with h; omega
  split at h
  · injection h with h; omega
  split at h
  · injection h with h; omega
  split at h
  · injection h with h; omega
  split at h
  · injection h with h; omega
  · exact h.symm

section
variable (old fresh : List Nat)
/-- Whatever is kept, there is the old file or the new one. -/
structure EI (S : DS) : Prop where
  room : S.room = 16777216
  len : ∀ p f, (p, f) ∈ S.fl → f.data.length ≤ 2097152
  either : ∀ k, k ≤ S.chs.length → ∃ p d, lkp (preD S k) nN = some p ∧ (p, (⟨d, d.length⟩ : FS)) ∈ S.fl ∧ (d = old ∨ d = fresh)
variable {old fresh}
theorem EI.same {S S' : DS} (h : EI old fresh S) (h1 : S'.room = S.room) (h2 : S'.safe = S.safe) (h3 : S'.chs = S.chs) (h4 : S'.fl = S.fl) : EI old fresh S' := by
  refine ⟨h1.trans h.room, by rw [h4]; exact h.len, fun k hk => ?_⟩
  have e : preD S' k = preD S k := by unfold preD; rw [h2, h3]
  rw [e, h4]
  exact h.either k (by rw [← h3]; exact hk)
theorem ei_fated {S : DS} {f : DS → Int × DS} {g : DS → Int → DS} (h : EI old fresh S) (hf : EI old fresh (f { S with steps := S.steps + 1 }).2) (hg : ∀ n, EI old fresh (g { S with steps := S.steps + 1 } n)) : EI old fresh (fated S f g).2 := by
  unfold fated
  split
  · exact h
  split
  · exact h.same rfl rfl rfl rfl
  split
  · exact hg _
  split
  · exact h.same rfl rfl rfl rfl
  split
  · exact hf.same rfl rfl rfl rfl
  · exact hf

/-- A state with a plan. -/
abbrev mP (files safe : Dir) (chs : List Chg) (fl : List (Nat × FS)) (steps : Int) (pl : Int → Int × Int × Int) : DS := ⟨16777216, files, safe, chs, fl, pl, steps, true⟩
variable (q0 q1 : Nat) (hq : q0 ≠ q1) (pl : Int → Int × Int × Int) (ho : old.length ≤ 1048576) (hn : fresh.length ≤ 1048576)
include ho
theorem ei_old {files : Dir} {chs : List Chg} {fl : List (Nat × FS)} {steps : Int} (hc : chs = [] ∨ chs = [.cr nT q1]) (hm : (q0, (⟨old, old.length⟩ : FS)) ∈ fl) (hl : ∀ p f, (p, f) ∈ fl → f.data.length ≤ 2097152) : EI old fresh (mP files [(nN, q0)] chs fl steps pl) := by
  refine ⟨rfl, hl, fun k hk => ⟨q0, old, ?_, hm, .inl rfl⟩⟩
  have _ := ho
  rcases hc with rfl | rfl
  · simp [preD, lkp]
  · cases k with
    | zero => simp [preD, lkp]
    | succ k => simp [preD, apD, putD, lkp, ltNT, ltTN]
include hn
theorem ei_new {files : Dir} {chs : List Chg} {steps : Int} (hc : chs = [.cr nT q1, .mv nT nN]) : EI old fresh (mP files [(nN, q0)] chs [(q0, ⟨old, old.length⟩), (q1, ⟨fresh, fresh.length⟩)] steps pl) := by
  subst hc
  refine ⟨rfl, ?_, fun k hk => ?_⟩
  · intro p f hf
    simp only [List.mem_cons, Prod.mk.injEq, List.not_mem_nil, or_false] at hf
    rcases hf with ⟨_, rfl⟩ | ⟨_, rfl⟩ <;> simp only <;> omega
  · match k, hk with
    | 0, _ => exact ⟨q0, old, by simp [preD, lkp], by simp, .inl rfl⟩
    | 1, _ => exact ⟨q0, old, by simp [preD, apD, putD, lkp, ltNT, ltTN], by simp, .inl rfl⟩
    | k + 2, _ => exact ⟨q1, fresh, by simp [preD, apD, putD, delD, lkp, ltNT, ltTN], by simp, .inr rfl⟩
theorem ei_safe {files : Dir} {steps : Int} : EI old fresh (mP files [(nN, q1)] [] [(q0, ⟨old, old.length⟩), (q1, ⟨fresh, fresh.length⟩)] steps pl) := by
  refine ⟨rfl, ?_, fun k hk => ⟨q1, fresh, by simp [preD, lkp], by simp, .inr rfl⟩⟩
  intro p f hf
  simp only [List.mem_cons, Prod.mk.injEq, List.not_mem_nil, or_false] at hf
  rcases hf with ⟨_, rfl⟩ | ⟨_, rfl⟩ <;> simp only <;> omega
omit ho hn
theorem sw_1 : doCreate nT q1 (mP [(nN, q0)] [(nN, q0)] [] [(q0, ⟨old, old.length⟩)] 1 pl) = (0, mP [(nN, q0), (nT, q1)] [(nN, q0)] [.cr nT q1] [(q0, ⟨old, old.length⟩), (q1, ⟨[], 0⟩)] 1 pl) := by
  have h : refC (mP [(nN, q0)] [(nN, q0)] [] [(q0, ⟨old, old.length⟩)] 1 pl) nT = 0 := by unfold refC; rw [okT]; simp [lkp]
  unfold doCreate
  rw [if_pos h]
  simp [putD, ltNT, ltTN]
include ho hn hq
theorem sw_2 : doAppend nT fresh (mP [(nN, q0), (nT, q1)] [(nN, q0)] [.cr nT q1] [(q0, ⟨old, old.length⟩), (q1, ⟨[], 0⟩)] 2 pl) = (0, mP [(nN, q0), (nT, q1)] [(nN, q0)] [.cr nT q1] [(q0, ⟨old, old.length⟩), (q1, ⟨fresh, 0⟩)] 2 pl) := by
  have h1 : ¬ (16777216 : Int) - (old.length : Int) < (fresh.length : Int) := by omega
  simp [doAppend, lkp, usedD, lenF, setF, hq, h1]
theorem sw_2p (n : Int) : EI old fresh (doPart nT fresh (mP [(nN, q0), (nT, q1)] [(nN, q0)] [.cr nT q1] [(q0, ⟨old, old.length⟩), (q1, ⟨[], 0⟩)] 2 pl) n) := by
  obtain ⟨k, hk⟩ : ∃ k, k = (max (min (min n (fresh.length : Int)) ((mP [(nN, q0), (nT, q1)] [(nN, q0)] [.cr nT q1] [(q0, ⟨old, old.length⟩), (q1, ⟨[], 0⟩)] 2 pl).room - (usedD (mP [(nN, q0), (nT, q1)] [(nN, q0)] [.cr nT q1] [(q0, ⟨old, old.length⟩), (q1, ⟨[], 0⟩)] 2 pl) : Int))) 0).toNat := ⟨_, rfl⟩
  have e : doPart nT fresh (mP [(nN, q0), (nT, q1)] [(nN, q0)] [.cr nT q1] [(q0, ⟨old, old.length⟩), (q1, ⟨[], 0⟩)] 2 pl) n = mP [(nN, q0), (nT, q1)] [(nN, q0)] [.cr nT q1] [(q0, ⟨old, old.length⟩), (q1, ⟨fresh.take k, 0⟩)] 2 pl := by
    unfold doPart
    rw [show lkp (mP [(nN, q0), (nT, q1)] [(nN, q0)] [.cr nT q1] [(q0, ⟨old, old.length⟩), (q1, ⟨[], 0⟩)] 2 pl).files nT = some q1 from by simp [lkp]]
    simp only
    rw [← hk]
    simp [setF, hq]
  rw [e]
  refine ei_old q0 q1 pl ho (.inr rfl) (by simp) ?_
  intro p f hf
  simp only [List.mem_cons, Prod.mk.injEq, List.not_mem_nil, or_false] at hf
  rcases hf with ⟨_, rfl⟩ | ⟨_, rfl⟩
  · simp only; omega
  · simp only [List.length_take]; omega
omit ho hn
theorem sw_3 : doSync nT (mP [(nN, q0), (nT, q1)] [(nN, q0)] [.cr nT q1] [(q0, ⟨old, old.length⟩), (q1, ⟨fresh, 0⟩)] 3 pl) = (0, mP [(nN, q0), (nT, q1)] [(nN, q0)] [.cr nT q1] [(q0, ⟨old, old.length⟩), (q1, ⟨fresh, fresh.length⟩)] 3 pl) := by
  simp [doSync, lkp, setF, hq]
omit hq
theorem sw_4 : doRename nT nN (mP [(nN, q0), (nT, q1)] [(nN, q0)] [.cr nT q1] [(q0, ⟨old, old.length⟩), (q1, ⟨fresh, fresh.length⟩)] 4 pl) = (0, mP [(nN, q1)] [(nN, q0)] [.cr nT q1, .mv nT nN] [(q0, ⟨old, old.length⟩), (q1, ⟨fresh, fresh.length⟩)] 4 pl) := by
  unfold doRename
  simp [lkp, okN, putD, delD, ltNT, ltTN]
theorem sw_5 : doSyncDir (mP [(nN, q1)] [(nN, q0)] [.cr nT q1, .mv nT nN] [(q0, ⟨old, old.length⟩), (q1, ⟨fresh, fresh.length⟩)] 5 pl) = (0, mP [(nN, q1)] [(nN, q1)] [] [(q0, ⟨old, old.length⟩), (q1, ⟨fresh, fresh.length⟩)] 5 pl) := by
  simp [doSyncDir]
end

theorem keep_full (ks : List Int) (j : Nat) (d : List Nat) : keepF ks j ⟨d, d.length⟩ = ⟨d, d.length⟩ := by
  have hk := keptC_le ks (j + 1) 0
  have e : keptC ks (j + 1) ((d.length : Int) - (d.length : Int)) = 0 := by rw [Int.sub_self]; simp at hk; omega
  unfold keepF
  simp only [e]
  simp
theorem on_full {ks : List Int} {D : Dir} {fl : List (Nat × FS)} {p : Nat} {d : List Nat} (h : (p, (⟨d, d.length⟩ : FS)) ∈ fl) : ∀ j, (p, (⟨d, d.length⟩ : FS)) ∈ onFl ks D fl j
  | 0 => h
  | j + 1 => by
    have ih := on_full (ks := ks) (D := D) h j
    unfold onFl
    split
    · rename_i e _
      by_cases hp : p = e.2
      · exact mem_setF.2 (.inr ⟨hp, _, ih, (keep_full ks j d).symm⟩)
      · exact mem_setF.2 (.inl ⟨hp, ih⟩)
    · exact ih
/-- Behind the crash. -/
theorem EI.after {old fresh : List Nat} {S : DS} (h : EI old fresh S) (ks : List Int) (hnd : (doOn ks S).fl.Pairwise fun (a b : Nat × FS) => a.1 ≠ b.1) :
    ∃ d, (d = old ∨ d = fresh) ∧ (∀ p, S.chs = [] → lkp S.safe nN = some p → (p, (⟨fresh, fresh.length⟩ : FS)) ∈ S.fl → d = fresh) ∧ d.length ≤ 2097152 ∧ sizeC (doOn ks S) nN = (d.length, 0) ∧ readC (doOn ks S) nN 0 (d.length : Int) = (d, 0) ∧ Fit (doOn ks S) 140737488355328 := by
  have hk := keptC_le ks 0 S.chs.length
  obtain ⟨p, d, h1, h2, h3⟩ := h.either (keptC ks 0 (S.chs.length : Int)).toNat (by omega)
  have hf : (p, (⟨d, d.length⟩ : FS)) ∈ (doOn ks S).fl := on_full h2 _
  have hfd := fileD_mem hnd hf
  have hfind : findC (doOn ks S) nN = (some p, 0) := by
    unfold findC
    rw [if_neg (by show ¬ true = false; decide), show (doOn ks S).files = preD S (keptC ks 0 (S.chs.length : Int)).toNat from rfl, h1]
  refine ⟨d, h3, fun p' hc hs hf' => ?_, h.len _ _ h2, ?_, ?_, ⟨by show 0 ≤ S.room ∧ S.room ≤ 16777216; rw [h.room]; decide, ?_⟩⟩
  · have e : preD S (keptC ks 0 (S.chs.length : Int)).toNat = S.safe := by unfold preD; rw [hc]; simp
    rw [e, hs] at h1
    injection h1 with h1
    subst h1
    have := fileD_mem hnd (on_full (ks := ks) (D := preD S (keptC ks 0 (S.chs.length : Int)).toNat) hf' _)
    rw [hfd] at this
    injection this
  · unfold sizeC
    rw [hfind]
    simp only [hfd]
  · unfold readC
    rw [hfind]
    simp only [hfd]
    rw [if_neg (by omega), if_neg (by simp)]
    simp
  · have hlenS : ∀ j q f', (q, f') ∈ onFl ks (preD S (keptC ks 0 (S.chs.length : Int)).toNat) S.fl j → f'.data.length ≤ 2097152 := by
      intro j
      induction j with
      | zero => exact fun q f' hf' => h.len q f' hf'
      | succ j ih =>
        intro q f' hf'
        unfold onFl at hf'
        split at hf'
        · rcases mem_setF.1 hf' with ⟨_, hf'⟩ | ⟨_, f0, hf0, rfl⟩
          · exact ih q f' hf'
          · have := ih q f0 hf0
            unfold keepF
            simp only [List.length_take]
            omega
        · exact ih q f' hf'
    intro q f' hf'
    have := hlenS _ q f' hf'
    omega

section
variable {w w' : World} {P : Nat → Prop} {dp : Nat} {S : DS}
theorem plan_Dk {A : Option Addr} {n c : Nat} {fs : List (Int × Int × Int)} (h : DkR w P dp S) (hr : RdG shFt w A n fs) (hwf : ∀ p ∈ fs, (Lit.int .i64 p.1).wf = true) (hn : n ≤ 140737488355328) (hA : 0 < n → ∀ a, A = some a → P a.block) :
    Calls Try.prog 23 #[.pointer (some ⟨dp, 0, none⟩), .slice A n c] w fun e w' => e = .returned (.tuple #[]) ∧ DkR w' P dp { S with plan := planL fs } ∧ PFr P w w' := by
  obtain ⟨lo, X, I, h1, h2, hP⟩ := h
  refine (plan_any (c := c) h1 hr hwf hn (fun h0 a ha => (hP _ (hA h0 a ha)).2)).mono ?_
  rintro e w' ⟨rfl, X', I', h4, h5⟩
  obtain ⟨k1, k2⟩ := h5.pfr hP
  exact ⟨rfl, ⟨lo, X', I', h4, h2.sub rfl rfl rfl (fun _ q => q), k2⟩, k1⟩
end

end Go.Proofs.Ytblkcphehkkbmaa
