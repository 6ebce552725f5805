import Derived.Test.YtjckfbpdnpehcaaDKr
import Derived.Test.YtjckfbpdnpehcaaDKo
import Derived.Test.YtjckfbpdnpehcaaDKu

/-
  Layer 14: what was synced stays: the states.
-/
namespace Go.Proofs.Ytjckfbpdnpehcaa
open Go.RowKit Go.Maps Go.WideMaps
set_option maxRecDepth 100000

abbrev nF : List UInt8 := [102]
theorem okF : isNm ⟨nF.toArray⟩ = true := by decide
abbrev mS (files safe : Dir) (chs : List Chg) (fl : List (Nat × FS)) (steps : Int) : DS := mkS 16777216 files safe chs fl steps
theorem newRoom : newS 16777216 = mS [] [] [] [] 0 := rfl
theorem ss_1 (q : Nat) : doCreate nF q (mS [] [] [] [] 1) = (0, mS [(nF, q)] [] [.cr nF q] [(q, ⟨[], 0⟩)] 1) := by
  have h : refC (mS [] [] [] [] 1) nF = 0 := by unfold refC; rw [okF]; simp [mkS, lkp]
  unfold doCreate
  rw [if_pos h]
  simp [mkS, putD]
theorem ss_2 (q : Nat) (ys : List Nat) (h : ys.length ≤ 1048576) : doAppend nF ys (mS [(nF, q)] [] [.cr nF q] [(q, ⟨[], 0⟩)] 2) = (0, mS [(nF, q)] [] [.cr nF q] [(q, ⟨ys, 0⟩)] 2) := by
  have h1 : ¬ (16777216 : Int) < (ys.length : Int) := by omega
  simp [doAppend, mkS, lkp, usedD, lenF, setF, h1]
theorem ss_3 (q : Nat) (ys : List Nat) : doSync nF (mS [(nF, q)] [] [.cr nF q] [(q, ⟨ys, 0⟩)] 3) = (0, mS [(nF, q)] [] [.cr nF q] [(q, ⟨ys, ys.length⟩)] 3) := by
  simp [doSync, mkS, lkp, setF]
theorem ss_4 (q : Nat) (ys : List Nat) : doSyncDir (mS [(nF, q)] [] [.cr nF q] [(q, ⟨ys, ys.length⟩)] 4) = (0, mS [(nF, q)] [(nF, q)] [] [(q, ⟨ys, ys.length⟩)] 4) := by
  simp [doSyncDir, mkS]
theorem ss_5 (q : Nat) (ys zs : List Nat) (h : ys.length ≤ 1048576) (h2 : zs.length ≤ 1048576) : doAppend nF zs (mS [(nF, q)] [(nF, q)] [] [(q, ⟨ys, ys.length⟩)] 5) = (0, mS [(nF, q)] [(nF, q)] [] [(q, ⟨ys ++ zs, ys.length⟩)] 5) := by
  have h1 : ¬ (16777216 : Int) - (ys.length : Int) < (zs.length : Int) := by omega
  simp [doAppend, mkS, lkp, usedD, lenF, setF, h1]

/-- While other names are made. -/
structure LI (q : Nat) (ys zs : List Nat) (n : Nat) (S : DS) : Prop where
  pl : Plain S
  room : S.room = 16777216
  steps : S.steps = 5 + (n : Int)
  f : (q, ⟨ys ++ zs, ys.length⟩) ∈ S.fl
  len : ∀ p f, (p, f) ∈ S.fl → f.data.length ≤ 2097152
  safe : S.safe = [(nF, q)]
  chs : ∀ g ∈ S.chs, ∃ y p, g = .cr y p ∧ y ≠ nF
  cnt : S.chs.length ≤ n
theorem LI.zero (q : Nat) (ys zs : List Nat) (h : ys.length ≤ 1048576) (h2 : zs.length ≤ 1048576) : LI q ys zs 0 (mS [(nF, q)] [(nF, q)] [] [(q, ⟨ys ++ zs, ys.length⟩)] 5) where
  pl := plain_mkS ..
  room := rfl
  steps := rfl
  f := by simp [mkS]
  len := by
    intro p f hf
    simp only [mkS, List.mem_singleton, Prod.mk.injEq] at hf
    obtain ⟨_, rfl⟩ := hf
    simp only [List.length_append]
    omega
  safe := rfl
  chs := by intro g hg; simp [mkS] at hg
  cnt := by simp [mkS]
theorem LI.fit {q : Nat} {ys zs : List Nat} {n : Nat} {S : DS} (h : LI q ys zs n S) : Fit S 140737488355328 := ⟨by rw [h.room]; decide, fun p f hf => by have := h.len p f hf; omega⟩
theorem LI.next {q : Nat} {ys zs : List Nat} {n : Nat} {S : DS} (h : LI q ys zs n S) (x : List UInt8) (hx : x ≠ nF) (k : Nat) : LI q ys zs (n + 1) (doCreate x k { S with steps := S.steps + 1 }).2 := by
  unfold doCreate
  split
  · exact {
      pl := ⟨h.pl.on, h.pl.plan⟩
      room := h.room
      steps := by show S.steps + 1 = _; rw [h.steps]; omega
      f := List.mem_append.2 (.inl h.f)
      len := fun p f hf => by
        rcases List.mem_append.1 hf with hf | hf
        · exact h.len p f hf
        · rw [List.mem_singleton] at hf
          injection hf with _ hf
          subst hf
          simp
      safe := h.safe
      chs := fun g hg => by
        rcases List.mem_append.1 hg with hg | hg
        · exact h.chs g hg
        · rw [List.mem_singleton] at hg
          exact ⟨x, k, hg, hx⟩
      cnt := by show (S.chs ++ [_]).length ≤ _; rw [List.length_append]; have := h.cnt; simp; omega }
  · exact ⟨⟨h.pl.on, h.pl.plan⟩, h.room, by show S.steps + 1 = _; rw [h.steps]; omega, h.f, h.len, h.safe, h.chs, Nat.le_trans h.cnt (Nat.le_succ n)⟩

/-- What becomes of the file. -/
def Good (ys zs : List Nat) (f : FS) : Prop := ys.length ≤ f.safe ∧ f.safe ≤ f.data.length ∧ f.data = (ys ++ zs).take f.data.length
theorem good_keep {ys zs : List Nat} {f : FS} (ks : List Int) (j : Nat) (h : Good ys zs f) : Good ys zs (keepF ks j f) := by
  obtain ⟨h1, h2, h3⟩ := h
  have hk := keptC_le ks (j + 1) (f.data.length - f.safe)
  rw [show ((f.data.length - f.safe : Nat) : Int) = (f.data.length : Int) - (f.safe : Int) from by omega] at hk
  unfold Good keepF
  simp only
  obtain ⟨k, hkk⟩ : ∃ k, k = (keptC ks (j + 1) ((f.data.length : Int) - (f.safe : Int))).toNat := ⟨_, rfl⟩
  rw [← hkk]
  have hle : f.safe + k ≤ f.data.length := by omega
  have hl : (f.data.take (f.safe + k)).length = f.safe + k := by rw [List.length_take]; omega
  rw [hl]
  refine ⟨by omega, Nat.le_refl _, ?_⟩
  rw [h3, List.take_take]
  congr 1
  have : ((ys ++ zs).take f.data.length).length = f.data.length := by rw [← h3]
  omega
theorem good_on {ys zs : List Nat} {ks : List Int} {d : Dir} {fl : List (Nat × FS)} {q : Nat} (h : ∀ f, (q, f) ∈ fl → Good ys zs f) : ∀ j f, (q, f) ∈ onFl ks d fl j → Good ys zs f
  | 0, f, hf => h f hf
  | j + 1, f, hf => by
    have ih := good_on (ks := ks) (d := d) h j
    unfold onFl at hf
    split at hf
    · rcases mem_setF.1 hf with ⟨_, hf⟩ | ⟨_, f0, hf0, rfl⟩
      · exact ih f hf
      · exact good_keep ks j (ih f0 hf0)
    · exact ih f hf
theorem lkp_fold {q : Nat} : ∀ (l : List Chg) (d : Dir), AscD d → (∀ g ∈ l, ∃ y p, g = .cr y p ∧ y ≠ nF) → lkp d nF = some q → lkp (l.foldl apD d) nF = some q
  | [], _, _, _, h => h
  | g :: r, d, ha, hg, h => by
    obtain ⟨y, p, rfl, hy⟩ := hg _ (List.mem_cons_self)
    refine lkp_fold r _ (apD_asc ha _) (fun g hg' => hg g (List.mem_cons_of_mem _ hg')) ?_
    show lkp (putD d y p) nF = some q
    rw [lkp_put ha, if_neg (Ne.symm hy)]
    exact h

/-- Behind the crash. -/
theorem LI.after {q : Nat} {ys zs : List Nat} {n : Nat} {S : DS} (h : LI q ys zs n S) (ks : List Int) (hnd : S.fl.Pairwise fun (a b : Nat × FS) => a.1 ≠ b.1) (hnd2 : (doOn ks S).fl.Pairwise fun (a b : Nat × FS) => a.1 ≠ b.1) :
    ∃ m, ys.length ≤ m ∧ m ≤ (ys ++ zs).length ∧ sizeC (doOn ks S) nF = (m, 0) ∧ readC (doOn ks S) nF 0 (m : Int) = ((ys ++ zs).take m, 0) ∧ Fit (doOn ks S) 140737488355328 := by
  have hl : lkp (preD S (keptC ks 0 (S.chs.length : Int)).toNat) nF = some q := by
    unfold preD
    rw [h.safe]
    exact lkp_fold _ _ (List.pairwise_singleton _ _) (fun g hg => h.chs g (List.mem_of_mem_take hg)) (by simp [lkp])
  obtain ⟨f, hf⟩ : ∃ f, (q, f) ∈ (doOn ks S).fl := onFl_has _ ⟨_, h.f⟩
  have hg : Good ys zs f := good_on (fun f' hf' => by
    rw [one_of hnd hf' h.f]
    exact ⟨Nat.le_refl _, by simp, (List.take_of_length_le (Nat.le_refl _)).symm⟩) _ f hf
  have hfd := fileD_mem hnd2 hf
  have hfind : findC (doOn ks S) nF = (some q, 0) := by
    unfold findC
    rw [if_neg (by show ¬ true = false; decide), show (doOn ks S).files = preD S (keptC ks 0 (S.chs.length : Int)).toNat from rfl, hl]
  obtain ⟨h1, h2, h3⟩ := hg
  have hlen : f.data.length ≤ (ys ++ zs).length := by
    have := congrArg List.length h3
    rw [List.length_take] at this
    omega
  refine ⟨f.data.length, by omega, hlen, ?_, ?_, ⟨by show 0 ≤ S.room ∧ S.room ≤ 16777216; rw [h.room]; decide, ?_⟩⟩
  · unfold sizeC
    rw [hfind]
    simp only [hfd]
  · unfold readC
    rw [hfind]
    simp only [hfd]
    rw [if_neg (by omega), if_neg (by simp)]
    simp only [Int.toNat_zero, List.drop_zero, Int.toNat_natCast, List.take_length]
    rw [← h3]
  · have hlenS : ∀ j p f', (p, f') ∈ onFl ks (preD S (keptC ks 0 (S.chs.length : Int)).toNat) S.fl j → f'.data.length ≤ 2097152 := by
      intro j
      induction j with
      | zero => exact fun p f' hf' => h.len p f' hf'
      | succ j ih =>
        intro p f' hf'
        unfold onFl at hf'
        split at hf'
        · rcases mem_setF.1 hf' with ⟨_, hf'⟩ | ⟨_, f0, hf0, rfl⟩
          · exact ih p f' hf'
          · have := ih p f0 hf0
            unfold keepF
            simp only [List.length_take]
            omega
        · exact ih p f' hf'
    intro p f' hf'
    have := hlenS _ p f' hf'
    omega

end Go.Proofs.Ytjckfbpdnpehcaa

/-
  Layer 14: a plan.
-/
namespace Go.Proofs.Ytjckfbpdnpehcaa
open Go.RowKit Go.Maps Go.WideMaps
set_option maxRecDepth 100000

def shFt : Shape (Int × Int × Int) := ⟨fun p => [.int .i64 p.1, .int .i64 p.2.1, .int .i64 p.2.2], 3, fun _ => rfl, by
  intro x u hu
  simp only [List.mem_cons, List.not_mem_nil, or_false] at hu
  rcases hu with rfl | rfl | rfl <;> rfl⟩
/-- The first fate of a step. -/
def planL (fs : List (Int × Int × Int)) (k : Int) : Int × Int × Int := (fs.find? fun p => decide (p.1 = k)).getD (0, 0, 0)
theorem planL_old {fs : List (Int × Int × Int)} {p : Int × Int × Int} (h : fs.any (fun q => decide (q.1 = p.1)) = true) (k : Int) : planL (fs ++ [p]) k = planL fs k := by
  unfold planL
  rw [List.find?_append]
  cases hf : fs.find? fun q => decide (q.1 = k) with
  | some q => rfl
  | none =>
    have hk : ¬ p.1 = k := fun e => by
      obtain ⟨q, hq, hqe⟩ := List.any_eq_true.1 h
      have := List.find?_eq_none.1 hf q hq
      rw [← e] at this
      exact this hqe
    simp [hk]
theorem planL_new {fs : List (Int × Int × Int)} {p : Int × Int × Int} (h : fs.any (fun q => decide (q.1 = p.1)) = false) (k : Int) : planL (fs ++ [p]) k = if k = p.1 then p else planL fs k := by
  unfold planL
  rw [List.find?_append]
  by_cases hk : k = p.1
  · rw [if_pos hk]
    have hf : fs.find? (fun q => decide (q.1 = k)) = none := List.find?_eq_none.2 fun q hq hqe => by
      have := List.any_eq_false.1 h q hq
      rw [hk] at hqe
      exact this hqe
    rw [hf]
    simp [hk]
  · rw [if_neg hk]
    have hk2 : ¬ p.1 = k := fun e => hk e.symm
    cases hf : fs.find? fun q => decide (q.1 = k) with
    | some q => rfl
    | none => simp [hk2]
/-- The map is the plan of these fates. -/
structure PM (D : DataW Nat) (fs : List (Int × Int × Int)) : Prop where
  has : ∀ k, Maps.has D (.int .i64 k) = fs.any fun q => decide (q.1 = k)
  at_ : ∀ k, D.atKey (.int .i64 k) (fateD (0, 0, 0)) = fateD (planL fs k)
theorem key_int (k : Int) : WideAt.IsKeyLit (.int .i64 k) := trivial
theorem lit_int_ne {x y : Int} (h : ¬ y = x) : (Lit.int .i64 y) ≠ (Lit.int .i64 x) := fun e => by injection e with _ e; exact h e
theorem PM.old {D : DataW Nat} {fs : List (Int × Int × Int)} {p : Int × Int × Int} (h : PM D fs) (hp : fs.any (fun q => decide (q.1 = p.1)) = true) : PM D (fs ++ [p]) where
  has := fun k => by
    rw [h.has, List.any_append]
    by_cases hk : p.1 = k
    · rw [← hk, hp]; rfl
    · simp [hk]
  at_ := fun k => by rw [h.at_, planL_old hp]
theorem PM.put {D : DataW Nat} {fs : List (Int × Int × Int)} {p : Int × Int × Int} (h : PM D fs) (hT : IsMap D) (hp : fs.any (fun q => decide (q.1 = p.1)) = false) : PM (D.put (.int .i64 p.1) (fateD p)) (fs ++ [p]) where
  has := fun k => by
    rw [List.any_append]
    by_cases hk : k = p.1
    · subst hk; rw [has_put_same hT (key_int _)]; simp
    · rw [has_put_other (lit_int_ne hk), h.has]
      have : ¬ p.1 = k := fun e => hk e.symm
      simp [this]
  at_ := fun k => by
    rw [planL_new hp]
    by_cases hk : k = p.1
    · subst hk; rw [if_pos rfl, atKey_put_same hT (key_int _)]
    · rw [if_neg hk, atKey_put_other (lit_int_ne hk), h.at_]

section
variable {w w' : World} {X : Nat → Prop} {base dp : Nat} {S : DS} {I : DI}
theorem DK.replan (h : DK w X base dp S I) {P n : Nat} {D : DataW Nat} {pl : Int → Int × Int × Int} (hP : w.heap.size ≤ P) (hPl : P < w'.heap.size) (hb : ∀ b, X b → b ≠ dp → w'.heap[b]? = w.heap[b]?) 
    (hblk : w'.heap[dp]? = some (.cells #[.int .i64 S.room, .map (some I.F), .map (some I.Sb), .slice I.Ac I.clos.length I.cc, .map (some P), .int .i64 S.steps, .bool S.on] 88 (0, 0)))
    (hown : w'.ownsMap Try.prog 3 fateR P n D) (hat : ∀ k, D.atKey (.int .i64 k) (fateD (0, 0, 0)) = fateD (pl k)) : DK w' (fun b => X b ∨ b = P) base dp { S with plan := pl } { I with pv := .map (some P) } where
  blk := hblk
  xs := ⟨.inl h.xs.1, .inl h.xs.2.1, .inl h.xs.2.2⟩
  bd := by
    intro b hb
    rcases hb with hb | hb
    · have := h.bd b hb; omega
    · have := h.bd dp h.xs.1; omega
  dF := h.dF.blk (hb _ h.xs.2.1 (Ne.symm h.ne_F))
  dS := h.dS.blk (hb _ h.xs.2.2 (Ne.symm h.ne_S))
  ne := h.ne
  row := h.row.blk fun a ha => hb _ (h.rx a ha) (h.row_D a ha)
  rx := fun a ha => .inl (h.rx a ha)
  cln := h.cln
  cls := by
    intro j c g h1 h2
    obtain ⟨h5, h6⟩ := h.cls j c g h1 h2
    refine ⟨h5.blk fun p hp => hb p (h6 p hp) ?_, fun p hp => .inl (h6 p hp)⟩
    obtain ⟨cur, e, h7, h8⟩ := h5.ty p hp
    exact (h.far h7 (by rcases h8 with rfl | rfl <;> decide) (by rcases h8 with rfl | rfl <;> decide)).1
  fil := by
    intro q f hq
    obtain ⟨k1, k2, k3⟩ := h.fil q f hq
    obtain ⟨n1, n2, n3, n4⟩ := h.far k1.blk (by decide) (by decide)
    refine ⟨⟨(hb q k2 n1).trans k1.blk, k1.own.blk fun a ha => hb _ (k3 a ha) ?_, k1.u8, k1.le, k1.lq⟩, .inl k2, fun a ha => .inl (k3 a ha)⟩
    obtain ⟨cur, hc⟩ := k1.own.ty a ha
    exact (h.far hc (by decide) (by decide)).1
  nd := h.nd
  sep := h.sep
  idF := h.idF
  idS := h.idS
  idC := h.idC
  pl := .inr ⟨P, n, D, rfl, ⟨.inr rfl, by have := (h.bd I.F h.xs.2.1).2; simp only; omega, by have := (h.bd I.Sb h.xs.2.2).2; simp only; omega⟩, hown, hat⟩
  few := h.few

theorem run_mkP (w : World) : (Instr.makeMap 86 none).run Try.prog w = .ok (.map (some w.heap.size)) (w.alloc (.map #[] 0)) := by
  simp [Instr.makeMap, Result.andThen]

set_option maxHeartbeats 6400000 in
theorem plan_any {A : Option Addr} {n c : Nat} {fs : List (Int × Int × Int)} (h : DK w X base dp S I) (hr : RdG shFt w A n fs) (hwf : ∀ p ∈ fs, (Lit.int .i64 p.1).wf = true) (hn : n ≤ 140737488355328) (hA : 0 < n → ∀ a, A = some a → ¬ X a.block) :
    Calls Try.prog 23 #[.pointer (some ⟨dp, 0, none⟩), .slice A n c] w fun e w' => e = .returned (.tuple #[]) ∧ ∃ X' I', DK w' X' base dp { S with plan := planL fs } I' ∧ Nx X w X' w' := by
  obtain ⟨c0, c1, c2, c3, c4, c5, c6⟩ := h.at_
  have hdp := (h.bd dp h.xs.1).2
  have fr4 : w.frozen? ⟨dp, 4, none⟩ = false := by simp [World.frozen?, h.blk]
  have fr4' : (w.alloc (.map #[] 0)).frozen? ⟨dp, 4, none⟩ = false := by simp [World.frozen?, (heap_alloc_old w (.map #[] 0) hdp).trans h.blk]
  have c4' : (w.alloc (.map #[] 0)).cell? ⟨dp, 4, none⟩ = some I.pv := cell_of_row _ dp 4 _ _ (0, 0) ((heap_alloc_old w (.map #[] 0) hdp).trans h.blk)
  have hmk := run_mkP w
  obtain ⟨W1, hW1⟩ : ∃ W1, W1 = (w.alloc (.map #[] 0)).setCell ⟨dp, 4, none⟩ (.map (some w.heap.size)) := ⟨_, rfl⟩
  have hg1 := setCell_grown (w.alloc (.map #[] 0)) ⟨dp, 4, none⟩ (.map (some w.heap.size))
  rw [← hW1] at hg1
  have hz1 : W1.heap.size = w.heap.size + 1 := by rw [hW1]; simp [World.setCell]
  have hb1 : W1.heap[dp]? = some (.cells #[.int .i64 S.room, .map (some I.F), .map (some I.Sb), .slice I.Ac I.clos.length I.cc, .map (some w.heap.size), .int .i64 S.steps, .bool S.on] 88 (0, 0)) := by
    rw [hW1, heap_setCell_same _ dp 4 _ _ _ ((heap_alloc_old w _ hdp).trans h.blk)]
    rfl
  have ho1 : W1.ownsMap Try.prog 3 fateR w.heap.size 0 (.map []) := (World.ownsMap_made w Try.prog 3 fateR).kept hg1 (fun e => by have := Option.some.inj e; simp at this; omega)
  have hbl : ∀ b, b < w.heap.size → b ≠ dp → W1.heap[b]? = w.heap[b]? := fun b hb hne => (hg1.block b (by simp; omega) (fun e => hne (Option.some.inj e))).trans (heap_alloc_old w _ hb)
  have HR : Hid (∀ W, W1.grownBy W (some w.heap.size) → RdG shFt W A n fs) := Lib.hid (fun W hg => by
    rcases Nat.eq_zero_or_pos n with h0 | h0
    · exact ⟨hr.1, fun hm => by omega⟩
    · exact hr.fr (by have := hg.size; omega) (fun a ha hl => (hg.block _ (by omega) (fun e => by have := Option.some.inj e; omega)).trans (hbl _ hl (fun e => hA h0 a ha (by rw [e]; exact h.xs.1)))))
  have HD := Lib.hid h
  have HW1 := Lib.hid hW1
  have Hb1 := Lib.hid hb1
  have Ho1 := Lib.hid ho1
  have Hbl := Lib.hid hbl
  have Hz1 := Lib.hid hz1
  have Hdp := Lib.hid hdp
  have Hwf := Lib.hid hwf
  have Hg1 : Hid (FrX X w W1) := Lib.hid (((Ext.refl w).alloc (.map #[] 0)).frX X |>.trans (grownBy_frX hg1 (.inl h.xs.1)))
  have Hlen := Lib.hid hr.len
  clear h hr c0 c1 c2 c3 c5 c6 hdp hg1 hz1 hb1 ho1 hbl hA hwf
  go_enter Try.func23, Try.ntmps23
  go_wp2_with fail
  rw [← HW1.out]
  clear fr4 fr4' c4 c4' hmk hW1
  go_loopw [5, 6, 7, 14] (fun _ _ _ i wr => ∃ (j cnt : Nat) (D : DataW Nat), j ≤ n ∧ cnt ≤ j ∧ i = .int .i64 (j : Int) ∧ Hid (wr.ownsMap Try.prog 3 fateR w.heap.size cnt D) ∧ Hid (PM D (fs.take j)) ∧ Hid (W1.grownBy wr (some w.heap.size))) (fun _ _ _ i _ => n - (intOf i).toNat)
  case atStart => exact ⟨0, 0, _, Nat.zero_le _, Nat.le_refl _, rfl, Ho1, Lib.hid ⟨fun k => rfl, fun k => rfl⟩, Lib.hid ⟨rfl, rfl, rfl, Nat.le_refl _, fun _ _ _ => rfl⟩⟩
  case round =>
    obtain ⟨j, cnt, D, hj, hcj, rfl, HO, HM, HG⟩ := hrel
    by_cases hlt : j < n
    · obtain ⟨b, o, p, hA, hbl, hx, hcx⟩ := (HR.out wr HG.out).at_ hlt
      have q0 : wr.cell? ⟨b, o + j * 3, none⟩ = some (.int .i64 p.1) := by simpa [shFt] using hcx 0 _ rfl
      have q1 : wr.cell? ⟨b, o + j * 3 + 1, none⟩ = some (.int .i64 p.2.1) := by simpa [shFt] using hcx 1 _ rfl
      have q2 : wr.cell? ⟨b, o + j * 3 + 2, none⟩ = some (.int .i64 p.2.2) := by simpa [shFt] using hcx 2 _ rfl
      rw [hA]
      have hpw := Hwf.out p (List.mem_of_getElem? hx)
      have Hx := Lib.hid hx
      have Hlt := Lib.hid hlt
      have hwz : w.heap.size < wr.heap.size := by have := HG.out.size; have := Hz1.out; omega
      obtain ⟨V, hV⟩ : ∃ V, V = wr.alloc (.cells #[.int .i64 p.1, .int .i64 p.2.1, .int .i64 p.2.2] 64) := ⟨_, rfl⟩
      have hVg : W1.grownBy V (some w.heap.size) := by rw [hV]; exact HG.out.trans (World.grownBy_alloc wr _ _)
      have hVb : V.heap[wr.heap.size]? = some (.cells #[.int .i64 p.1, .int .i64 p.2.1, .int .i64 p.2.2] 64 (0, 0)) := by rw [hV]; exact heap_alloc_new wr _
      have hVo : V.ownsMap Try.prog 3 fateR w.heap.size cnt D := by rw [hV]; exact HO.out.alloc _
      have hVd : V.heap[dp]? = W1.heap[dp]? := hVg.block dp (by have := Hz1.out; have := Hdp.out; omega) (fun e => by have := Option.some.inj e; have := Hdp.out; omega)
      have v4 : V.cell? ⟨dp, 4, none⟩ = some (.map (some w.heap.size)) := cell_of_row V dp 4 _ _ (0, 0) (hVd.trans Hb1.out)
      have g0 : V.cell? ⟨wr.heap.size, 0, none⟩ = some (.int .i64 p.1) := cell_of_row V wr.heap.size 0 _ _ (0, 0) hVb
      have HV := Lib.hid hV
      have HVg := Lib.hid hVg
      have HVb := Lib.hid hVb
      have HVo := Lib.hid hVo
      have HVd := Lib.hid (hVd.trans Hb1.out)
      have Hhas := Lib.hid (HM.out.has p.1)
      have hlook : ∀ W : World, W.ownsMap Try.prog 3 fateR w.heap.size cnt D → ∃ u : Int × Int × Int, (Instr.lookup 86 (.map (some w.heap.size)) (.int .i64 p.1) true).run Try.prog W = .ok (.tuple #[fateV u, .bool ((fs.take j).any fun q => decide (q.1 = p.1))]) W := fun W hW => by
        obtain ⟨v, ps, hrun, hv⟩ := hW.look_ok (int_keyed Try.underlying3) Try.underlying86 (z := zfate) (by rfl) (zd := fateD (0, 0, 0)) (zp := []) rfl (keyOf_int_mk Try.underlying3 hpw)
        obtain ⟨u, rfl, _⟩ := fateR_inv hv
        rw [Hhas.out] at hrun
        exact ⟨u, hrun⟩
      obtain ⟨u0, hl0⟩ := hlook V.drew HVo.out.drew
      obtain ⟨⟨u1, u2, u3⟩, hu⟩ : ∃ u, u = u0 := ⟨_, rfl⟩
      rw [← hu] at hl0
      simp only [fateV] at hl0
      obtain ⟨u9, hl1⟩ := hlook (V.alloc (.cells #[.int .i64 0, .int .i64 0, .int .i64 0] 64)).drew (HVo.out.alloc _).drew
      obtain ⟨⟨u4, u5, u6⟩, hu4⟩ : ∃ u, u = u9 := ⟨_, rfl⟩
      rw [← hu4] at hl1
      simp only [fateV] at hl1
      have hVs : dp < V.heap.size := (Array.getElem?_eq_some_iff.1 HVd.out).1
      have hWs : wr.heap.size < V.heap.size := (Array.getElem?_eq_some_iff.1 HVb.out).1
      have v4' : (V.alloc (.cells #[.int .i64 0, .int .i64 0, .int .i64 0] 64)).cell? ⟨dp, 4, none⟩ = some (.map (some w.heap.size)) := cell_of_row _ dp 4 _ _ (0, 0) ((heap_alloc_old V _ hVs).trans HVd.out)
      have g0' : (V.alloc (.cells #[.int .i64 0, .int .i64 0, .int .i64 0] 64)).cell? ⟨wr.heap.size, 0, none⟩ = some (.int .i64 p.1) := cell_of_row _ wr.heap.size 0 _ _ (0, 0) ((heap_alloc_old V _ hWs).trans HVb.out)
      obtain ⟨hb, hhb⟩ : ∃ hb, hb = (fs.take j).any fun q => decide (q.1 = p.1) := ⟨_, rfl⟩
      rw [← hhb] at hl0 hl1
      have Hhb := Lib.hid hhb
      clear hA hbl hx hlt hVg hVb hVo hVd hlook hu hu4 hhb hVs hWs
      go_wp2_with fail
      rw [← HV.out]
      clear hV q0 q1 q2
      go_region
      · obtain ⟨V2, hV2⟩ : ∃ V2, V2 = (V.alloc (.cells #[.int .i64 u1, .int .i64 u2, .int .i64 u3] 64)).drew := ⟨_, rfl⟩
        have hVs : dp < V.heap.size := (Array.getElem?_eq_some_iff.1 HVd.out).1
        have hWs : wr.heap.size < V.heap.size := (Array.getElem?_eq_some_iff.1 HVb.out).1
        have d2 : V2.heap[dp]? = some (.cells #[.int .i64 S.room, .map (some I.F), .map (some I.Sb), .slice I.Ac I.clos.length I.cc, .map (some w.heap.size), .int .i64 S.steps, .bool S.on] 88 (0, 0)) := by rw [hV2]; exact (heap_alloc_old V _ hVs).trans HVd.out
        have b2 : V2.heap[wr.heap.size]? = some (.cells #[.int .i64 p.1, .int .i64 p.2.1, .int .i64 p.2.2] 64 (0, 0)) := by rw [hV2]; exact (heap_alloc_old V _ hWs).trans HVb.out
        have o2 : V2.ownsMap Try.prog 3 fateR w.heap.size cnt D := by rw [hV2]; exact (HVo.out.alloc _).drew
        have G2 : Hid (W1.grownBy V2 (some w.heap.size)) := Lib.hid (by rw [hV2]; exact grown_drew (HVg.out.trans (World.grownBy_alloc V _ _)))
        rw [← hV2]
        have e4 : V2.cell? ⟨dp, 4, none⟩ = some (.map (some w.heap.size)) := cell_of_row V2 dp 4 _ _ (0, 0) d2
        have f0 : V2.cell? ⟨wr.heap.size, 0, none⟩ = some (.int .i64 p.1) := cell_of_row V2 wr.heap.size 0 _ _ (0, 0) b2
        have f1 : V2.cell? ⟨wr.heap.size, 1, none⟩ = some (.int .i64 p.2.1) := cell_of_row V2 wr.heap.size 1 _ _ (0, 0) b2
        have f2 : V2.cell? ⟨wr.heap.size, 2, none⟩ = some (.int .i64 p.2.2) := cell_of_row V2 wr.heap.size 2 _ _ (0, 0) b2
        have O2 := Lib.hid o2
        have htk : Hid (fs.take (j + 1) = fs.take j ++ [p]) := Lib.hid (by rw [List.take_add_one, Hx.out]; rfl)
        clear hV2 hVs hWs d2 b2 o2 v4 g0 v4' g0' hl0 hl1
        cases hb with
        | true =>
          go_wp2_with fail
          go_roundw
          case rel => exact ⟨j + 1, cnt, D, by have := Hlt.out; omega, by omega, by go_num, O2, Lib.hid (by rw [htk.out]; exact HM.out.old Hhb.out.symm), G2⟩
          case measure => simp [intOf]; have := Hlt.out; omega
        | false =>
          obtain ⟨w9, hrun, ho9, hg9⟩ := O2.out.drew.update (int_keyed Try.underlying3) Try.underlying86 (by unfold maxLen; omega) (key := .int .i64 p.1) (val := .agg #[.int .i64 p.1, .int .i64 p.2.1, .int .i64 p.2.2]) (keyOf_int_mk Try.underlying3 hpw) (fateR_V p)
          have HO9 := Lib.hid ho9
          have HG9 := Lib.hid hg9
          clear ho9 hg9
          go_wp2_with fail
          go_region
          all_goals
            go_wp2_with fail
            go_roundw
            case rel => exact ⟨j + 1, cnt + 1, _, by have := Hlt.out; omega, by omega, by go_num, HO9, Lib.hid (by rw [htk.out]; exact HM.out.put O2.out.isMap Hhb.out.symm), Lib.hid ((grown_drew G2.out).trans HG9.out)⟩
            case measure => simp [intOf]; have := Hlt.out; omega
      · obtain ⟨V2, hV2⟩ : ∃ V2, V2 = (V.alloc (.cells #[.int .i64 u4, .int .i64 u5, .int .i64 u6] 64)).drew := ⟨_, rfl⟩
        have hVs : dp < V.heap.size := (Array.getElem?_eq_some_iff.1 HVd.out).1
        have hWs : wr.heap.size < V.heap.size := (Array.getElem?_eq_some_iff.1 HVb.out).1
        have d2 : V2.heap[dp]? = some (.cells #[.int .i64 S.room, .map (some I.F), .map (some I.Sb), .slice I.Ac I.clos.length I.cc, .map (some w.heap.size), .int .i64 S.steps, .bool S.on] 88 (0, 0)) := by rw [hV2]; exact (heap_alloc_old V _ hVs).trans HVd.out
        have b2 : V2.heap[wr.heap.size]? = some (.cells #[.int .i64 p.1, .int .i64 p.2.1, .int .i64 p.2.2] 64 (0, 0)) := by rw [hV2]; exact (heap_alloc_old V _ hWs).trans HVb.out
        have o2 : V2.ownsMap Try.prog 3 fateR w.heap.size cnt D := by rw [hV2]; exact (HVo.out.alloc _).drew
        have G2 : Hid (W1.grownBy V2 (some w.heap.size)) := Lib.hid (by rw [hV2]; exact grown_drew (HVg.out.trans (World.grownBy_alloc V _ _)))
        rw [← hV2]
        have e4 : V2.cell? ⟨dp, 4, none⟩ = some (.map (some w.heap.size)) := cell_of_row V2 dp 4 _ _ (0, 0) d2
        have f0 : V2.cell? ⟨wr.heap.size, 0, none⟩ = some (.int .i64 p.1) := cell_of_row V2 wr.heap.size 0 _ _ (0, 0) b2
        have f1 : V2.cell? ⟨wr.heap.size, 1, none⟩ = some (.int .i64 p.2.1) := cell_of_row V2 wr.heap.size 1 _ _ (0, 0) b2
        have f2 : V2.cell? ⟨wr.heap.size, 2, none⟩ = some (.int .i64 p.2.2) := cell_of_row V2 wr.heap.size 2 _ _ (0, 0) b2
        have O2 := Lib.hid o2
        have htk : Hid (fs.take (j + 1) = fs.take j ++ [p]) := Lib.hid (by rw [List.take_add_one, Hx.out]; rfl)
        clear hV2 hVs hWs d2 b2 o2 v4 g0 v4' g0' hl0 hl1
        cases hb with
        | true =>
          go_wp2_with fail
          go_roundw
          case rel => exact ⟨j + 1, cnt, D, by have := Hlt.out; omega, by omega, by go_num, O2, Lib.hid (by rw [htk.out]; exact HM.out.old Hhb.out.symm), G2⟩
          case measure => simp [intOf]; have := Hlt.out; omega
        | false =>
          obtain ⟨w9, hrun, ho9, hg9⟩ := O2.out.drew.update (int_keyed Try.underlying3) Try.underlying86 (by unfold maxLen; omega) (key := .int .i64 p.1) (val := .agg #[.int .i64 p.1, .int .i64 p.2.1, .int .i64 p.2.2]) (keyOf_int_mk Try.underlying3 hpw) (fateR_V p)
          have HO9 := Lib.hid ho9
          have HG9 := Lib.hid hg9
          clear ho9 hg9
          go_wp2_with fail
          go_region
          all_goals
            go_wp2_with fail
            go_roundw
            case rel => exact ⟨j + 1, cnt + 1, _, by have := Hlt.out; omega, by omega, by go_num, HO9, Lib.hid (by rw [htk.out]; exact HM.out.put O2.out.isMap Hhb.out.symm), Lib.hid ((grown_drew G2.out).trans HG9.out)⟩
            case measure => simp [intOf]; have := Hlt.out; omega
    · obtain rfl : j = n := by omega
      clear hlt
      go_wp2_with fail
      go_end0
      have hdb : wr.heap[dp]? = W1.heap[dp]? := HG.out.block dp (by have := Hz1.out; have := Hdp.out; omega) (fun e => by have := Option.some.inj e; have := Hdp.out; omega)
      have hfull : fs.take j = fs := List.take_of_length_le (by rw [Hlen.out]; exact Nat.le_refl _)
      have hM := HM.out
      rw [hfull] at hM
      have hsz := HG.out.size
      refine ⟨rfl, _, _, HD.out.replan (P := w.heap.size) (Nat.le_refl _) (by have := Hz1.out; omega) (fun b hb hne => (HG.out.block b (by have := (HD.out.bd b hb).2; have := Hz1.out; omega) (fun e => by have := Option.some.inj e; have := (HD.out.bd b hb).2; omega)).trans (Hbl.out b (HD.out.bd b hb).2 hne)) (hdb.trans Hb1.out) HO.out hM.at_, ⟨?_, fun b hb => .inl hb, fun b hb => ?_⟩⟩
      · refine ⟨HG.out.os.trans Hg1.out.os, HG.out.tape.trans Hg1.out.tape, HG.out.output.trans Hg1.out.output, by have := Hz1.out; omega, fun i hi hx => (HG.out.block i (by have := Hz1.out; omega) (fun e => by have := Option.some.inj e; omega)).trans (Hg1.out.block i hi hx)⟩
      · rcases hb with hb | hb
        · exact .inl hb
        · exact .inr (by omega)
end

end Go.Proofs.Ytjckfbpdnpehcaa

/-
  Layer 14: a file that is renamed over another one: the states.
-/
namespace Go.Proofs.Ytjckfbpdnpehcaa
open Go.RowKit Go.Maps Go.WideMaps
set_option maxRecDepth 100000

abbrev nN : List UInt8 := [110, 97, 109, 101]
abbrev nT : List UInt8 := [116, 109, 112]
theorem okN : isNm ⟨nN.toArray⟩ = true := by decide
theorem okT : isNm ⟨nT.toArray⟩ = true := by decide
theorem ltNT : nN < nT := by decide
theorem ltTN : ¬ nT < nN := by decide
theorem ltNN : ¬ nN < nN := by decide

theorem fated_zero {S S' : DS} {f : DS → Int × DS} {g : DS → Int → DS} (h : (0, S') = fated S f g) : (f { S with steps := S.steps + 1 }) = (0, S') := by
  unfold fated at h
  split at h
  · injection h with h; omega
  split at h
  · injection h with h; omega
  split at h
  · injection h with h; omega
  split at h
  · injection h with h; omega
  split at h
  · injection h with h; omega
  · exact h.symm

section
variable (old fresh : List Nat)
/-- Whatever is kept, there is the old file or the new one. -/
structure EI (S : DS) : Prop where
  room : S.room = 16777216
  len : ∀ p f, (p, f) ∈ S.fl → f.data.length ≤ 2097152
  either : ∀ k, k ≤ S.chs.length → ∃ p d, lkp (preD S k) nN = some p ∧ (p, (⟨d, d.length⟩ : FS)) ∈ S.fl ∧ (d = old ∨ d = fresh)
variable {old fresh}
theorem EI.same {S S' : DS} (h : EI old fresh S) (h1 : S'.room = S.room) (h2 : S'.safe = S.safe) (h3 : S'.chs = S.chs) (h4 : S'.fl = S.fl) : EI old fresh S' := by
  refine ⟨h1.trans h.room, by rw [h4]; exact h.len, fun k hk => ?_⟩
  have e : preD S' k = preD S k := by unfold preD; rw [h2, h3]
  rw [e, h4]
  exact h.either k (by rw [← h3]; exact hk)
theorem ei_fated {S : DS} {f : DS → Int × DS} {g : DS → Int → DS} (h : EI old fresh S) (hf : EI old fresh (f { S with steps := S.steps + 1 }).2) (hg : ∀ n, EI old fresh (g { S with steps := S.steps + 1 } n)) : EI old fresh (fated S f g).2 := by
  unfold fated
  split
  · exact h
  split
  · exact h.same rfl rfl rfl rfl
  split
  · exact hg _
  split
  · exact h.same rfl rfl rfl rfl
  split
  · exact hf.same rfl rfl rfl rfl
  · exact hf

/-- A state with a plan. -/
abbrev mP (files safe : Dir) (chs : List Chg) (fl : List (Nat × FS)) (steps : Int) (pl : Int → Int × Int × Int) : DS := ⟨16777216, files, safe, chs, fl, pl, steps, true⟩
variable (q0 q1 : Nat) (hq : q0 ≠ q1) (pl : Int → Int × Int × Int) (ho : old.length ≤ 1048576) (hn : fresh.length ≤ 1048576)
include ho
theorem ei_old {files : Dir} {chs : List Chg} {fl : List (Nat × FS)} {steps : Int} (hc : chs = [] ∨ chs = [.cr nT q1]) (hm : (q0, (⟨old, old.length⟩ : FS)) ∈ fl) (hl : ∀ p f, (p, f) ∈ fl → f.data.length ≤ 2097152) : EI old fresh (mP files [(nN, q0)] chs fl steps pl) := by
  refine ⟨rfl, hl, fun k hk => ⟨q0, old, ?_, hm, .inl rfl⟩⟩
  have _ := ho
  rcases hc with rfl | rfl
  · simp [preD, lkp]
  · cases k with
    | zero => simp [preD, lkp]
    | succ k => simp [preD, apD, putD, lkp, ltNT, ltTN]
include hn
theorem ei_new {files : Dir} {chs : List Chg} {steps : Int} (hc : chs = [.cr nT q1, .mv nT nN]) : EI old fresh (mP files [(nN, q0)] chs [(q0, ⟨old, old.length⟩), (q1, ⟨fresh, fresh.length⟩)] steps pl) := by
  subst hc
  refine ⟨rfl, ?_, fun k hk => ?_⟩
  · intro p f hf
    simp only [List.mem_cons, Prod.mk.injEq, List.not_mem_nil, or_false] at hf
    rcases hf with ⟨_, rfl⟩ | ⟨_, rfl⟩ <;> simp only <;> omega
  · match k, hk with
    | 0, _ => exact ⟨q0, old, by simp [preD, lkp], by simp, .inl rfl⟩
    | 1, _ => exact ⟨q0, old, by simp [preD, apD, putD, lkp, ltNT, ltTN], by simp, .inl rfl⟩
    | k + 2, _ => exact ⟨q1, fresh, by simp [preD, apD, putD, delD, lkp, ltNT, ltTN], by simp, .inr rfl⟩
theorem ei_safe {files : Dir} {steps : Int} : EI old fresh (mP files [(nN, q1)] [] [(q0, ⟨old, old.length⟩), (q1, ⟨fresh, fresh.length⟩)] steps pl) := by
  refine ⟨rfl, ?_, fun k hk => ⟨q1, fresh, by simp [preD, lkp], by simp, .inr rfl⟩⟩
  intro p f hf
  simp only [List.mem_cons, Prod.mk.injEq, List.not_mem_nil, or_false] at hf
  rcases hf with ⟨_, rfl⟩ | ⟨_, rfl⟩ <;> simp only <;> omega
omit ho hn
theorem sw_1 : doCreate nT q1 (mP [(nN, q0)] [(nN, q0)] [] [(q0, ⟨old, old.length⟩)] 1 pl) = (0, mP [(nN, q0), (nT, q1)] [(nN, q0)] [.cr nT q1] [(q0, ⟨old, old.length⟩), (q1, ⟨[], 0⟩)] 1 pl) := by
  have h : refC (mP [(nN, q0)] [(nN, q0)] [] [(q0, ⟨old, old.length⟩)] 1 pl) nT = 0 := by unfold refC; rw [okT]; simp [lkp]
  unfold doCreate
  rw [if_pos h]
  simp [putD, ltNT, ltTN]
include ho hn hq
theorem sw_2 : doAppend nT fresh (mP [(nN, q0), (nT, q1)] [(nN, q0)] [.cr nT q1] [(q0, ⟨old, old.length⟩), (q1, ⟨[], 0⟩)] 2 pl) = (0, mP [(nN, q0), (nT, q1)] [(nN, q0)] [.cr nT q1] [(q0, ⟨old, old.length⟩), (q1, ⟨fresh, 0⟩)] 2 pl) := by
  have h1 : ¬ (16777216 : Int) - (old.length : Int) < (fresh.length : Int) := by omega
  simp [doAppend, lkp, usedD, lenF, setF, hq, h1]
theorem sw_2p (n : Int) : EI old fresh (doPart nT fresh (mP [(nN, q0), (nT, q1)] [(nN, q0)] [.cr nT q1] [(q0, ⟨old, old.length⟩), (q1, ⟨[], 0⟩)] 2 pl) n) := by
  obtain ⟨k, hk⟩ : ∃ k, k = (max (min (min n (fresh.length : Int)) ((mP [(nN, q0), (nT, q1)] [(nN, q0)] [.cr nT q1] [(q0, ⟨old, old.length⟩), (q1, ⟨[], 0⟩)] 2 pl).room - (usedD (mP [(nN, q0), (nT, q1)] [(nN, q0)] [.cr nT q1] [(q0, ⟨old, old.length⟩), (q1, ⟨[], 0⟩)] 2 pl) : Int))) 0).toNat := ⟨_, rfl⟩
  have e : doPart nT fresh (mP [(nN, q0), (nT, q1)] [(nN, q0)] [.cr nT q1] [(q0, ⟨old, old.length⟩), (q1, ⟨[], 0⟩)] 2 pl) n = mP [(nN, q0), (nT, q1)] [(nN, q0)] [.cr nT q1] [(q0, ⟨old, old.length⟩), (q1, ⟨fresh.take k, 0⟩)] 2 pl := by
    unfold doPart
    rw [show lkp (mP [(nN, q0), (nT, q1)] [(nN, q0)] [.cr nT q1] [(q0, ⟨old, old.length⟩), (q1, ⟨[], 0⟩)] 2 pl).files nT = some q1 from by simp [lkp]]
    simp only
    rw [← hk]
    simp [setF, hq]
  rw [e]
  refine ei_old q0 q1 pl ho (.inr rfl) (by simp) ?_
  intro p f hf
  simp only [List.mem_cons, Prod.mk.injEq, List.not_mem_nil, or_false] at hf
  rcases hf with ⟨_, rfl⟩ | ⟨_, rfl⟩
  · simp only; omega
  · simp only [List.length_take]; omega
omit ho hn
theorem sw_3 : doSync nT (mP [(nN, q0), (nT, q1)] [(nN, q0)] [.cr nT q1] [(q0, ⟨old, old.length⟩), (q1, ⟨fresh, 0⟩)] 3 pl) = (0, mP [(nN, q0), (nT, q1)] [(nN, q0)] [.cr nT q1] [(q0, ⟨old, old.length⟩), (q1, ⟨fresh, fresh.length⟩)] 3 pl) := by
  simp [doSync, lkp, setF, hq]
omit hq
theorem sw_4 : doRename nT nN (mP [(nN, q0), (nT, q1)] [(nN, q0)] [.cr nT q1] [(q0, ⟨old, old.length⟩), (q1, ⟨fresh, fresh.length⟩)] 4 pl) = (0, mP [(nN, q1)] [(nN, q0)] [.cr nT q1, .mv nT nN] [(q0, ⟨old, old.length⟩), (q1, ⟨fresh, fresh.length⟩)] 4 pl) := by
  unfold doRename
  simp [lkp, okN, putD, delD, ltNT, ltTN]
theorem sw_5 : doSyncDir (mP [(nN, q1)] [(nN, q0)] [.cr nT q1, .mv nT nN] [(q0, ⟨old, old.length⟩), (q1, ⟨fresh, fresh.length⟩)] 5 pl) = (0, mP [(nN, q1)] [(nN, q1)] [] [(q0, ⟨old, old.length⟩), (q1, ⟨fresh, fresh.length⟩)] 5 pl) := by
  simp [doSyncDir]
end

theorem keep_full (ks : List Int) (j : Nat) (d : List Nat) : keepF ks j ⟨d, d.length⟩ = ⟨d, d.length⟩ := by
  have hk := keptC_le ks (j + 1) 0
  have e : keptC ks (j + 1) ((d.length : Int) - (d.length : Int)) = 0 := by rw [Int.sub_self]; simp at hk; omega
  unfold keepF
  simp only [e]
  simp
theorem on_full {ks : List Int} {D : Dir} {fl : List (Nat × FS)} {p : Nat} {d : List Nat} (h : (p, (⟨d, d.length⟩ : FS)) ∈ fl) : ∀ j, (p, (⟨d, d.length⟩ : FS)) ∈ onFl ks D fl j
  | 0 => h
  | j + 1 => by
    have ih := on_full (ks := ks) (D := D) h j
    unfold onFl
    split
    · rename_i e _
      by_cases hp : p = e.2
      · exact mem_setF.2 (.inr ⟨hp, _, ih, (keep_full ks j d).symm⟩)
      · exact mem_setF.2 (.inl ⟨hp, ih⟩)
    · exact ih
/-- Behind the crash. -/
theorem EI.after {old fresh : List Nat} {S : DS} (h : EI old fresh S) (ks : List Int) (hnd : (doOn ks S).fl.Pairwise fun (a b : Nat × FS) => a.1 ≠ b.1) :
    ∃ d, (d = old ∨ d = fresh) ∧ (∀ p, S.chs = [] → lkp S.safe nN = some p → (p, (⟨fresh, fresh.length⟩ : FS)) ∈ S.fl → d = fresh) ∧ d.length ≤ 2097152 ∧ sizeC (doOn ks S) nN = (d.length, 0) ∧ readC (doOn ks S) nN 0 (d.length : Int) = (d, 0) ∧ Fit (doOn ks S) 140737488355328 := by
  have hk := keptC_le ks 0 S.chs.length
  obtain ⟨p, d, h1, h2, h3⟩ := h.either (keptC ks 0 (S.chs.length : Int)).toNat (by omega)
  have hf : (p, (⟨d, d.length⟩ : FS)) ∈ (doOn ks S).fl := on_full h2 _
  have hfd := fileD_mem hnd hf
  have hfind : findC (doOn ks S) nN = (some p, 0) := by
    unfold findC
    rw [if_neg (by show ¬ true = false; decide), show (doOn ks S).files = preD S (keptC ks 0 (S.chs.length : Int)).toNat from rfl, h1]
  refine ⟨d, h3, fun p' hc hs hf' => ?_, h.len _ _ h2, ?_, ?_, ⟨by show 0 ≤ S.room ∧ S.room ≤ 16777216; rw [h.room]; decide, ?_⟩⟩
  · have e : preD S (keptC ks 0 (S.chs.length : Int)).toNat = S.safe := by unfold preD; rw [hc]; simp
    rw [e, hs] at h1
    injection h1 with h1
    subst h1
    have := fileD_mem hnd (on_full (ks := ks) (D := preD S (keptC ks 0 (S.chs.length : Int)).toNat) hf' _)
    rw [hfd] at this
    injection this
  · unfold sizeC
    rw [hfind]
    simp only [hfd]
  · unfold readC
    rw [hfind]
    simp only [hfd]
    rw [if_neg (by omega), if_neg (by simp)]
    simp
  · have hlenS : ∀ j q f', (q, f') ∈ onFl ks (preD S (keptC ks 0 (S.chs.length : Int)).toNat) S.fl j → f'.data.length ≤ 2097152 := by
      intro j
      induction j with
      | zero => exact fun q f' hf' => h.len q f' hf'
      | succ j ih =>
        intro q f' hf'
        unfold onFl at hf'
        split at hf'
        · rcases mem_setF.1 hf' with ⟨_, hf'⟩ | ⟨_, f0, hf0, rfl⟩
          · exact ih q f' hf'
          · have := ih q f0 hf0
            unfold keepF
            simp only [List.length_take]
            omega
        · exact ih q f' hf'
    intro q f' hf'
    have := hlenS _ q f' hf'
    omega

section
variable {w w' : World} {P : Nat → Prop} {dp : Nat} {S : DS}
theorem plan_Dk {A : Option Addr} {n c : Nat} {fs : List (Int × Int × Int)} (h : DkR w P dp S) (hr : RdG shFt w A n fs) (hwf : ∀ p ∈ fs, (Lit.int .i64 p.1).wf = true) (hn : n ≤ 140737488355328) (hA : 0 < n → ∀ a, A = some a → P a.block) :
    Calls Try.prog 23 #[.pointer (some ⟨dp, 0, none⟩), .slice A n c] w fun e w' => e = .returned (.tuple #[]) ∧ DkR w' P dp { S with plan := planL fs } ∧ PFr P w w' := by
  obtain ⟨lo, X, I, h1, h2, hP⟩ := h
  refine (plan_any (c := c) h1 hr hwf hn (fun h0 a ha => (hP _ (hA h0 a ha)).2)).mono ?_
  rintro e w' ⟨rfl, X', I', h4, h5⟩
  obtain ⟨k1, k2⟩ := h5.pfr hP
  exact ⟨rfl, ⟨lo, X', I', h4, h2.sub rfl rfl rfl (fun _ q => q), k2⟩, k1⟩
end

end Go.Proofs.Ytjckfbpdnpehcaa
