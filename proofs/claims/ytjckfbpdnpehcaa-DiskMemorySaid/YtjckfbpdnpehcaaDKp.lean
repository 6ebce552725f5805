/-
  Layer 14: the document's example, as states.
-/
import Derived.Test.YtjckfbpdnpehcaaDKo
namespace Go.Proofs.Ytjckfbpdnpehcaa
open Go.RowKit Go.Maps Go.WideMaps
set_option maxRecDepth 100000

/-- A state without fates, the power on. -/
def mkS (room : Int) (files safe : Dir) (chs : List Chg) (fl : List (Nat × FS)) (steps : Int) : DS := ⟨room, files, safe, chs, fl, fun _ => (0, 0, 0), steps, true⟩
theorem plain_mkS (room : Int) (files safe : Dir) (chs : List Chg) (fl : List (Nat × FS)) (steps : Int) : Plain (mkS room files safe chs fl steps) := ⟨rfl, fun _ => rfl⟩
abbrev nA : List UInt8 := [97]
abbrev nB : List UInt8 := [98]
theorem ltAB : nA < nB := by decide
theorem ltBA : ¬ nB < nA := by decide
theorem ltAA : ¬ nA < nA := by decide
theorem ltBB : ¬ nB < nB := by decide
theorem okA : isNm ⟨nA.toArray⟩ = true := by decide
theorem okB : isNm ⟨nB.toArray⟩ = true := by decide
theorem neAB : ¬ nA = nB := by decide
theorem neBA : ¬ nB = nA := by decide

section
variable (q q2 : Nat)
theorem bg1 : doCreate nA q (mkS 10 [] [] [] [] 1) = (0, mkS 10 [(nA, q)] [] [.cr nA q] [(q, ⟨[], 0⟩)] 1) := by
  have h : refC (mkS 10 [] [] [] [] 1) nA = 0 := by unfold refC; rw [okA]; simp [mkS, lkp]
  unfold doCreate
  rw [if_pos h]
  simp [mkS, putD]
theorem bg2 : doAppend nA [120, 121, 122] (mkS 10 [(nA, q)] [] [.cr nA q] [(q, ⟨[], 0⟩)] 2) = (0, mkS 10 [(nA, q)] [] [.cr nA q] [(q, ⟨[120, 121, 122], 0⟩)] 2) := by
  simp [doAppend, mkS, lkp, usedD, lenF, setF]
theorem bg3 : doSync nA (mkS 10 [(nA, q)] [] [.cr nA q] [(q, ⟨[120, 121, 122], 0⟩)] 3) = (0, mkS 10 [(nA, q)] [] [.cr nA q] [(q, ⟨[120, 121, 122], 3⟩)] 3) := by
  simp [doSync, mkS, lkp, setF]
theorem bg4 : doSyncDir (mkS 10 [(nA, q)] [] [.cr nA q] [(q, ⟨[120, 121, 122], 3⟩)] 4) = (0, mkS 10 [(nA, q)] [(nA, q)] [] [(q, ⟨[120, 121, 122], 3⟩)] 4) := by
  simp [doSyncDir, mkS]
theorem bg5 : doAppend nA [117, 118] (mkS 10 [(nA, q)] [(nA, q)] [] [(q, ⟨[120, 121, 122], 3⟩)] 5) = (0, mkS 10 [(nA, q)] [(nA, q)] [] [(q, ⟨[120, 121, 122, 117, 118], 3⟩)] 5) := by
  simp [doAppend, mkS, lkp, usedD, lenF, setF]
theorem bg6 : doOn [0, 1] (mkS 10 [(nA, q)] [(nA, q)] [] [(q, ⟨[120, 121, 122, 117, 118], 3⟩)] 5) = mkS 10 [(nA, q)] [(nA, q)] [] [(q, ⟨[120, 121, 122, 117], 4⟩)] 5 := by
  have e1 : (min (max (1 : Int) 0) 2).toNat = 1 := by decide
  simp [doOn, mkS, preD, keptC, onFl, setF, keepF, e1]
theorem bg7 : readC (mkS 10 [(nA, q)] [(nA, q)] [] [(q, ⟨[120, 121, 122, 117], 4⟩)] 5) nA 0 4 = ([120, 121, 122, 117], 0) := by
  simp [readC, findC, mkS, lkp, fileD]
theorem bg8 : doCreate nB q2 (mkS 10 [(nA, q)] [(nA, q)] [] [(q, ⟨[120, 121, 122, 117], 4⟩)] 6) = (0, mkS 10 [(nA, q), (nB, q2)] [(nA, q)] [.cr nB q2] [(q, ⟨[120, 121, 122, 117], 4⟩), (q2, ⟨[], 0⟩)] 6) := by
  have h : refC (mkS 10 [(nA, q)] [(nA, q)] [] [(q, ⟨[120, 121, 122, 117], 4⟩)] 6) nB = 0 := by unfold refC; rw [okB]; simp [mkS, lkp]
  unfold doCreate
  rw [if_pos h]
  simp [mkS, putD, ltAB, ltBA]
theorem bg9 (hq : q ≠ q2) : doAppend nB [119] (mkS 10 [(nA, q), (nB, q2)] [(nA, q)] [.cr nB q2] [(q, ⟨[120, 121, 122, 117], 4⟩), (q2, ⟨[], 0⟩)] 7) = (0, mkS 10 [(nA, q), (nB, q2)] [(nA, q)] [.cr nB q2] [(q, ⟨[120, 121, 122, 117], 4⟩), (q2, ⟨[119], 0⟩)] 7) := by
  simp [doAppend, mkS, lkp, usedD, lenF, setF, hq]
theorem bg10 (hq : q ≠ q2) : doSync nB (mkS 10 [(nA, q), (nB, q2)] [(nA, q)] [.cr nB q2] [(q, ⟨[120, 121, 122, 117], 4⟩), (q2, ⟨[119], 0⟩)] 8) = (0, mkS 10 [(nA, q), (nB, q2)] [(nA, q)] [.cr nB q2] [(q, ⟨[120, 121, 122, 117], 4⟩), (q2, ⟨[119], 1⟩)] 8) := by
  simp [doSync, mkS, lkp, setF, hq]
theorem bg11 : doRename nB nA (mkS 10 [(nA, q), (nB, q2)] [(nA, q)] [.cr nB q2] [(q, ⟨[120, 121, 122, 117], 4⟩), (q2, ⟨[119], 1⟩)] 9) = (0, mkS 10 [(nA, q2)] [(nA, q)] [.cr nB q2, .mv nB nA] [(q, ⟨[120, 121, 122, 117], 4⟩), (q2, ⟨[119], 1⟩)] 9) := by
  unfold doRename
  simp [mkS, lkp, okA, putD, delD, ltAB, ltBA]
theorem bg12 (hq : q ≠ q2) : doOn [2] (mkS 10 [(nA, q2)] [(nA, q)] [.cr nB q2, .mv nB nA] [(q, ⟨[120, 121, 122, 117], 4⟩), (q2, ⟨[119], 1⟩)] 9) = mkS 10 [(nA, q2)] [(nA, q2)] [] [(q, ⟨[120, 121, 122, 117], 4⟩), (q2, ⟨[119], 1⟩)] 9 := by
  have e1 : (min (max (2 : Int) 0) 2).toNat = 2 := by decide
  simp [doOn, mkS, preD, keptC, onFl, setF, keepF, apD, lkp, putD, delD, ltAB, ltBA, hq, e1]
theorem bg13 (hq : q ≠ q2) : readC (mkS 10 [(nA, q2)] [(nA, q2)] [] [(q, ⟨[120, 121, 122, 117], 4⟩), (q2, ⟨[119], 1⟩)] 9) nA 0 1 = ([119], 0) := by
  simp [readC, findC, mkS, lkp, fileD, hq]
end

section
variable {w w' : World} {P : Nat → Prop} {dp : Nat} {S : DS}
/-- A step of a plain disk that goes well. -/
theorem Leaves.well {f : Nat → DS → Int × DS} {g : DS → Int → DS} {e : Ending} {S1 : Nat → DS} (h : Leaves w P dp S f g e w') (hp : Plain S) (hE : ∀ k, (∀ a, (k, a) ∉ S.fl) → f k { S with steps := S.steps + 1 } = (0, S1 k)) (hd : DkR w P dp S) : e = .returned (.int .i64 0) ∧ ∃ k, w.heap.size ≤ k ∧ DkR w' P dp (S1 k) ∧ PFr P w w' := by
  obtain ⟨r, S', k, rfl, h1, h2, h3, h4⟩ := h
  rw [fated_plain hp, hE k (fun a ha => by have := hd.lt ha; omega)] at h2
  injection h2 with h5 h6
  subst h5
  subst h6
  exact ⟨rfl, k, h3, h1, h4⟩
theorem fit_mkS (files safe : Dir) (chs : List Chg) (fl : List (Nat × FS)) (steps : Int) (h : ∀ q f, (q, f) ∈ fl → f.data.length ≤ 140737488355328) : Fit (mkS 10 files safe chs fl steps) 140737488355328 := ⟨⟨by show (0 : Int) ≤ 10; decide, by show (10 : Int) ≤ 16777216; decide⟩, h⟩
end

end Go.Proofs.Ytjckfbpdnpehcaa
