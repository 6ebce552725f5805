/-
  Layer 14: a disk as it lies in memory.
-/
import Derived.Test.YtjckfbpdnpehcaaDK2
namespace Go.Proofs.Ytjckfbpdnpehcaa
open Go.RowKit Go.Maps Go.WideMaps
set_option maxRecDepth 100000

/-- A file: its bytes, how many of them are safe. -/
structure FS where
  data : List Nat
  safe : Nat
/-- A fate: its kind, its number. -/
structure DS where
  room : Int
  files : Dir
  safe : Dir
  chs : List Chg
  fl : List (Nat × FS)
  plan : Int → Int × Int × Int
  steps : Int
  on : Bool
/-- Where it lies. -/
structure DI where
  F : Nat
  Sb : Nat
  Ac : Option Addr
  cc : Nat
  clos : List Clo
  pv : Value
  rows : Nat → Option Addr
  caps : Nat → Nat

def zfate : Value := .agg #[.int .i64 0, .int .i64 0, .int .i64 0]
def fateV (p : Int × Int × Int) : Value := .agg #[.int .i64 p.1, .int .i64 p.2.1, .int .i64 p.2.2]
def fateD (p : Int × Int × Int) : DataW Nat := .agg [.lit (.int .i64 p.1), .lit (.int .i64 p.2.1), .lit (.int .i64 p.2.2)]
def fateL (l : List Value) : Option (DataW Nat × List MemPlace) :=
  match l with
  | [.int .i64 a, .int .i64 b, .int .i64 c] => some (fateD (a, b, c), [])
  | _ => none
def fateR (v : Value) : Option (DataW Nat × List MemPlace) :=
  match v with
  | .agg cs => fateL cs.toList
  | _ => none
theorem fateR_V (p : Int × Int × Int) : fateR (fateV p) = some (fateD p, []) := rfl
theorem fateD_inj {p q : Int × Int × Int} (h : fateD p = fateD q) : p = q := by
  obtain ⟨a, b, c⟩ := p
  obtain ⟨a', b', c'⟩ := q
  simp [fateD] at h
  simp [h]
theorem fateR_inv {v : Value} {d : DataW Nat} {ps : List MemPlace} (h : fateR v = some (d, ps)) : ∃ p, v = fateV p ∧ d = fateD p := by
  cases v with
  | agg cs =>
      simp only [fateR] at h
      obtain ⟨l⟩ := cs
      simp only [fateL] at h
      split at h
      · rename_i a b c
        injection h with h
        injection h with h1 h2
        exact ⟨(a, b, c), rfl, h1.symm⟩
      · cases h
  | _ => simp [fateR] at h

/-- The plan. -/
def PlanR (w : World) (X : Nat → Prop) (F Sb : Nat) (pv : Value) (pl : Int → Int × Int × Int) : Prop :=
  (pv = .map none ∧ ∀ k, pl k = (0, 0, 0)) ∨ ∃ P n D, pv = .map (some P) ∧ (X P ∧ P ≠ F ∧ P ≠ Sb) ∧ w.ownsMap Try.prog 3 fateR P n D ∧ ∀ k, D.atKey (.int .i64 k) (fateD (0, 0, 0)) = fateD (pl k)
theorem PlanR.blk {w w' : World} {X X' : Nat → Prop} {F Sb : Nat} {pv : Value} {pl : Int → Int × Int × Int} (h : PlanR w X F Sb pv pl) (hX : ∀ b, X b → X' b) (hb : ∀ P, pv = .map (some P) → X P → P ≠ F → P ≠ Sb → w'.heap[P]? = w.heap[P]?) : PlanR w' X' F Sb pv pl := by
  rcases h with h | ⟨P, n, D, h1, ⟨h2, h2a, h2b⟩, ⟨es, clock, h3, h4⟩, h5⟩
  · exact .inl h
  · exact .inr ⟨P, n, D, h1, ⟨hX P h2, h2a, h2b⟩, ⟨es, clock, (hb P h1 h2 h2a h2b).trans h3, h4⟩, h5⟩

/-- A file lies so. -/
structure FileR (w : World) (base q : Nat) (f : FS) (A : Option Addr) (c : Nat) : Prop where
  blk : w.heap[q]? = some (.cells #[.slice A f.data.length c, .int .i64 (f.safe : Int)] 96 (0, 0))
  own : Own .u8 5 w base A c f.data
  u8 : U8 f.data
  le : f.safe ≤ f.data.length
  lq : base ≤ q

/-- Outside of X, nothing that was there has changed. -/
structure FrX (X : Nat → Prop) (w w' : World) : Prop where
  os : w'.os = w.os
  tape : w'.tape = w.tape
  output : w'.output = w.output
  size : w.heap.size ≤ w'.heap.size
  block : ∀ i, i < w.heap.size → ¬ X i → w'.heap[i]? = w.heap[i]?
theorem FrX.refl (X : Nat → Prop) (w : World) : FrX X w w := ⟨rfl, rfl, rfl, Nat.le_refl _, fun _ _ _ => rfl⟩
theorem Ext.frX {a b : World} (h : Ext a b) (X : Nat → Prop) : FrX X a b := ⟨h.os, h.tape, h.output, h.size, fun i hi _ => h.block i hi⟩
theorem FrX.trans {X : Nat → Prop} {a b c : World} (h : FrX X a b) (k : FrX X b c) : FrX X a c :=
  ⟨k.os.trans h.os, k.tape.trans h.tape, k.output.trans h.output, Nat.le_trans h.size k.size, fun i hi hx => (k.block i (Nat.lt_of_lt_of_le hi h.size) hx).trans (h.block i hi hx)⟩
theorem grownBy_frX {X : Nat → Prop} {g : Nat} {a b : World} (h : a.grownBy b (some g)) (hg : X g ∨ a.heap.size ≤ g) : FrX X a b :=
  ⟨h.os, h.tape, h.output, h.size, fun i hi hx => h.block i hi (fun e => by injection e with e; subst e; rcases hg with q | q; exact hx q; omega)⟩
theorem OwnG.blk {T : Type} {s : Shape T} {e : TypeId} {w w' : World} {base c : Nat} {A : Option Addr} {xs : List T} (h : OwnG s e w base A c xs) (hb : ∀ a, A = some a → w'.heap[a.block]? = w.heap[a.block]?) : OwnG s e w' base A c xs := by
  refine ⟨h.1, ?_⟩
  rcases h.2 with hn | ⟨g, cap, cur, hv, hg, hh, r⟩
  · exact Or.inl hn
  · refine Or.inr ⟨g, cap, cur, hv, hg, ?_, r⟩
    injection hv with hA
    exact (hb _ hA).trans hh

/-- The disk as it lies, with the blocks X. -/
structure DK (w : World) (X : Nat → Prop) (base dp : Nat) (S : DS) (I : DI) : Prop where
  blk : w.heap[dp]? = some (.cells #[.int .i64 S.room, .map (some I.F), .map (some I.Sb), .slice I.Ac I.clos.length I.cc, I.pv, .int .i64 S.steps, .bool S.on] 88 (0, 0))
  xs : X dp ∧ X I.F ∧ X I.Sb
  bd : ∀ b, X b → base ≤ b ∧ b < w.heap.size
  dF : DirR w I.F S.files
  dS : DirR w I.Sb S.safe
  ne : I.F ≠ I.Sb
  row : OwnG shC 92 w base I.Ac I.cc I.clos
  rx : ∀ a, I.Ac = some a → X a.block
  cln : I.clos.length = S.chs.length
  cls : ∀ (j : Nat) (c : Clo) (g : Chg), I.clos[j]? = some c → S.chs[j]? = some g → CloR w c g ∧ ∀ q, c.has q → X q
  fil : ∀ q f, (q, f) ∈ S.fl → FileR w base q f (I.rows q) (I.caps q) ∧ X q ∧ ∀ a, I.rows q = some a → X a.block
  nd : S.fl.Pairwise fun (a b : Nat × FS) => a.1 ≠ b.1
  sep : ∀ q f q' f' a a', (q, f) ∈ S.fl → (q', f') ∈ S.fl → I.rows q = some a → I.rows q' = some a' → q ≠ q' → a.block ≠ a'.block
  idF : ∀ x q, lkp S.files x = some q → x.length ≤ 40 ∧ ∃ f, (q, f) ∈ S.fl
  idS : ∀ x q, lkp S.safe x = some q → x.length ≤ 40 ∧ ∃ f, (q, f) ∈ S.fl
  idC : ∀ x q, Chg.cr x q ∈ S.chs → ∃ f, (q, f) ∈ S.fl
  pl : PlanR w X I.F I.Sb I.pv S.plan
  few : S.files.length ≤ 400

theorem DK.at_ {w : World} {X : Nat → Prop} {base dp : Nat} {S : DS} {I : DI} (h : DK w X base dp S I) : w.cell? ⟨dp, 0, none⟩ = some (.int .i64 S.room) ∧ w.cell? ⟨dp, 1, none⟩ = some (.map (some I.F)) ∧ w.cell? ⟨dp, 2, none⟩ = some (.map (some I.Sb)) ∧ w.cell? ⟨dp, 3, none⟩ = some (.slice I.Ac I.clos.length I.cc) ∧ w.cell? ⟨dp, 4, none⟩ = some I.pv ∧ w.cell? ⟨dp, 5, none⟩ = some (.int .i64 S.steps) ∧ w.cell? ⟨dp, 6, none⟩ = some (.bool S.on) :=
  ⟨cell_of_row w dp 0 _ _ (0, 0) h.blk, cell_of_row w dp 1 _ _ (0, 0) h.blk, cell_of_row w dp 2 _ _ (0, 0) h.blk, cell_of_row w dp 3 _ _ (0, 0) h.blk, cell_of_row w dp 4 _ _ (0, 0) h.blk, cell_of_row w dp 5 _ _ (0, 0) h.blk, cell_of_row w dp 6 _ _ (0, 0) h.blk⟩

/-- Why no file of this name can be made. -/
def refC (S : DS) (x : List UInt8) : Int := if isNm ⟨x.toArray⟩ = false then 145 else if (lkp S.files x).isSome then 144 else if 400 ≤ S.files.length then 142 else 0

section
variable {w : World} {X : Nat → Prop} {base dp : Nat} {S : DS} {I : DI}
theorem power_any (h : DK w X base dp S I) : Calls Try.prog 29 #[.pointer (some ⟨dp, 0, none⟩)] w fun e w' => e = .returned (.bool S.on) ∧ w = w' := by
  obtain ⟨c0, c1, c2, c3, c4, c5, c6⟩ := h.at_
  clear h
  go_enter Try.func29, Try.ntmps29
  go_wp2
  go_ret
  exact ⟨rfl, rfl⟩
theorem steps_any (h : DK w X base dp S I) : Calls Try.prog 31 #[.pointer (some ⟨dp, 0, none⟩)] w fun e w' => e = .returned (.int .i64 S.steps) ∧ w = w' := by
  obtain ⟨c0, c1, c2, c3, c4, c5, c6⟩ := h.at_
  clear h
  go_enter Try.func31, Try.ntmps31
  go_wp2
  go_ret
  exact ⟨rfl, rfl⟩
theorem loose_any (h : DK w X base dp S I) : Calls Try.prog 21 #[.pointer (some ⟨dp, 0, none⟩)] w fun e w' => e = .returned (.int .i64 (S.chs.length : Int)) ∧ w = w' := by
  obtain ⟨c0, c1, c2, c3, c4, c5, c6⟩ := h.at_
  rw [h.cln] at c3
  clear h
  go_enter Try.func21, Try.ntmps21
  go_wp2
  go_ret
  exact ⟨rfl, rfl⟩
theorem off_any (h : DK w X base dp S I) : Calls Try.prog 81 #[.pointer (some ⟨dp, 0, none⟩)] w fun e w' => e = .returned (.tuple #[]) ∧ w' = w.setCell ⟨dp, 6, none⟩ (.bool false) := by
  obtain ⟨c0, c1, c2, c3, c4, c5, c6⟩ := h.at_
  have f6 : w.frozen? ⟨dp, 6, none⟩ = false := by simp [World.frozen?, h.blk]
  clear h
  go_enter Try.func81, Try.ntmps81
  go_wp2
  go_end0
  exact ⟨rfl, rfl⟩

set_option maxHeartbeats 1000000 in
theorem refusal_any (h : DK w X base dp S I) (x : List UInt8) (hx : x.length ≤ 140737488355328) : Calls Try.prog 46 #[.pointer (some ⟨dp, 0, none⟩), nm x] w fun e w' => e = .returned (.int .i64 (refC S x)) ∧ w = w' := by
  obtain ⟨c0, c1, c2, c3, c4, c5, c6⟩ := h.at_
  have hlk := h.dF.look (x := x) (by unfold maxLen; omega)
  have hln := h.dF.run_len
  have CN := Lib.hid (disName_any ⟨x.toArray⟩ w (by simpa [ByteArray.size] using hx))
  obtain ⟨R, hR⟩ : ∃ R, R = refC S x := ⟨_, rfl⟩
  rw [← hR]
  unfold refC at hR
  have hln2 := h.few
  obtain ⟨N, hN⟩ : ∃ N, N = isNm ⟨x.toArray⟩ := ⟨_, rfl⟩
  rw [← hN] at hR CN
  obtain ⟨L, hL⟩ : ∃ L, L = lkp S.files x := ⟨_, rfl⟩
  rw [← hL] at hR hlk
  obtain ⟨k, hk⟩ : ∃ k, k = S.files.length := ⟨_, rfl⟩
  rw [← hk] at hR hln hln2
  clear h hN hL hk
  cases N with
  | false =>
    rw [if_pos rfl] at hR
    subst hR
    go_enter Try.func46, Try.ntmps46
    go_wp2_with fail
    refine CN.out.mono ?_
    rintro e w1 ⟨rfl, rfl⟩
    go_wp2
    go_ret
    exact ⟨rfl, rfl⟩
  | true =>
    rw [if_neg (by decide)] at hR
    cases L with
    | some q =>
      rw [if_pos (by rfl)] at hR
      subst hR
      replace hlk : (Instr.lookup 84 (.map (some I.F)) (nm x) false).run Try.prog w = .ok (.pointer (some ⟨q, 0, none⟩)) w := hlk
      go_enter Try.func46, Try.ntmps46
      go_wp2_with fail
      refine CN.out.mono ?_
      rintro e w1 ⟨rfl, rfl⟩
      go_wp2
      go_ret
      exact ⟨rfl, rfl⟩
    | none =>
      rw [if_neg (by decide)] at hR
      replace hlk : (Instr.lookup 84 (.map (some I.F)) (nm x) false).run Try.prog w = .ok (.pointer none) w := hlk
      by_cases h4 : 400 ≤ k
      · rw [if_pos h4] at hR
        subst hR
        have h5 : (400 : Int) ≤ (k : Int) := by omega
        go_enter Try.func46, Try.ntmps46
        go_wp2_with fail
        refine CN.out.mono ?_
        rintro e w1 ⟨rfl, rfl⟩
        go_wp2
        go_ret
        exact ⟨rfl, rfl⟩
      · rw [if_neg h4] at hR
        subst hR
        have h5 : ¬ (400 : Int) ≤ (k : Int) := by omega
        go_enter Try.func46, Try.ntmps46
        go_wp2_with fail
        refine CN.out.mono ?_
        rintro e w1 ⟨rfl, rfl⟩
        go_wp2
        go_ret
        exact ⟨rfl, rfl⟩
end

end Go.Proofs.Ytjckfbpdnpehcaa
