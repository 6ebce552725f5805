/-
  Layer 4: frames handed in, of any kind.
-/
import Derived.Test.YtegplcllimoakaaK4
namespace Go.Proofs.Ytegplcllimoakaa
open Go.RowKit

/-- A frame as it is handed in: any kind; its body's slice; what the body reads as. -/
structure FrI where
  k : Int
  A : Option Addr
  c : Nat
  body : List Nat

instance : Inhabited FrI := ⟨⟨0, none, 0, []⟩⟩

/-- The slice of frames (A, n) reads, in w, as fs. -/
def RdI (w : World) (A : Option Addr) (n : Nat) (fs : List FrI) : Prop :=
  fs.length = n ∧ (0 < n → ∃ b o, A = some ⟨b, o, none⟩ ∧ b < w.heap.size ∧ ∀ j f, fs[j]? = some f →
    w.cell? ⟨b, o + j * 2, none⟩ = some (.int .i64 f.k) ∧ w.cell? ⟨b, o + j * 2 + 1, none⟩ = some (.slice f.A f.body.length f.c) ∧ Rd .u8 w f.A f.body.length f.body)

theorem RdI.ext {w w' : World} {A : Option Addr} {n : Nat} {fs : List FrI} (h : RdI w A n fs) (hb : Ext w w') : RdI w' A n fs :=
  ⟨h.1, fun hn => by
    obtain ⟨b, o, e, hlt, hc⟩ := h.2 hn
    refine ⟨b, o, e, Nat.lt_of_lt_of_le hlt hb.size, fun j f hj => ?_⟩
    obtain ⟨h1, h2, h3⟩ := hc j f hj
    exact ⟨(Below.cell hb (p := ⟨b, o + j * 2, none⟩) hlt).trans h1, (Below.cell hb (p := ⟨b, o + j * 2 + 1, none⟩) hlt).trans h2, h3.ext hb⟩⟩

theorem RdI.at_ {w : World} {A : Option Addr} {n : Nat} {fs : List FrI} (h : RdI w A n fs) {j : Nat} (hj : j < n) :
    ∃ b o f, A = some ⟨b, o, none⟩ ∧ b < w.heap.size ∧ fs[j]? = some f ∧ w.cell? ⟨b, o + j * 2, none⟩ = some (.int .i64 f.k) ∧ w.cell? ⟨b, o + j * 2 + 1, none⟩ = some (.slice f.A f.body.length f.c) ∧ Rd .u8 w f.A f.body.length f.body := by
  obtain ⟨b, o, e, hlt, hc⟩ := h.2 (by omega)
  have hjl : j < fs.length := by rw [h.1]; exact hj
  have hf : fs[j]? = some fs[j] := List.getElem?_eq_getElem hjl
  obtain ⟨h1, h2, h3⟩ := hc j _ hf
  exact ⟨b, o, _, e, hlt, hf, h1, h2, h3⟩

/-- Those of the frames handed in that can be put. -/
def kvI (f : FrI) : Nat × List Nat := (f.k.toNat, f.body)
def okI (f : FrI) : Bool := decide (1 ≤ f.k ∧ f.k ≤ 255 ∧ f.body.length ≤ 65536)
def goodI (fs : List FrI) : List (Nat × List Nat) := (fs.filter okI).map kvI

theorem goodI_snoc_ok {fs : List FrI} {f : FrI} (h : okI f = true) : goodI (fs ++ [f]) = goodI fs ++ [kvI f] := by simp [goodI, List.filter_append, h]
theorem goodI_snoc_no {fs : List FrI} {f : FrI} (h : okI f = false) : goodI (fs ++ [f]) = goodI fs := by simp [goodI, List.filter_append, h]
theorem goodI_good {fs : List FrI} (hu : ∀ f ∈ fs, U8 f.body) : ∀ p ∈ goodI fs, GoodF p := by
  intro p hp
  obtain ⟨f, hf, rfl⟩ := List.mem_map.1 hp
  obtain ⟨h1, h2⟩ := List.mem_filter.1 hf
  have := of_decide_eq_true h2
  exact ⟨by show 1 ≤ f.k.toNat; omega, by show f.k.toNat ≤ 255; omega, this.2.2, hu f h1⟩

theorem goodI_size {fs : List FrI} : (allB (goodI fs)).length ≤ 13 * (fs.map fun f => f.body.length + 2).sum ∧ (goodI fs).length ≤ fs.length := by
  induction fs with
  | nil => simp [goodI, allB]
  | cons f r ih =>
    have e : f :: r = [f] ++ r := rfl
    by_cases h : okI f = true
    · have : goodI (f :: r) = kvI f :: goodI r := by simp [goodI, h]
      rw [this, allB_cons, List.length_append, fr_len, List.map_cons, List.sum_cons, List.length_cons, List.length_cons]
      have : (kvI f).2.length = f.body.length := rfl
      omega
    · have : goodI (f :: r) = goodI r := by simp [goodI, h]
      rw [this, List.map_cons, List.sum_cons, List.length_cons]
      omega

end Go.Proofs.Ytegplcllimoakaa
