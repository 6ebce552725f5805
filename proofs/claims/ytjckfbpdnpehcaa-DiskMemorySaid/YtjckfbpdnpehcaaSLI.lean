/-
  Slicing of bytes, whatever the capacity: the pieces' addresses stay behind a name.
-/
import Derived.Test.YtjckfbpdnpehcaaZF
namespace Go.Proofs.Ytjckfbpdnpehcaa
open Go.RowKit

theorem Try.elemU8 : Try.prog.elem 22 = 5 := by kernel_rfl
theorem run_sizeU8 (w : World) : (sizeOf (Try.prog.elem 22)).run Try.prog w = .ok 1 w := by
  obtain ⟨i, hi0, hz, hsz, hbs⟩ := info_parts Try.infoU8
  rw [Try.elemU8]
  simp [sizeOf, typeInfo, hi0, hsz]
theorem Try.underSl : Try.prog.underlying 22 = some (.slice (Try.prog.elem 22)) := by kernel_rfl

/-- The address of what is left behind k bytes of capacity m. -/
def offA (A : Option Addr) (k m : Nat) : Option Addr := if m = k then A else A.map (·.add k)

theorem Rd.offA {w : World} {A : Option Addr} {n k m : Nat} {bs : List Nat} (h : Rd .u8 w A n bs) (hk : k ≤ n) (hm : n ≤ m) : Rd .u8 w (offA A k m) (n - k) (bs.drop k) := by
  refine ⟨by rw [List.length_drop, h.1], fun hn => ?_⟩
  obtain ⟨b, o, rfl, hb, hc⟩ := h.2 (by omega)
  refine ⟨b, o + k, by unfold Go.Proofs.Ytjckfbpdnpehcaa.offA; rw [if_neg (by omega)]; simp [Addr.add], hb, fun j hj => ?_⟩
  have := hc (k + j) (by omega)
  rw [Nat.add_assoc, this]
  simp [List.getD, List.getElem?_drop]

/-- b[k:] -/
theorem run_from (A : Option Addr) (n c k : Nat) (hk : k ≤ n) : ∀ W : World, (Instr.slice 22 (.slice A n c) (some (.int .i64 (k : Int))) none none).run Try.prog W = .ok (.slice (offA A k c) (n - k : Nat) (c - k : Nat)) W := by
  intro W
  rw [run_slice_l W _ A n c Try.underSl .i64 k (by omega) (by omega), run_sizeU8]
  simp only [Result.andThen, sliced, Int.toNat_natCast, Nat.mul_one]
  rfl
/-- b[:k] -/
theorem run_upto (kh : IntKind) (A : Option Addr) (n c k : Nat) (hk : k ≤ c) : ∀ W : World, (Instr.slice 22 (.slice A n c) none (some (.int kh (k : Int))) none).run Try.prog W = .ok (.slice A k c) W := by
  intro W
  rw [run_slice_h W _ A n c Try.underSl kh k (by omega) (by omega), run_sizeU8]
  simp only [Result.andThen, sliced, Int.toNat_natCast, Nat.mul_one, Nat.sub_zero]
  congr 1
  split
  · rfl
  · cases A with
    | none => rfl
    | some a => simp [Addr.add]
/-- b[l:h] -/
theorem run_cut (A : Option Addr) (n c l h : Nat) (hl : l ≤ h) (hh : h ≤ c) : ∀ W : World, (Instr.slice 22 (.slice A n c) (some (.int .i64 (l : Int))) (some (.int .i64 (h : Int))) none).run Try.prog W = .ok (.slice (offA A l c) (h - l : Nat) (c - l : Nat)) W := by
  intro W
  rw [run_slice_lh W _ A n c Try.underSl .i64 .i64 l h (by omega) (by omega) (by omega), run_sizeU8]
  simp only [Result.andThen, sliced, Int.toNat_natCast, Nat.mul_one]
  rfl
theorem Rd.upto {w : World} {A : Option Addr} {n k : Nat} {bs : List Nat} (h : Rd .u8 w A n bs) (hk : k ≤ n) : Rd .u8 w A k (bs.take k) := by
  refine ⟨by rw [List.length_take, h.1]; omega, fun hn => ?_⟩
  obtain ⟨b, o, e, hb, hc⟩ := h.2 (by omega)
  refine ⟨b, o, e, hb, fun j hj => ?_⟩
  rw [hc j (by omega)]
  simp [List.getD, hj]
theorem Rd.cut {w : World} {A : Option Addr} {n l h c : Nat} {bs : List Nat} (hr : Rd .u8 w A n bs) (hl : l ≤ h) (hh : h ≤ n) (hc : n ≤ c) : Rd .u8 w (Go.Proofs.Ytjckfbpdnpehcaa.offA A l c) (h - l) ((bs.drop l).take (h - l)) :=
  (hr.offA (k := l) (m := c) (by omega) hc).upto (by omega)

end Go.Proofs.Ytjckfbpdnpehcaa
