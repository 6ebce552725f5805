/-
  The library's bytes.Compare, bytes.Equal, slices.Clip at this program.
-/
import Derived.Test.YtkmnhapeohlooaaOT
import Derived.Test.YtkmnhapeohlooaaCLm
import Derived.Test.YtkmnhapeohlooaaM8m
import Derived.Test.YtkmnhapeohlooaaZF
import Derived.Lib.SlBytesConst
import Derived.Laws.BytesArg
import Derived.Lib.SlicesS
namespace Go.Proofs.Ytkmnhapeohlooaa
open Go.RowKit
set_option maxRecDepth 100000

set_option maxRecDepth 100000 in
theorem compareT_any (A A2 : Option Addr) (n c n2 c2 : Nat) (xs ys : List Nat) (w : World) (hx : Rd .u8 w A n xs) (hy : Rd .u8 w A2 n2 ys) (hu : U8 xs) (hu2 : U8 ys) :
    Calls Try.prog 74 #[.slice A n c, .slice A2 n2 c2] w fun e w' => e = .returned (.int .i64 (ordT xs ys)) ∧ w = w' := by
  have Hx := Lib.hid hx
  have Hy := Lib.hid hy
  go_enter Try.func74, Try.ntmps74
  go_wp2
  rw [run_callFunc_extern Try.func88 (by kernel_rfl) (by kernel_rfl) (by kernel_rfl) (e := Extern.BytealgCompare.compare) (by kernel_rfl), run_compare Hx.out Hy.out hu hu2]
  simp only [Result.andThen]
  rw [Oper.upon_value]
  go_wp2
  go_ret
  exact ⟨rfl, rfl⟩

/-- Bytes as a string. -/
def sstr (xs : List Nat) : ByteArray := strOfNums (xs.map fun x : Nat => (x : Int))

theorem conv_str {W : World} {A : Option Addr} {n c : Nat} {xs : List Nat} (h : Rd .u8 W A n xs) : (convert 52 9 (.slice A n c)).run Try.prog W = .ok (.string (sstr xs)) W := by
  have hl := h.len
  rcases Nat.eq_zero_or_pos n with h0 | h0
  · subst h0
    obtain rfl : xs = [] := List.eq_nil_of_length_eq_zero hl
    cases A with
    | none => exact run_convert_bytes_nil W 52 5 Try.underlying52 Try.underlying5 0 c _ Try.underlying9
    | some a =>
      have hz : (loadCells a 0).run Try.prog W = .ok (([] : List Int).map (Value.int .u8)).toArray W := by
        have := run_loadCells_list (P := Try.prog) W a [] (fun j v hj => by simp at hj)
        simpa using this
      rw [run_convert_bytes_string W 52 9 5 _ 0 c Try.underlying52 Try.underlying5 Try.underlying9, run_bytesToString W a 0 c [] hz]
      rfl
  · obtain ⟨b, o, rfl, hb, hc⟩ := h.2 h0
    exact run_convert_bytes_arg W 52 5 Try.underlying52 Try.underlying5 b o n c _ (by simpa using hl) (fun i hi => by
      rw [hc i hi]
      have : i < xs.length := by omega
      simp [List.getD, this]) _ Try.underlying9

/-- The library's bytes as numbers. -/
def n8s (xs : List UInt8) : List Nat := xs.map UInt8.toNat
theorem n8s_u8s : ∀ {xs : List Nat}, U8 xs → n8s (u8s xs) = xs
  | [], _ => rfl
  | x :: r, h => by
    rw [u8s_cons]
    show (UInt8.ofNat x).toNat :: n8s (u8s r) = _
    rw [n8s_u8s (fun y hy => h y (List.mem_cons_of_mem _ hy)), UInt8.toNat_ofNat_of_lt' (h x (by simp))]
theorem sstr_toList (xs : List Nat) : (sstr xs).data.toList = u8s xs := rfl
theorem u8s_inj {xs ys : List Nat} (hx : U8 xs) (hy : U8 ys) (h : u8s xs = u8s ys) : xs = ys := by
  rw [← n8s_u8s hx, ← n8s_u8s hy, h]
theorem sstr_beq {xs ys : List Nat} (hx : U8 xs) (hy : U8 ys) : ((sstr xs).toList == (sstr ys).toList) = decide (xs = ys) := by
  by_cases h : xs = ys
  · subst h
    rw [decide_eq_true rfl]
    exact (Lib.bytes_beq_iff _ _).2 rfl
  · rw [decide_eq_false h, Bool.eq_false_iff]
    intro q
    have q2 := (Lib.bytes_beq_iff _ _).1 q
    refine h (u8s_inj hx hy ?_)
    rw [← sstr_toList, ← sstr_toList, q2]

theorem bequal_any (A : Option Addr) (n c : Nat) (xs : List Nat) (A2 : Option Addr) (n2 c2 : Nat) (ys : List Nat) (w : World) (hx : Rd .u8 w A n xs) (hy : Rd .u8 w A2 n2 ys) (hu : U8 xs) (hv : U8 ys) :
    Calls Try.prog 90 #[.slice A n c, .slice A2 n2 c2] w fun e w' => e = .returned (.bool (decide (xs = ys))) ∧ w = w' := by
  have c1 := conv_str (c := c) hx
  have c2 := conv_str (c := c2) hy
  have HB := Lib.hid (sstr_beq hu hv)
  clear hx hy hu hv
  go_enter Try.func90, Try.ntmps90
  go_wp2_with fail
  go_ret
  exact ⟨by first | rfl | (rw [HB.out]; rfl), rfl⟩


theorem clip_any (A : Option Addr) (n c : Nat) (w : World) (hc : n ≤ c) :
    Calls Try.prog 91 #[.slice A n c] w fun e w' => e = .returned (.slice A n n) ∧ w = w' := by
  go_enter Try.func91, Try.ntmps91
  go_wp2_with fail
  go_ret
  exact ⟨rfl, rfl⟩

end Go.Proofs.Ytkmnhapeohlooaa
