/-
  Constants as bytes; bytes as a string.
-/
import Derived.Test.YtjckfbpdnpehcaaTX
import Derived.Lib.SlBytesConst
import Derived.Laws.BytesArg
namespace Go.Proofs.Ytjckfbpdnpehcaa
open Go.RowKit

/-- '[]byte("..")' of a constant: the row gets its mark. -/
theorem conv_const (W : World) (g : Nat) (C : Array Value) (n c : Nat) (hg : W.heap.size = g) :
    (convert 22 22 (.slice (some ⟨g, 0, none⟩) n c)).run Try.prog (W.alloc (.cells C 5)) = .ok (.slice (some ⟨g, 0, none⟩) n c) (W.alloc (.cells C 5 (C.size, C.size + 1))) := by
  subst hg
  exact Lib.run_convert_bytes_const W 22 5 C n c Try.underlying22 Try.underlying5

theorem Rd.mark_at (k : IntKind) (e : TypeId) (fr : Nat × Nat) (w : World) (xs : List Nat) {b n : Nat} (hb : w.heap.size = b) (hn : xs.length = n) : Rd k (w.alloc (.cells (xs.map fun x : Nat => Value.int k (x : Int)).toArray e fr)) (some ⟨b, 0, none⟩) n xs := by
  subst hb
  subst hn
  refine ⟨rfl, fun hn => ⟨w.heap.size, 0, rfl, by simp, fun j hj => ?_⟩⟩
  rw [cell_of_row _ w.heap.size (0 + j) _ e fr (heap_alloc_new w _)]
  simp [hj]

/-- A row of slices that was written out. -/
theorem RdL.of_block {w : World} {g n : Nat} {ss : List Sl} {e : TypeId} (h : w.heap[g]? = some (.cells (ss.map Sl.v).toArray e)) (hn : ss.length = n) : RdL w (some ⟨g, 0, none⟩) n ss := by
  subst hn
  refine ⟨rfl, fun _ => ⟨g, 0, rfl, (Array.getElem?_eq_some_iff.1 h).1, fun j s hj => ?_⟩⟩
  rw [cell_of_row w g (0 + j) _ e (0, 0) h, Nat.zero_add]
  simp [hj]

theorem heap_at {W : World} {o : Obj} {g : Nat} (h : W.heap.size = g) : (W.alloc o).heap[g]? = some o := by subst h; exact heap_alloc_new W o
theorem TxI.of {w : World} {A : Option Addr} {c : Nat} {xs : List Nat} (h : Rd .u8 w A xs.length xs) (hu : U8 xs) (hc : xs.length ≤ c) (ht : c ≤ 9223372036854775807) (hl : xs.length ≤ 140737488355328) : TxI w ⟨A, c, xs⟩ := ⟨h, hu, hc, ht, hl⟩

/-- Bytes as a string. -/
def sstr (xs : List Nat) : ByteArray := strOfNums (xs.map fun x : Nat => (x : Int))

theorem conv_str {W : World} {A : Option Addr} {n c : Nat} {xs : List Nat} (h : Rd .u8 W A n xs) : (convert 22 9 (.slice A n c)).run Try.prog W = .ok (.string (sstr xs)) W := by
  have hl := h.len
  rcases Nat.eq_zero_or_pos n with h0 | h0
  · subst h0
    obtain rfl : xs = [] := List.eq_nil_of_length_eq_zero hl
    cases A with
    | none => exact run_convert_bytes_nil W 22 5 Try.underlying22 Try.underlying5 0 c _ Try.underlying9
    | some a =>
      have hz : (loadCells a 0).run Try.prog W = .ok (([] : List Int).map (Value.int .u8)).toArray W := by
        have := run_loadCells_list (P := Try.prog) W a [] (fun j v hj => by simp at hj)
        simpa using this
      rw [run_convert_bytes_string W 22 9 5 _ 0 c Try.underlying22 Try.underlying5 Try.underlying9, run_bytesToString W a 0 c [] hz]
      rfl
  · obtain ⟨b, o, rfl, hb, hc⟩ := h.2 h0
    exact run_convert_bytes_arg W 22 5 Try.underlying22 Try.underlying5 b o n c _ (by simpa using hl) (fun i hi => by
      rw [hc i hi]
      have : i < xs.length := by omega
      simp [List.getD, this]) _ Try.underlying9

end Go.Proofs.Ytjckfbpdnpehcaa
