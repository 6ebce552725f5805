/-
  Texts as they are handed in.
-/
import Derived.Test.YtjckfbpdnpehcaaZF
namespace Go.Proofs.Ytjckfbpdnpehcaa
open Go.RowKit

/-- A slice that lies in w as it may be handed in. -/
structure TxI (w : World) (s : Sl) : Prop where
  rd : Rd .u8 w s.A s.body.length s.body
  u8 : U8 s.body
  cap : s.body.length ≤ s.c
  top : s.c ≤ 9223372036854775807
  len : s.body.length ≤ 140737488355328

theorem TxI.ext {w w' : World} {s : Sl} (h : TxI w s) (he : Ext w w') : TxI w' s := ⟨h.rd.ext he, h.u8, h.cap, h.top, h.len⟩
theorem RdL.ext {w w' : World} {A : Option Addr} {n : Nat} {ss : List Sl} (h : RdL w A n ss) (he : Ext w w') : RdL w' A n ss := h.kept ((Kept.refl w []).ext he) (fun _ => by intro s hs; cases hs)

/-- The slice of slices (A, n) holds the texts ss. -/
structure TxL (w : World) (A : Option Addr) (n : Nat) (ss : List Sl) : Prop where
  rd : RdL w A n ss
  each : ∀ s ∈ ss, TxI w s

theorem TxL.ext {w w' : World} {A : Option Addr} {n : Nat} {ss : List Sl} (h : TxL w A n ss) (he : Ext w w') : TxL w' A n ss := ⟨h.rd.ext he, fun s hs => (h.each s hs).ext he⟩
theorem TxL.len {w : World} {A : Option Addr} {n : Nat} {ss : List Sl} (h : TxL w A n ss) : ss.length = n := h.rd.1
theorem TxL.at_ {w : World} {A : Option Addr} {n : Nat} {ss : List Sl} (h : TxL w A n ss) {j : Nat} (hj : j < n) :
    ∃ b o s, A = some ⟨b, o, none⟩ ∧ ss[j]? = some s ∧ w.cell? ⟨b, o + j, none⟩ = some (.slice s.A s.body.length s.c) ∧ TxI w s := by
  obtain ⟨b, o, s, e, h1, h2⟩ := h.rd.at_ hj
  exact ⟨b, o, s, e, h1, h2, h.each s (List.mem_of_getElem? h1)⟩

/-- The texts themselves. -/
def bodies (ss : List Sl) : List (List Nat) := ss.map Sl.body
theorem bodies_len (ss : List Sl) : (bodies ss).length = ss.length := List.length_map ..
theorem bodies_at {ss : List Sl} {j : Nat} {s : Sl} (h : ss[j]? = some s) : (bodies ss)[j]? = some s.body := by unfold bodies; rw [List.getElem?_map, h]; rfl
theorem bodies_get {ss : List Sl} {j : Nat} {s : Sl} (h : ss[j]? = some s) : (bodies ss).getD j [] = s.body := by unfold List.getD; rw [bodies_at h]; rfl
theorem bodies_take (ss : List Sl) (j : Nat) : bodies (ss.take j) = (bodies ss).take j := List.map_take ..

end Go.Proofs.Ytjckfbpdnpehcaa
