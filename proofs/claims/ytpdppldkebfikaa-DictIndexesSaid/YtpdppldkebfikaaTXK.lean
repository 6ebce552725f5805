/-
  Lists of texts beside the document's: what the laws share.
-/
import Derived.Test.YtpdppldkebfikaaTXC
import Derived.Test.YtpdppldkebfikaaCS
namespace Go.Proofs.Ytpdppldkebfikaa
open Go.RowKit

theorem apart3V {w2 w3 w4 w5 : World} {A3 A4 A5 : Option Addr} {c3 c4 c5 n : Nat} {xs : List Nat} (h3 : Own .u8 5 w3 w2.heap.size A3 c3 xs) (e3 : Ext w2 w3) (h4 : Own .u8 5 w4 w3.heap.size A4 c4 xs) (e4 : Ext w3 w4)
    (h5 : Own .u8 5 w5 w4.heap.size A5 c5 xs) (e5 : Ext w4 w5) (hl : xs.length = n) (hu : U8 xs) (hn : n + 70 ≤ 180000000000000) :
    Calls Try.prog 20 #[.slice A3 n c3, .slice A4 n c4, .slice A5 n c5] w5 fun e w' => e = .returned (.bool true) ∧ Ext w2 w' := by
  refine apart_any A3 A4 A5 n c3 c4 c5 w2.heap.size xs w2 w5 ((h3.ext e4).ext e5) hl hu ((h4.ext e5).rd' hl) (h5.rd' hl) ?_ ?_ ((e3.trans e4).trans e5) (Nat.le_refl _) ((e3.trans e4).trans e5).size hn
  · intro a a2 ha ha2
    have := (h3.block a ha).2
    have := (h4.block a2 ha2).1
    omega
  · intro a a3 ha ha3
    have := (h3.block a ha).2
    have := (h5.block a3 ha3).1
    have := e4.size
    omega

variable {w w' w0 : World} {base c n : Nat} {A : Option Addr} {ts ss : List Sl}

/-- Texts of the call's own may be handed in. -/
theorem TxL.of_own (h : OwnT w base A c ts) (ht : Txts w base ts) (hn : ts.length = n) (hu : ∀ t ∈ ts, U8 t.body ∧ t.body.length ≤ 140737488355328) : TxL w A n ts := by
  subst hn
  exact ⟨h.rdL, fun t hm => ⟨ht.rd t hm, (hu t hm).1, (ht.own t hm).cap.1, (ht.own t hm).cap.2, (hu t hm).2⟩⟩
theorem TxL.same (h : TxL w A n ss) : ∀ s ∈ ss, Rd .u8 w s.A s.body.length s.body ∧ s.body.length ≤ 140737488355328 := fun s hs => ⟨(h.each s hs).rd, (h.each s hs).len⟩
theorem TxL.rds (h : TxL w A n ss) : ∀ s ∈ ss, Rd .u8 w s.A s.body.length s.body := fun s hs => (h.each s hs).rd
theorem bodies_all {P : List Nat → Prop} {ss ts : List Sl} (hb : bodies ts = bodies ss) (h : ∀ s ∈ ss, P s.body) : ∀ t ∈ ts, P t.body := by
  intro t ht
  have h1 : t.body ∈ bodies ss := by rw [← hb]; exact List.mem_map.2 ⟨t, ht, rfl⟩
  obtain ⟨s, hs, e⟩ := List.mem_map.1 h1
  rw [← e]
  exact h s hs
theorem TxL.all (h : TxL w A n ss) : ∀ s ∈ ss, U8 s.body ∧ s.body.length ≤ 140737488355328 := fun s hs => ⟨(h.each s hs).u8, (h.each s hs).len⟩
theorem bodies_mem {P : List Nat → Prop} {xss : List (List Nat)} (hb : bodies ts = xss) (h : ∀ x ∈ xss, P x) : ∀ t ∈ ts, P t.body := fun t ht => h _ (by rw [← hb]; exact List.mem_map.2 ⟨t, ht, rfl⟩)

theorem bodies_mem_of (h : TxL w A n ss) : ∀ x ∈ bodies ss, U8 x := by
  intro x hx
  obtain ⟨s, hs, rfl⟩ := List.mem_map.1 hx
  exact (h.each s hs).u8

/-- Where only rows above w0 have turned, w0 is there as it was. -/
theorem Kept.ext0 (h : Kept w w' ss) (he : Ext w0 w) (hs : ∀ s ∈ ss, ∀ p, s.A = some p → w0.heap.size ≤ p.block) : Ext w0 w' :=
  ⟨h.os.trans he.os, h.tape.trans he.tape, h.output.trans he.output, Nat.le_trans he.size h.size, fun i hi => (h.block i (Nat.lt_of_lt_of_le hi he.size) (fun s hm p hp e => by have := hs s hm p hp; omega)).trans (he.block i hi)⟩
theorem Txts.above (h : Txts w base ts) : ∀ t ∈ ts, ∀ p, t.A = some p → base ≤ p.block := fun t ht p hp => ((h.own t ht).block p hp).1
/-- What lies below a call's own texts lies apart from them. -/
theorem far_below {B : Option Addr} (h : ∀ t ∈ ts, ∀ p, t.A = some p → base ≤ p.block) (hB : ∀ q, B = some q → q.block < base) : Far ts B := by
  intro t ht p q hp hq e
  have := h t ht p hp
  have := hB q hq
  omega
theorem far_above {B : Option Addr} (h : ∀ t ∈ ts, ∀ p, t.A = some p → p.block < base) (hB : ∀ q, B = some q → base ≤ q.block) : Far ts B := by
  intro t ht p q hp hq e
  have := h t ht p hp
  have := hB q hq
  omega

/-- Two lists of texts, each the call's own, the second laid behind the first: as wanted, and apart from one another. -/
theorem apartAll2 {w1 w2 w3 : World} {A A' : Option Addr} {c c' n : Nat} {ss ts : List Sl} (h1 : OwnT w2 w1.heap.size A c ss) (k1 : Txts w2 w1.heap.size ss) (_e1 : Ext w1 w2) (h2 : OwnT w3 w2.heap.size A' c' ts) (k2 : Txts w3 w2.heap.size ts) (e2 : Ext w2 w3)
    {w4 : World} (e4 : Ext w3 w4)
    (hb : bodies ss = bodies ts) (hn : ss.length = n) (hn2 : n ≤ 1048576) (hu : ∀ s ∈ ss, U8 s.body ∧ s.body.length ≤ 1048576) :
    Calls Try.prog 17 #[.slice A n c, .slice A' n c'] w4 fun e w' => e = .returned (.bool true) ∧ Kept w4 w' ss := by
  have hl : ts.length = n := by rw [← hn, ← bodies_len, ← bodies_len, hb]
  have r1 := h1.rdL
  have r2 := h2.rdL
  rw [hn] at r1
  rw [hl] at r2
  refine apartAll_any A A' n c c' ss ts w4 ((r1.ext e2).ext e4) (r2.ext e4) hb hn2 (fun s hs => ((k1.ext e2).ext e4).own0 s hs) (fun s hs => (hu s hs).1) (fun s hs => (hu s hs).2) (fun t ht => (k2.ext e4).rd t ht) k1.unlike ?_ ?_ ?_
  · intro _
    exact k1.far h1
  · intro _
    exact far_above (base := w2.heap.size) (fun t ht p hp => k1.lt t ht p hp) (fun q hq => (h2.block q hq).1)
  · intro t ht _
    exact far_above (base := w2.heap.size) (fun t ht p hp => k1.lt t ht p hp) (fun q hq => ((k2.own t ht).block q hq).1)

end Go.Proofs.Ytpdppldkebfikaa
