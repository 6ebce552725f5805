/-
  Lists of texts of the call's own.
-/
import Derived.Test.YtjckfbpdnpehcaaP11am
import Derived.Test.YtjckfbpdnpehcaaGR
namespace Go.Proofs.Ytjckfbpdnpehcaa
open Go.RowKit

/-- Slices of bytes as elements. -/
def shS : Shape Sl := ⟨fun s => [s.v], 1, fun _ => rfl, by intro x u hu; simp at hu; subst hu; rfl⟩

abbrev OwnT (w : World) (base : Nat) (A : Option Addr) (c : Nat) (ts : List Sl) : Prop := OwnG shS 22 w base A c ts

theorem RdG.rdL {w : World} {A : Option Addr} {n : Nat} {ts : List Sl} (h : RdG shS w A n ts) : RdL w A n ts :=
  ⟨h.1, fun hn => by
    obtain ⟨b, o, e, hb, hc⟩ := h.2 hn
    refine ⟨b, o, e, hb, fun j s hj => ?_⟩
    have := hc j s hj 0 s.v rfl
    rw [show o + j * shS.sz + 0 = o + j from by show o + j * 1 + 0 = o + j; omega] at this
    exact this⟩
theorem OwnG.rdL {w : World} {base c : Nat} {A : Option Addr} {ts : List Sl} (h : OwnT w base A c ts) : RdL w A ts.length ts := h.rd.rdL

/-- Rows of unlike elements lie in unlike blocks. -/
theorem own_neT {w : World} {base base' c c' : Nat} {A A' : Option Addr} {ts : List Sl} {xs : List Nat} (h : OwnT w base A c ts) (k : Own .u8 5 w base' A' c' xs) : ∀ a, A' = some a → some a.block ≠ (Value.slice A ts.length c).ownBlock := by
  rintro a rfl e
  rcases h.2 with ⟨hv, _⟩ | ⟨g, cap, cur, hv, hg, hh, _⟩
  · rw [hv] at e; simp [Value.ownBlock] at e
  · rw [hv] at e
    simp [Value.ownBlock] at e
    rcases k.2 with ⟨hv', _⟩ | ⟨g', cap', cur', hv', _, hh', _⟩
    · cases hv'
    · injection hv' with hA
      injection hA with hA
      subst hA
      simp at e
      subst e
      rw [hh] at hh'
      injection hh' with hh'
      injection hh' with h1 h2 h3
      exact absurd h2 (by decide)

/-- Texts of the call's own, from block base on, each in a block of its own. -/
structure Txts (w : World) (base : Nat) (ts : List Sl) : Prop where
  own : ∀ s ∈ ts, Own .u8 5 w base s.A s.c s.body
  apart : ts.Pairwise fun s t => ∀ p q, s.A = some p → t.A = some q → p.block < q.block

variable {w w' : World} {base c : Nat} {A : Option Addr} {ts : List Sl}

theorem Txts.nil (w : World) (base : Nat) : Txts w base [] := ⟨fun s hs => (by cases hs), List.Pairwise.nil⟩
theorem Txts.ext (h : Txts w base ts) (he : Ext w w') : Txts w' base ts := ⟨fun s hs => (h.own s hs).ext he, h.apart⟩
theorem Txts.grown (h : Txts w base ts) {base' : Nat} {us : List Sl} (k : OwnT w base' A c us) (hg : w.grownBy w' (Value.slice A us.length c).ownBlock) : Txts w' base ts :=
  ⟨fun s hs => (h.own s hs).grown hg (own_neT k (h.own s hs)), h.apart⟩
theorem Txts.snoc (h : Txts w base ts) {s : Sl} {base' : Nat} (hs : Own .u8 5 w base' s.A s.c s.body) (hb : base ≤ base') (hl : ∀ t ∈ ts, ∀ p, t.A = some p → p.block < base') : Txts w base (ts ++ [s]) := by
  refine ⟨fun t ht => ?_, ?_⟩
  · rcases List.mem_append.1 ht with h1 | h1
    · exact h.own t h1
    · simp at h1; subst h1; exact hs.mono hb
  · rw [List.pairwise_append]
    refine ⟨h.apart, by simp, fun t ht f' hf' p q hp hq => ?_⟩
    simp at hf'
    subst hf'
    exact Nat.lt_of_lt_of_le (hl t ht p hp) (hs.block q hq).1
theorem Txts.lt (h : Txts w base ts) : ∀ t ∈ ts, ∀ p, t.A = some p → p.block < w.heap.size := fun t ht p hp => ((h.own t ht).block p hp).2
theorem Txts.unlike (h : Txts w base ts) : Unlike ts := by
  have hp := List.pairwise_iff_getElem.1 h.apart
  intro i j s t hi hj hne p q hA hB e
  obtain ⟨hi', rfl⟩ := List.getElem?_eq_some_iff.1 hi
  obtain ⟨hj', rfl⟩ := List.getElem?_eq_some_iff.1 hj
  rcases Nat.lt_or_gt_of_ne hne with hl | hl
  · have := hp i j hi' hj' hl p q hA hB; omega
  · have := hp j i hj' hi' hl q p hB hA; omega
theorem Txts.far (h : Txts w base ts) {base' : Nat} {us : List Sl} (k : OwnT w base' A c us) : Far ts A := by
  intro s hs p q hp hq e
  have := own_neT k (h.own s hs) p hp
  subst hq
  simp [Value.ownBlock] at this
  rcases k.2 with ⟨hv, _⟩ | ⟨g, cap, cur, hv, _⟩
  · cases hv
  · injection hv with hA
    injection hA with hA
    subst hA
    exact this e
theorem Txts.own0 (h : Txts w base ts) : ∀ s ∈ ts, Own .u8 5 w 0 s.A s.c s.body := fun s hs => (h.own s hs).zero
theorem Txts.rd (h : Txts w base ts) : ∀ s ∈ ts, Rd .u8 w s.A s.body.length s.body := fun s hs => (h.own s hs).rd

/-- 'append(out, s)'. -/
theorem wpList_pushT {w0 w : World} {ops : Array Oper} {rest : List Oper} {o : Oper} {a : Act} {Q : Exit → Act → World → Prop} (f : Sl) (hgd : o.guard = none) (s y : Operand)
    (ho : o.op = .call { callee := .builtin .append, args := #[s, y], argTypes := #[73, 73] })
    {base : Nat} {A : Option Addr} {c : Nat} {ss : List Sl} (hown : OwnT w base A c ss) (n : Nat) (hn : ss.length = n) (hs : a.eval s = .slice A n c)
    {g : Nat} (hy : a.eval y = .slice (some ⟨g, 0, none⟩) 1 1) (hg : w.heap[g]? = some (.cells #[.slice f.A f.body.length f.c] 22))
    (hlen : n ≤ 6000000000000) (hb : Below base w0 w) (hbase : base ≤ w.heap.size)
    (h : ∀ A' c' w', OwnT w' base A' c' (ss ++ [f]) → w.grownBy w' (Value.slice A n c).ownBlock → Below base w0 w' → base ≤ w'.heap.size → wpList Try.prog ops Q rest (a.put o.dst (.slice A' (n + 1) c')) w') :
    wpList Try.prog ops Q (o :: rest) a w :=
  wpList_pushG shS f 22 hgd s y 73 ho _ 24 Try.underlying73 Try.infoS rfl (by decide) hown n hn hs hy hg (by omega) (by omega) hb hbase h

/-- What leaves a list of texts and an error's number. -/
def TxtsPost (R : List (List Nat) × Int) (w : World) (e : Ending) (w' : World) : Prop :=
  ∃ A' c' ts, e = .returned (.tuple #[.slice A' ts.length c', .int .i64 R.2]) ∧ bodies ts = R.1 ∧ OwnT w' w.heap.size A' c' ts ∧ Txts w' w.heap.size ts ∧ Ext w w'
theorem TxtsPost.bad {w w' : World} (R : List (List Nat) × Int) {E : Int} (h : R = ([], E)) (he : Ext w w') : TxtsPost R w (.returned (.tuple #[.slice none 0 0, .int .i64 E])) w' := by
  subst h
  exact ⟨none, 0, [], rfl, rfl, OwnG.nil .., Txts.nil .., he⟩
theorem TxtsPost.good {w w' : World} (R : List (List Nat) × Int) {ts : List Sl} {A : Option Addr} {m c : Nat} (h : R = (bodies ts, 0)) (hm : ts.length = m) (ho : OwnT w' w.heap.size A c ts) (ht : Txts w' w.heap.size ts) (he : Ext w w') : TxtsPost R w (.returned (.tuple #[.slice A m c, .int .i64 0])) w' := by
  subst h
  subst hm
  exact ⟨A, c, ts, rfl, rfl, ho, ht, he⟩

end Go.Proofs.Ytjckfbpdnpehcaa
