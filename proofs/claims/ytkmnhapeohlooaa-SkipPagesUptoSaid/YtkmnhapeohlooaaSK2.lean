/-
  Layer 18: a list's memory; the walk along a level.
-/
import Derived.Test.YtkmnhapeohlooaaSK1
import Derived.Test.YtkmnhapeohlooaaSKB
import Derived.Test.YtkmnhapeohlooaaGR
import Derived.Deep.RegionHeld3
import Derived.BigQuiet
namespace Go.Proofs.Ytkmnhapeohlooaa
open Go.RowKit
set_option maxRecDepth 100000

/-- A node: its key's slice, its value, the next ones, its height. -/
structure Nd where
  key : Sl
  v : Int
  nx : Nat → Nat
  h : Nat
def nd0 : Nd := ⟨⟨none, 0, []⟩, 0, fun _ => 0, 0⟩

def twr (f : Nat → Nat) : List Value := (List.range 12).map fun l => Value.int .i64 (f l : Int)
theorem twr_len (f : Nat → Nat) : (twr f).length = 12 := by simp [twr]
theorem twr_at {f : Nat → Nat} {l : Nat} (h : l < 12) : (twr f)[l]? = some (.int .i64 (f l : Int)) := by simp [twr, h]

def shN : Shape Nd := ⟨fun n => n.key.v :: .int .i64 n.v :: twr n.nx, 14, fun n => by simp [twr_len], by
  intro x u hu
  simp only [List.mem_cons] at hu
  rcases hu with rfl | rfl | hu
  · rfl
  · rfl
  · simp only [twr, List.mem_map] at hu
    obtain ⟨l, _, rfl⟩ := hu
    rfl⟩

def nat_ (ns : List Nd) (i : Nat) : Nd := ns.getD i nd0
def kb (ns : List Nd) (i : Nat) : List Nat := (nat_ ns i).key.body
def vl (ns : List Nd) (i : Nat) : Int := (nat_ ns i).v
def hg (ns : List Nd) (i : Nat) : Nat := (nat_ ns i).h
def nxt (ns : List Nd) (i l : Nat) : Nat := (nat_ ns i).nx l
theorem nat_at {ns : List Nd} {i : Nat} (h : i < ns.length) : ns[i]? = some (nat_ ns i) := by
  unfold nat_
  rw [List.getD, List.getElem?_eq_getElem h]
  rfl

/-- A key's slice as it lies in w. -/
structure KeyAt (w : World) (X : Nat → Prop) (s : Sl) : Prop where
  rd : Rd .u8 w s.A s.body.length s.body
  u8 : U8 s.body
  len : s.body.length ≤ 140737488355328
  cap : s.c = s.body.length
  blk : ∀ a, s.A = some a → X a.block
  ty : ∀ a, s.A = some a → ∃ cur fr, w.heap[a.block]? = some (.cells cur 5 fr)

/-- The list at block sb; X: its blocks. -/
structure SL (w : World) (X : Nat → Prop) (base sb : Nat) (ns : List Nd) (hs : List Int) (H : Nat) : Prop where
  ex : ∃ An cn Ah ch, w.heap[sb]? = some (.cells #[.slice An ns.length cn, .slice Ah hs.length ch, .int .i64 (H : Int)] 95 (0, 0)) ∧ OwnG shN 110 w base An cn ns ∧ OwnG shZ 3 w base Ah ch hs ∧ (∀ a, An = some a → X a.block) ∧ (∀ a, Ah = some a → X a.block)
  sbX : X sb
  bd : ∀ b, X b → base ≤ b ∧ b < w.heap.size
  keys : ∀ i, 1 ≤ i → i < ns.length → KeyAt w X (nat_ ns i).key
  sk : Sk ns.length (kb ns) (hg ns) (nxt ns) H
  hok : 0 < hs.length ∧ ∀ x ∈ hs, 1 ≤ x ∧ x ≤ 12

theorem OwnG.blk {T : Type} {s : Shape T} {e : TypeId} {w w' : World} {base c : Nat} {A : Option Addr} {xs : List T} (h : OwnG s e w base A c xs) (hb : ∀ a, A = some a → w'.heap[a.block]? = w.heap[a.block]?) : OwnG s e w' base A c xs := by
  refine ⟨h.1, ?_⟩
  rcases h.2 with hn | ⟨g, cap, cur, hv, hg, hh, r⟩
  · exact Or.inl hn
  · refine Or.inr ⟨g, cap, cur, hv, hg, ?_, r⟩
    injection hv with hA
    exact (hb _ hA).trans hh
theorem Rd.blk {k : IntKind} {w w' : World} {A : Option Addr} {n : Nat} {xs : List Nat} (h : Rd k w A n xs) (hb : ∀ a, A = some a → w'.heap[a.block]? = w.heap[a.block]?) (hs : w.heap.size ≤ w'.heap.size) : Rd k w' A n xs :=
  ⟨h.1, fun hn => by
    obtain ⟨b, o, e, hlt, hc⟩ := h.2 hn
    exact ⟨b, o, e, Nat.lt_of_lt_of_le hlt hs, fun j hj => (World.cell?_of_block (w := w) (a := ⟨b, o + j, none⟩) (show w'.heap[b]? = w.heap[b]? from hb _ e)).trans (hc j hj)⟩⟩
theorem KeyAt.kept {w w' : World} {X : Nat → Prop} {s : Sl} (h : KeyAt w X s) (hb : ∀ b, X b → w'.heap[b]? = w.heap[b]?) (hs : w.heap.size ≤ w'.heap.size) : KeyAt w' X s :=
  ⟨h.rd.blk (fun a ha => hb _ (h.blk a ha)) hs, h.u8, h.len, h.cap, h.blk, fun a ha => by obtain ⟨cur, fr, q⟩ := h.ty a ha; exact ⟨cur, fr, (hb _ (h.blk a ha)).trans q⟩⟩
theorem KeyAt.wide {w : World} {X Y : Nat → Prop} {s : Sl} (h : KeyAt w X s) (hX : ∀ b, X b → Y b) : KeyAt w Y s := ⟨h.rd, h.u8, h.len, h.cap, fun a ha => hX _ (h.blk a ha), h.ty⟩

section
variable {w w' : World} {X : Nat → Prop} {base sb H : Nat} {ns : List Nd} {hs : List Int}
theorem SL.kept (h : SL w X base sb ns hs H) (hb : ∀ b, X b → w'.heap[b]? = w.heap[b]?) (hz : w.heap.size ≤ w'.heap.size) : SL w' X base sb ns hs H := by
  obtain ⟨An, cn, Ah, ch, h1, h2, h3, h4, h5⟩ := h.ex
  exact ⟨⟨An, cn, Ah, ch, (hb sb h.sbX).trans h1, h2.blk (fun a ha => hb _ (h4 a ha)), h3.blk (fun a ha => hb _ (h5 a ha)), h4, h5⟩, h.sbX, fun b hX => ⟨(h.bd b hX).1, Nat.lt_of_lt_of_le (h.bd b hX).2 hz⟩, fun i i1 i2 => (h.keys i i1 i2).kept hb hz, h.sk, h.hok⟩
theorem SL.ext (h : SL w X base sb ns hs H) (he : Ext w w') : SL w' X base sb ns hs H := h.kept (fun b hX => he.block b (h.bd b hX).2) he.size
theorem SL.far (h : SL w X base sb ns hs H) {g : Nat} (hg : w.grownBy w' (some g)) (hX : ¬ X g) : SL w' X base sb ns hs H :=
  h.kept (fun b hb => hg.block b (h.bd b hb).2 (fun e => by injection e with e; subst e; exact hX hb)) hg.size

/-- What a walk needs of a list. -/
structure See (w : World) (sb : Nat) (ns : List Nd) (hs : List Int) (H : Nat) (b cn : Nat) (Ah : Option Addr) (ch : Nat) : Prop where
  c0 : w.cell? ⟨sb, 0, none⟩ = some (.slice (some ⟨b, 0, none⟩) ns.length cn)
  c1 : w.cell? ⟨sb, 1, none⟩ = some (.slice Ah hs.length ch)
  c2 : w.cell? ⟨sb, 2, none⟩ = some (.int .i64 (H : Int))
  key : ∀ i, i < ns.length → w.cell? ⟨b, i * 14, none⟩ = some (nat_ ns i).key.v
  val : ∀ i, i < ns.length → w.cell? ⟨b, i * 14 + 1, none⟩ = some (.int .i64 (vl ns i))
  nx : ∀ i l, i < ns.length → l < 12 → w.cell? ⟨b, i * 14 + 2 + l, none⟩ = some (.int .i64 (nxt ns i l : Int))
  fr : (∀ i, w.frozen? ⟨b, i, none⟩ = false) ∧ ∀ i, w.frozen? ⟨sb, i, none⟩ = false
  cap : ns.length ≤ cn ∧ cn ≤ 9223372036854775807
  hcap : hs.length ≤ ch ∧ ch ≤ 9223372036854775807
  rd : RdG shZ w Ah hs.length hs

theorem SL.see2 (h : SL w X base sb ns hs H) : ∃ b cn Ah ch, See w sb ns hs H b cn Ah ch ∧ w.heap[sb]? = some (.cells #[.slice (some ⟨b, 0, none⟩) ns.length cn, .slice Ah hs.length ch, .int .i64 (H : Int)] 95 (0, 0)) ∧ OwnG shN 110 w base (some ⟨b, 0, none⟩) cn ns ∧ OwnG shZ 3 w base Ah ch hs ∧ X b ∧ (∀ a, Ah = some a → X a.block) ∧ b ≠ sb := by
  obtain ⟨An, cn, Ah, ch, h1, h2, h3, h4, h5⟩ := h.ex
  obtain ⟨b, hb⟩ := h2.head h.sk.pos
  subst hb
  have hat : ∀ i, i < ns.length → ∀ r u, (shN.cells (nat_ ns i))[r]? = some u → w.cell? ⟨b, i * 14 + r, none⟩ = some u := fun i hi r u hu => by
    obtain ⟨b', x, hA, _, _, hx, hc, _⟩ := h2.at_ hi
    injection hA with hA
    injection hA with hA
    subst hA
    rw [nat_at hi] at hx
    injection hx with hx
    subst hx
    exact hc r u hu
  have hbs : b ≠ sb := fun e => by
    subst e
    rcases h2.2 with ⟨hv, _⟩ | ⟨g, cap, cur, hv, _, hh, _⟩
    · cases hv
    · injection hv with hA
      injection hA with hA
      injection hA with hA
      subst hA
      rw [hh] at h1
      injection h1 with h1
      injection h1 with _ h1
      exact absurd h1 (by decide)
  refine ⟨b, cn, Ah, ch, ⟨?_, ?_, ?_, fun i hi => hat i hi 0 _ rfl, fun i hi => hat i hi 1 _ rfl, fun i l hi hl => ?_, ⟨?_, ?_⟩, h2.cap, h3.cap, h3.rd⟩, h1, h2, h3, h4 _ rfl, h5, hbs⟩
  · rw [cell_of_row w sb 0 _ _ (0, 0) h1]; rfl
  · rw [cell_of_row w sb 1 _ _ (0, 0) h1]; rfl
  · rw [cell_of_row w sb 2 _ _ (0, 0) h1]; rfl
  · have := hat i hi (2 + l) (.int .i64 (nxt ns i l : Int)) (by
      show ([(nat_ ns i).key.v, Value.int .i64 (nat_ ns i).v] ++ twr (nat_ ns i).nx)[2 + l]? = _
      rw [List.getElem?_append_right (by simp), show 2 + l - [(nat_ ns i).key.v, Value.int .i64 (nat_ ns i).v].length = l by simp]
      exact twr_at hl)
    rw [← Nat.add_assoc] at this
    exact this
  · obtain ⟨b', x, hA, _, _, hx, hc, hf, _⟩ := h2.at_ h.sk.pos
    injection hA with hA
    injection hA with hA
    subst hA
    exact hf
  · intro i; simp [World.frozen?, h1]
theorem SL.see (h : SL w X base sb ns hs H) : ∃ b cn Ah ch, See w sb ns hs H b cn Ah ch := by
  obtain ⟨b, cn, Ah, ch, hs, _⟩ := h.see2
  exact ⟨b, cn, Ah, ch, hs⟩
end

end Go.Proofs.Ytkmnhapeohlooaa
