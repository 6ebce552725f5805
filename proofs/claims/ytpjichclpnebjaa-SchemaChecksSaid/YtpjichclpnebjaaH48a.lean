/-
  What stays as it was beside blocks that are written.
-/
import Derived.Test.YtpjichclpnebjaaZ4
import Derived.Test.YtpjichclpnebjaaZ6
import Derived.Test.YtpjichclpnebjaaZ8
import Derived.Test.YtpjichclpnebjaaZ12
namespace Go.Proofs.Ytpjichclpnebjaa
open Go.RowKit

theorem keyS_val {keys : Int} {cs : List Col} {xs ys : List Ci} (h : xs.map Ci.val = ys.map Ci.val) : keyS keys cs xs = keyS keys cs ys := by
  have hl : xs.length = ys.length := by have := congrArg List.length h; simpa using this
  unfold keyS rowE
  rw [hl, rowF_val, rowF_val, h]
theorem opS_val {keys : Int} {cs : List Col} {k : Int} {xs ys : List Ci} {ts us : List Si} (h : xs.map Ci.val = ys.map Ci.val) (h2 : ts.map Si.val = us.map Si.val) : opS keys cs k xs ts = opS keys cs k ys us := by
  have hl : xs.length = ys.length := by have := congrArg List.length h; simpa using this
  have hl2 : ts.length = us.length := by have := congrArg List.length h2; simpa using this
  have e1 : opV keys cs k xs = opV keys cs k ys := by
    unfold opV rowE
    rw [hl, rowF_val, rowF_val, rowF_val, rowF_val, h]
  have e2 : setsE keys cs ts = setsE keys cs us := by
    unfold setsE
    rw [hl2, setF_val, setF_val, h2]
  unfold opS
  rw [e1, e2, hl2]

theorem Ext.frozens {a b : World} (h : Ext a b) : ∀ g o, g < a.heap.size → b.frozen? ⟨g, o, none⟩ = a.frozen? ⟨g, o, none⟩ := fun g o hg => by
  unfold World.frozen?
  rw [h.block g hg]

/-- What holds of a world and stays so when it is added to, and when a block outside lo .. hi is written. -/
def Sit (lo hi : Nat) (w : World) (P : World → Prop) : Prop :=
  P w ∧ (∀ a b, P a → Ext a b → P b) ∧ ∀ a b g, P a → a.grownBy b (some g) → (g < lo ∨ hi ≤ g) → P b
theorem Sit.ext {lo hi : Nat} {w w' : World} {P : World → Prop} (h : Sit lo hi w P) (he : Ext w w') : Sit lo hi w' P := ⟨h.2.1 _ _ h.1 he, h.2⟩
theorem Sit.cell {lo hi : Nat} {w : World} {P : World → Prop} (h : Sit lo hi w P) {g : Nat} (hg : g < lo ∨ hi ≤ g) (o : Nat) (v : Value) : Sit lo hi (w.setCell ⟨g, o, none⟩ v) P := ⟨h.2.2 _ _ g h.1 (grown_setCell _ _ _ _) hg, h.2⟩
theorem Sit.alloc {lo hi : Nat} {w : World} {P : World → Prop} (h : Sit lo hi w P) (o : Obj) : Sit lo hi (w.alloc o) P := h.ext ((Ext.refl w).alloc o)
theorem Sit.drew {lo hi : Nat} {w : World} {P : World → Prop} (h : Sit lo hi w P) : Sit lo hi w.drew P := h.ext (Ext.refl w).drew
theorem Sit.drewN {lo hi : Nat} {w : World} {P : World → Prop} (h : Sit lo hi w P) (n : Nat) : Sit lo hi (w.drewN n) P := h.ext ((Ext.refl w).drewN n)

theorem sitC {w : World} {lo c : Nat} {A : Option Addr} {cs : List Col} (h : OwnC w lo A c cs) : Sit lo w.heap.size w (fun W => OwnC W lo A c cs) := by
  refine ⟨h, fun a b ha he => ha.ext he, fun a b g ha hg ho => ?_⟩
  refine World.ownsRow.kept ha hg ?_
  cases A with
  | none => exact Or.inl rfl
  | some x =>
    refine Or.inr (fun e => ?_)
    have h1 := World.ownsRow.lt h x.block rfl
    simp [Value.ownBlock] at e
    omega
theorem sitX {w : World} {lo c : Nat} {A : Option Addr} {xs : List Ci} (h : OwnX w lo A c xs) : Sit lo w.heap.size w (fun W => OwnX W lo A c xs) := by
  refine ⟨h, fun a b ha he => ha.ext he, fun a b g ha hg ho => ?_⟩
  refine World.ownsRow.kept ha hg ?_
  cases A with
  | none => exact Or.inl rfl
  | some x =>
    refine Or.inr (fun e => ?_)
    have h1 := World.ownsRow.lt h x.block rfl
    simp [Value.ownBlock] at e
    omega
theorem sitT {w : World} {lo c : Nat} {A : Option Addr} {xs : List Si} (h : OwnT w lo A c xs) : Sit lo w.heap.size w (fun W => OwnT W lo A c xs) := by
  refine ⟨h, fun a b ha he => ha.ext he, fun a b g ha hg ho => ?_⟩
  refine World.ownsRow.kept ha hg ?_
  cases A with
  | none => exact Or.inl rfl
  | some x =>
    refine Or.inr (fun e => ?_)
    have h1 := World.ownsRow.lt h x.block rfl
    simp [Value.ownBlock] at e
    omega
theorem sitTxtX {w : World} {lo : Nat} {xs : List Ci} (h : TxtX w lo xs) : Sit lo w.heap.size w (fun W => TxtX W lo xs) := by
  refine ⟨h, fun a b ha he => ha.ext he, fun a b g ha hg ho => ⟨fun f hf => (ha.1 f hf).grown hg fun x hx e => ?_, ha.2⟩⟩
  injection e with e
  have h1 := (h.1 f hf).block x hx
  omega
theorem sitTxtT {w : World} {lo : Nat} {xs : List Si} (h : TxtT w lo xs) : Sit lo w.heap.size w (fun W => TxtT W lo xs) := by
  refine ⟨h, fun a b ha he => ha.ext he, fun a b g ha hg ho => ⟨fun f hf => (ha.1 f hf).grown hg fun x hx e => ?_, ha.2⟩⟩
  injection e with e
  have h1 := (h.1 f hf).block x hx
  omega
theorem Sit.and {lo hi : Nat} {w : World} {P Q : World → Prop} (h : Sit lo hi w P) (k : Sit lo hi w Q) : Sit lo hi w (fun W => P W ∧ Q W) :=
  ⟨⟨h.1, k.1⟩, fun a b ha he => ⟨h.2.1 a b ha.1 he, k.2.1 a b ha.2 he⟩, fun a b g ha hg ho => ⟨h.2.2 a b g ha.1 hg ho, k.2.2 a b g ha.2 hg ho⟩⟩

theorem OwnC.capC {w : World} {base c : Nat} {A : Option Addr} {xs : List Col} (h : OwnC w base A c xs) : xs.length ≤ c ∧ c ≤ 9223372036854775807 := by
  rcases h.2 with ⟨e, h0⟩ | ⟨g, cap, cur, hv, _, _, hnc, hcm, _⟩
  · simp only [Value.slice.injEq] at e
    omega
  · simp only [Value.slice.injEq] at hv
    have : cap ≤ 9223372036854775807 := by simpa [maxLen] using hcm
    omega
theorem OwnC.schIn {w w0 : World} {base c c0 n : Nat} {A A0 : Option Addr} {xs : List Col} (h : OwnC w base A c xs) (k : SchIn w0 A0 n c0 xs) : SchIn w A n c xs := by
  have e : xs.length = n := k.rd.1
  have r := h.rdC
  have q := h.capC
  rw [e] at r q
  exact ⟨r, k.nm, k.le, q.1, q.2⟩

theorem keptZ {W w' : World} {g : Nat} {o : Obj} (he : Ext W w') (h : W.heap[g]? = some o) : w'.heap[g]? = some o := (he.block g (Array.getElem?_eq_some_iff.1 h).1).trans h
theorem heap_alloc_first (w : World) (a b : Obj) : ((w.alloc a).alloc b).heap[w.heap.size]? = some a :=
  keptZ ((Ext.refl (w.alloc a)).alloc b) (heap_alloc_new w a)
/-- A box of a schema, as made. -/
def Z24 : Obj := .cells #[.slice none 0 0, .int .i64 0] 24
/-- A box of an op, as made. -/
def Z28 : Obj := .cells #[.int .i64 0, .slice none 0 0, .slice none 0 0] 28
theorem z24 {w : World} {g : Nat} (h : w.heap[g]? = some Z24) : w.cell? ⟨g, 0, none⟩ = some (.slice none 0 0) ∧ w.cell? ⟨g, 1, none⟩ = some (.int .i64 0) ∧ w.frozen? ⟨g, 0, none⟩ = false ∧ w.frozen? ⟨g, 1, none⟩ = false ∧ g < w.heap.size :=
  ⟨cell_of_row _ _ 0 _ _ (0, 0) h, cell_of_row _ _ 1 _ _ (0, 0) h, frozen_of_row _ _ 0 _ _ h, frozen_of_row _ _ 1 _ _ h, (Array.getElem?_eq_some_iff.1 h).1⟩
theorem z28 {w : World} {g : Nat} (h : w.heap[g]? = some Z28) : w.cell? ⟨g, 0, none⟩ = some (.int .i64 0) ∧ w.cell? ⟨g, 1, none⟩ = some (.slice none 0 0) ∧ w.cell? ⟨g, 2, none⟩ = some (.slice none 0 0) ∧ w.frozen? ⟨g, 0, none⟩ = false ∧ w.frozen? ⟨g, 1, none⟩ = false ∧ w.frozen? ⟨g, 2, none⟩ = false ∧ g < w.heap.size :=
  ⟨cell_of_row _ _ 0 _ _ (0, 0) h, cell_of_row _ _ 1 _ _ (0, 0) h, cell_of_row _ _ 2 _ _ (0, 0) h, frozen_of_row _ _ 0 _ _ h, frozen_of_row _ _ 1 _ _ h, frozen_of_row _ _ 2 _ _ h, (Array.getElem?_eq_some_iff.1 h).1⟩

theorem Sit.schIn {lo hi base c c0 n : Nat} {w w0 w1 : World} {A A0 : Option Addr} {xs : List Col} (h : Sit lo hi w1 (fun W => OwnC W base A c xs)) (k : SchIn w0 A0 n c0 xs) (m : Sit lo hi w1 (fun W => OwnC W base A c xs) → Sit lo hi w (fun W => OwnC W base A c xs)) : SchIn w A n c xs := OwnC.schIn (m h).1 k
theorem Sit.rdX {lo hi base c n : Nat} {w w0 w1 : World} {A A0 : Option Addr} {xs fs : List Ci} (h : Sit lo hi w1 (fun W => OwnX W base A c fs ∧ TxtX W base fs)) (hv : fs.map Ci.val = xs.map Ci.val) (k : RdX w0 A0 n xs) (m : Sit lo hi w1 (fun W => OwnX W base A c fs ∧ TxtX W base fs) → Sit lo hi w (fun W => OwnX W base A c fs ∧ TxtX W base fs)) : RdX w A n fs :=
  res_rd hv (rd_cap k) (vals_full k) (m h).1.1 (m h).1.2.1
theorem Sit.rdT {lo hi base c n : Nat} {w w0 w1 : World} {A A0 : Option Addr} {xs fs : List Si} (h : Sit lo hi w1 (fun W => OwnT W base A c fs ∧ TxtT W base fs)) (hv : fs.map Si.val = xs.map Si.val) (k : RdT w0 A0 n xs) (m : Sit lo hi w1 (fun W => OwnT W base A c fs ∧ TxtT W base fs) → Sit lo hi w (fun W => OwnT W base A c fs ∧ TxtT W base fs)) : RdT w A n fs :=
  res_rdT hv (rdT_cap k) (tvals_full k) (m h).1.1 (m h).1.2.1

/-- Both twins lie in the two boxes. -/
def TwinR (w1 wx : World) (n : Nat) (keys : Int) (cs : List Col) (k : Int) (n2 : Nat) (xs : List Ci) (n3 : Nat) (ts : List Si) (s5 s6 : Value) : Prop :=
  ∃ (p q : Nat) (B1 : Option Addr) (d1 : Nat) (fs : List Ci) (B2 : Option Addr) (d2 : Nat) (gs : List Si) (B3 : Option Addr) (d3 : Nat),
    s5 = .pointer (some ⟨p, 0, none⟩) ∧ s6 = .pointer (some ⟨q, 0, none⟩) ∧ Ext w1 wx ∧ AtS wx p B1 n d1 keys ∧ AtO wx q k B2 n2 d2 B3 n3 d3 ∧ SchIn wx B1 n d1 cs ∧ RdX wx B2 n2 fs ∧ RdT wx B3 n3 gs ∧ fs.map Ci.val = xs.map Ci.val ∧ gs.map Si.val = ts.map Si.val

end Go.Proofs.Ytpjichclpnebjaa
