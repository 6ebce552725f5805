/-
  Layer 13: the program's Add.
-/
import Derived.Test.YtgmjpilinhmjoaaQ4
namespace Go.Proofs.Ytgmjpilinhmjoaa
open Go.RowKit
set_option maxRecDepth 100000

def setB (bs : List Nat) (k : Nat) : List Nat := bs.set (k / 8) (bs.getD (k / 8) 0 ||| 2 ^ (k % 8))
theorem setB_len (bs : List Nat) (k : Nat) : (setB bs k).length = bs.length := List.length_set
theorem setB_u8 {bs : List Nat} (h : U8 bs) (k : Nat) : U8 (setB bs k) := by
  intro x hx
  rcases List.mem_or_eq_of_mem_set hx with h1 | rfl
  · exact h x h1
  · exact Nat.or_lt_two_pow (n := 8) (h.at_ _) (Nat.lt_of_lt_of_le (Nat.pow_lt_pow_right (by decide) (Nat.mod_lt _ (by decide))) (by decide))
def addK (fs : List Nat) (h m : Nat) (is : List Nat) : List Nat := is.foldl (fun b i => setB b (kk h m i)) fs
theorem addK_snoc (fs : List Nat) (h m : Nat) (is : List Nat) (i : Nat) : addK fs h m (is ++ [i]) = setB (addK fs h m is) (kk h m i) := by
  unfold addK; rw [List.foldl_append, List.foldl_cons, List.foldl_nil]
theorem addK_len (h m : Nat) : ∀ (is fs : List Nat), (addK fs h m is).length = fs.length := by
  intro is
  induction is with
  | nil => intro fs; rfl
  | cons i is ih => intro fs; exact (ih (setB fs (kk h m i))).trans (setB_len _ _)
theorem addK_u8 (h m : Nat) : ∀ (is : List Nat) {fs : List Nat}, U8 fs → U8 (addK fs h m is) := by
  intro is
  induction is with
  | nil => intro fs hf; exact hf
  | cons i is ih => intro fs hf; exact ih (setB_u8 hf _)
def addF (fs key : List Nat) : List Nat := addK fs (fnv key) (8 * fs.length) (List.range 6)
theorem addF_len (fs key : List Nat) : (addF fs key).length = fs.length := addK_len _ _ _ _
theorem addF_u8 {fs : List Nat} (h : U8 fs) (key : List Nat) : U8 (addF fs key) := addK_u8 _ _ _ h
def addAll (fs : List Nat) (keys : List (List Nat)) : List Nat := keys.foldl addF fs
theorem addAll_snoc (fs : List Nat) (keys : List (List Nat)) (k : List Nat) : addAll fs (keys ++ [k]) = addF (addAll fs keys) k := by
  unfold addAll; rw [List.foldl_append, List.foldl_cons, List.foldl_nil]
theorem addAll_len : ∀ (keys : List (List Nat)) (fs : List Nat), (addAll fs keys).length = fs.length := by
  intro keys
  induction keys with
  | nil => intro fs; rfl
  | cons k ks ih => intro fs; exact (ih (addF fs k)).trans (addF_len _ _)
theorem addAll_u8 : ∀ (keys : List (List Nat)) {fs : List Nat}, U8 fs → U8 (addAll fs keys) := by
  intro keys
  induction keys with
  | nil => intro fs hf; exact hf
  | cons k ks ih => intro fs hf; exact ih (addF_u8 hf _)

theorem gb_trans {a b c : World} {r : Option Nat} (h : a.grownBy b r) (k : b.grownBy c r) : a.grownBy c r :=
  ⟨k.os.trans h.os, k.tape.trans h.tape, k.output.trans h.output, Nat.le_trans h.size k.size, fun i hi hne => (k.block i (Nat.lt_of_lt_of_le hi h.size) hne).trans (h.block i hi hne)⟩
theorem gb_ext {a b : World} (r : Option Nat) (h : Ext a b) : a.grownBy b r := ⟨h.os, h.tape, h.output, h.size, fun i hi _ => h.block i hi⟩
theorem gb_refl (a : World) (r : Option Nat) : a.grownBy a r := gb_ext r (Ext.refl a)
/-- Behind a turn of blocks that are new or r. -/
theorem gb_new {a b c : World} {r : Nat} {row : Option Nat} (h : a.grownBy b (some r)) (k : b.grownBy c row) (hr : ∀ x, row = some x → a.heap.size ≤ x) : a.grownBy c (some r) :=
  ⟨k.os.trans h.os, k.tape.trans h.tape, k.output.trans h.output, Nat.le_trans h.size k.size, fun i hi hne => (k.block i (Nat.lt_of_lt_of_le hi h.size) (fun e => by have := hr i e.symm; omega)).trans (h.block i hi hne)⟩

/-- A store into the filter's row. -/
theorem Fil.set {w : World} {base g r : Nat} {bs : List Nat} (h : Fil w base g r bs) {j : Nat} (hj : j < bs.length) (y : Nat) (hy : y < 256) :
    w.frozen? ⟨r, j, none⟩ = false ∧ Fil (w.setCell ⟨r, j, none⟩ (.int .u8 (y : Int))) base g r (bs.set j y) ∧ w.grownBy (w.setCell ⟨r, j, none⟩ (.int .u8 (y : Int))) (some r) := by
  obtain ⟨c, ho, hg⟩ := h.own
  obtain ⟨b, e, hb1, hb2, hcell, hfr, hset⟩ := ho.at_ hj
  injection e with e
  injection e with e1 e2
  subst e1
  obtain ⟨ho2, hg2⟩ := hset y
  refine ⟨hfr, ⟨⟨c, ho2, ?_⟩, h.ne, h.big, ?_, ?_, ?_⟩, hg2⟩
  · rw [List.length_set]
    exact (hg2.block g h.glt (fun e => h.ne (by cases e; rfl))).trans hg
  · intro x hx
    rcases List.mem_or_eq_of_mem_set hx with h1 | rfl
    · exact h.u8 x h1
    · exact hy
  · rw [List.length_set]; exact h.lo
  · rw [List.length_set]; exact h.hi

def mk (D : Nat) : Deferred := { target := .collected D, args := #[] }
/-- A function's end where only marks are left. -/
theorem leaves_marks {F : Fence} {n : Nat} {P : Program} {fn : Func} {tmps : Array Value} {R : Ending → World → Prop} (Z : World → Prop) : ∀ (ds : List Nat), ds.Nodup →
    (∀ w D, Z w → D ∈ ds → w.heap[D]? = some (.deferred (some [])) → Z (w.putObj D (.deferred none))) → (∀ w, Z w → LeavesIn F n P fn tmps R [] .returning w) →
    ∀ w, Z w → (∀ D ∈ ds, w.heap[D]? = some (.deferred (some []))) → LeavesInM F n P fn tmps R (ds.map mk) .returning w := by
  intro ds
  induction ds with
  | nil => intro _ _ hend w hz _; exact hend w hz
  | cons D ds ih =>
    intro hnd hZ hend w hz hm
    have hD := hm D List.mem_cons_self
    refine ⟨by simp, .inl ⟨_, _, rfl, run_takeDeferred hD, ?_⟩⟩
    refine ih (List.nodup_cons.1 hnd).2 (fun w' D' h1 h2 h3 => hZ w' D' h1 (List.mem_cons_of_mem _ h2) h3) hend _ (hZ w D hz List.mem_cons_self hD) (fun D' hD' => ?_)
    rw [World.putObj_heap_other (fun e => (List.nodup_cons.1 hnd).1 (by rw [← e]; exact hD'))]
    exact hm D' (List.mem_cons_of_mem _ hD')

end Go.Proofs.Ytgmjpilinhmjoaa
