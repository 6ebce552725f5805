/-
  The program's layer 4: frames one behind the other.
-/
import Derived.Test.YtegplcllimoakaaG3
namespace Go.Proofs.Ytegplcllimoakaa
open Go.RowKit

theorem Try.infoFrame : (Try.prog.info? 45).map (fun i => (i.zero, i.size, i.bytes)) = some (some (.agg #[.int .i64 0, .slice none 0 0]), 2, 32) := by kernel_rfl

/-- Frames from place a on, at most f of them: kind and body each; where they end; what stands there. -/
def scn (bs : List Nat) : Nat → Nat → List (Nat × List Nat) × Nat × Int
  | 0, a => ([], a, 0)
  | f + 1, a =>
    if a < bs.length then
      if (fgetN bs a).2.2.2 = 0 then (((fgetN bs a).1, (fgetN bs a).2.1) :: (scn bs f (fgetN bs a).2.2.1).1, (scn bs f (fgetN bs a).2.2.1).2) else ([], a, (fgetN bs a).2.2.2)
    else ([], a, 0)
/-- What Scan answers. -/
def fscan (bs : List Nat) : List (Nat × List Nat) × Nat × Int := scn bs (bs.length + 1) 0

theorem scn_end {bs : List Nat} {f a : Nat} (h : bs.length ≤ a) : scn bs f a = ([], a, 0) := by
  cases f with
  | zero => rfl
  | succ f => rw [scn, if_neg (by omega)]
theorem scn_err {bs : List Nat} {f a : Nat} (h : a < bs.length) (h0 : (fgetN bs a).2.2.2 ≠ 0) : scn bs (f + 1) a = ([], a, (fgetN bs a).2.2.2) := by rw [scn, if_pos h, if_neg h0]
theorem scn_ok {bs : List Nat} {f a : Nat} (h : a < bs.length) (h0 : (fgetN bs a).2.2.2 = 0) :
    scn bs (f + 1) a = (((fgetN bs a).1, (fgetN bs a).2.1) :: (scn bs f (fgetN bs a).2.2.1).1, (scn bs f (fgetN bs a).2.2.1).2) := by rw [scn, if_pos h, if_pos h0]

/-- A frame as it lies: its kind, its body's slice; and what the body reads as. -/
structure Fr where
  k : Nat
  A : Option Addr
  c : Nat
  body : List Nat

def Fr.cells (f : Fr) : List Value := [.int .i64 (f.k : Int), .slice f.A f.body.length f.c]
def Fr.kv (f : Fr) : Nat × List Nat := (f.k, f.body)
def fcells (fs : List Fr) : List Value := (fs.map Fr.cells).flatten
theorem fcells_snoc (fs : List Fr) (f : Fr) : fcells (fs ++ [f]) = fcells fs ++ f.cells := by simp [fcells]
theorem fcells_len (fs : List Fr) : (fcells fs).length = fs.length * 2 := by
  induction fs with
  | nil => rfl
  | cons f r ih =>
    have : fcells (f :: r) = f.cells ++ fcells r := by simp [fcells]
    rw [this, List.length_append, ih, List.length_cons]
    show 2 + _ = _
    omega

/-- A row of frames of the call's own. -/
def OwnF (w : World) (base : Nat) (A : Option Addr) (c : Nat) (fs : List Fr) : Prop := w.ownsRow base 45 2 (.slice A fs.length c) fs.length (fcells fs)

/-- The frames' bodies: each a row of the call's own, each behind the one ahead of it. -/
def Bods (w : World) (base : Nat) (fs : List Fr) : Prop :=
  (∀ f ∈ fs, Own .u8 5 w base f.A f.c f.body) ∧ fs.Pairwise fun f g => ∀ p q, f.A = some p → g.A = some q → p.block < q.block

theorem OwnF.nil (w : World) (base : Nat) : OwnF w base none 0 [] := World.ownsRow_nil w base _ 2
theorem Bods.nil (w : World) (base : Nat) : Bods w base [] := ⟨fun f h => (by cases h), .nil⟩
theorem OwnF.ext {w w' : World} {base c : Nat} {A : Option Addr} {fs : List Fr} (h : OwnF w base A c fs) (hb : Ext w w') : OwnF w' base A c fs := by
  refine World.ownsRow.kept (row := none) h ⟨hb.os, hb.tape, hb.output, hb.size, fun i hi _ => hb.block i hi⟩ ?_
  cases hv : (Value.slice A fs.length c).ownBlock <;> simp
theorem Bods.ext {w w' : World} {base : Nat} {fs : List Fr} (h : Bods w base fs) (hb : Ext w w') : Bods w' base fs := ⟨fun f hf => (h.1 f hf).ext hb, h.2⟩

/-- Rows of unlike elements lie in unlike blocks. -/
theorem own_ne {w : World} {base base' c c' : Nat} {A A' : Option Addr} {fs : List Fr} {xs : List Nat} (h : OwnF w base A c fs) (k : Own .u8 5 w base' A' c' xs) : ∀ a, A' = some a → some a.block ≠ (Value.slice A fs.length c).ownBlock := by
  rintro a rfl e
  rcases h.2 with ⟨hv, _⟩ | ⟨g, cap, cur, hv, hg, hh, _⟩
  · rw [hv] at e; simp [Value.ownBlock] at e
  · rw [hv] at e
    simp [Value.ownBlock] at e
    rcases k.2 with ⟨hv', _⟩ | ⟨g', cap', cur', hv', _, hh', _⟩
    · cases hv'
    · injection hv' with hA
      injection hA with hA
      subst hA
      simp at e
      subst e
      rw [hh] at hh'
      injection hh' with hh'
      injection hh' with h1 h2 h3
      exact absurd h2 (by decide)

theorem Bods.grown {w w' : World} {base base' c : Nat} {A : Option Addr} {fs gs : List Fr} (h : Bods w base fs) (k : OwnF w base' A c gs) (hg : w.grownBy w' (Value.slice A gs.length c).ownBlock) : Bods w' base fs :=
  ⟨fun f hf => (h.1 f hf).grown hg (own_ne k (h.1 f hf)), h.2⟩

theorem Bods.snoc {w : World} {base base' : Nat} {fs : List Fr} {f : Fr} (h : Bods w base fs) (hf : Own .u8 5 w base' f.A f.c f.body) (hb : base ≤ base') (hl : ∀ g ∈ fs, ∀ p, g.A = some p → p.block < base') : Bods w base (fs ++ [f]) := by
  refine ⟨fun g hg => ?_, ?_⟩
  · rcases List.mem_append.1 hg with h1 | h1
    · exact h.1 g h1
    · simp at h1; subst h1; exact hf.mono hb
  · rw [List.pairwise_append]
    refine ⟨h.2, by simp, fun g hg f' hf' p q hp hq => ?_⟩
    simp at hf'
    subst hf'
    exact Nat.lt_of_lt_of_le (hl g hg p hp) (hf.block q hq).1

/-- 'append(frames, f)'. -/
theorem wpList_pushF {w0 w : World} {ops : Array Oper} {rest : List Oper} {o : Oper} {a : Act} {Q : Exit → Act → World → Prop} (f : Fr) (hgd : o.guard = none) (s y : Operand)
    (ho : o.op = .call { callee := .builtin .append, args := #[s, y], argTypes := #[50, 50] })
    {base : Nat} {A : Option Addr} {c : Nat} {fs : List Fr} (hown : OwnF w base A c fs) (n : Nat) (hn : fs.length = n) (hs : a.eval s = .slice A n c)
    {g : Nat} (hy : a.eval y = .slice (some ⟨g, 0, none⟩) 1 1) (hg : w.heap[g]? = some (.cells #[.int .i64 (f.k : Int), .slice f.A f.body.length f.c] 45))
    (hlen : n ≤ 1048576) (hb : Below base w0 w) (hbase : base ≤ w.heap.size)
    (h : ∀ A' c' w', OwnF w' base A' c' (fs ++ [f]) → w.grownBy w' (Value.slice A fs.length c).ownBlock → Below base w0 w' → base ≤ w'.heap.size → wpList Try.prog ops Q rest (a.put o.dst (.slice A' (n + 1) c')) w') :
    wpList Try.prog ops Q (o :: rest) a w := by
  subst hn
  obtain ⟨i, hi0, hz, hsz, hbs⟩ := info_parts Try.infoFrame
  refine wpList_append_own_wide w hgd s y 50 ho base 45 i _ 2 32 Try.underlying50 hi0 hz hsz hbs rfl (by decide) _ fs.length (fcells fs) hs hown
    ⟨g, 0, none⟩ 1 1 f.cells hy rfl ?_ ?_ (by unfold maxLen; omega) (by omega) hbase ?_
  · intro j u hj
    have hcr : w.cell? ((⟨g, 0, none⟩ : Addr).add j) = #[Value.int .i64 (f.k : Int), .slice f.A f.body.length f.c][j]? := by
      rw [show (⟨g, 0, none⟩ : Addr).add j = ⟨g, j, none⟩ from by unfold Addr.add; split <;> simp_all]
      exact cell_of_row w g j _ _ (0, 0) hg
    rw [hcr, ← hj]
    simp [Fr.cells]
  · intro u hu
    simp [Fr.cells] at hu
    rcases hu with rfl | rfl <;> rfl
  · intro v' w' hown' hgr _
    have hform : ∃ A' c', v' = .slice A' (fs.length + 1) c' := by
      rcases hown'.2 with ⟨_, h0⟩ | ⟨g, cap, cur, hv, _⟩
      · omega
      · exact ⟨_, _, hv⟩
    obtain ⟨A', c', rfl⟩ := hform
    have hb' : Below base w0 w' := Below.grown hb hgr hbase (fun g hg' => (hown.lt g hg').1)
    refine h A' c' w' ?_ hgr hb' ?_
    · unfold OwnF
      rw [List.length_append, fcells_snoc]
      exact hown'
    · have := hgr.size
      omega

def ScanPost (bs : List Nat) (w : World) (e : Ending) (w' : World) : Prop :=
  ∃ (fs : List Fr) (A' : Option Addr) (c' : Nat), e = .returned (.tuple #[.slice A' fs.length c', .int .i64 ((fscan bs).2.1 : Nat), .int .i64 (fscan bs).2.2]) ∧ fs.map Fr.kv = (fscan bs).1 ∧ OwnF w' w.heap.size A' c' fs ∧ Bods w' w.heap.size fs ∧ Ext w w'

theorem fgetN_next {bs : List Nat} {a : Nat} (h : (fgetN bs a).2.2.2 = 0) : a + 13 ≤ (fgetN bs a).2.2.1 ∧ (fgetN bs a).2.2.1 ≤ bs.length := by
  obtain ⟨h1, h2, h3, h4, h5, h6, h7⟩ := fgetN_ok h
  rw [h7]
  exact ⟨by show a + 13 ≤ a + 13 + _; omega, h5⟩

set_option maxHeartbeats 1600000 in
theorem fscan_any (A : Option Addr) (n c : Nat) (bs : List Nat) (w : World) (hx : Rd .u8 w A n bs) (hu : U8 bs) (hA : (∃ b o, A = some ⟨b, o, none⟩) ∨ (A = none ∧ c = 0)) (hn : n ≤ 1048576) (hc : n ≤ c) (hcm : c ≤ 9223372036854775807) :
    Calls Try.prog 35 #[.slice A n c] w (ScanPost bs w) := by
  have Hl := Lib.hid hx.len
  go_enter Try.func35, Try.ntmps35
  go_wp2
  go_loopw [5, 6] (fun v i wr => ∃ (a f c' : Nat) (A' : Option Addr) (fs : List Fr), v = .slice A' fs.length c' ∧ i = .int .i64 (a : Nat) ∧ OwnF wr w.heap.size A' c' fs ∧ Bods wr w.heap.size fs ∧ Below w.heap.size w wr ∧ a ≤ n ∧ n < f + a ∧ fs.length ≤ a ∧ fscan bs = (fs.map Fr.kv ++ (scn bs f a).1, (scn bs f a).2)) (fun _ i _ => n - (intOf i).toNat)
  case atStart => exact ⟨0, bs.length + 1, 0, none, [], rfl, rfl, OwnF.nil _ _, Bods.nil _ _, Ext.refl w, Nat.zero_le _, by have := Hl.out; omega, Nat.le_refl _, by simp [fscan]⟩
  case round =>
    obtain ⟨a, f, c', A', fs, rfl, rfl, hown, hbods, hb, han, hfu, hfl, hsc⟩ := hrel
    have hz := hb.size
    have Hsc := Lib.hid hsc
    clear hsc
    by_cases hlt : a < n
    · obtain ⟨f, rfl⟩ : ∃ g, f = g + 1 := ⟨f - 1, by omega⟩
      have hin := fget_in (bs := bs) (a := a) (by have := Hl.out; omega)
      have hok := scn_ok (bs := bs) (f := f) (a := a) (by have := Hl.out; omega)
      have her := scn_err (bs := bs) (f := f) (a := a) (by have := Hl.out; omega)
      have hnx := fgetN_next (bs := bs) (a := a)
      have Hin := Lib.hid hin
      have Hok := Lib.hid hok
      have Her := Lib.hid her
      have Hnx := Lib.hid hnx
      clear hin hok her hnx
      go_wp2_with fail
      refine (fget_any _ _ _ _ bs _ (hx.ext hb) hu hA (by omega) hc hcm).mono ?_
      rintro e w1 ⟨A1, c1, rfl, hown1, he1⟩
      rw [Hin.out] at hown1 ⊢
      obtain ⟨g, hg⟩ : ∃ g, fgetN bs a = g := ⟨_, rfl⟩
      rw [hg] at hown1 Hok Her Hnx ⊢
      obtain ⟨k, body, t, r⟩ := g
      simp only at hown1 Hok Her Hnx ⊢
      have hE1 : Below w.heap.size w w1 := Ext.trans hb he1
      have hown2 := hown.ext he1
      have hbods2 := hbods.ext he1
      have hlow : ∀ g ∈ fs, ∀ p, g.A = some p → p.block < wr.heap.size := fun g hg p hp => ((hbods.1 g hg).block p hp).2
      have hsz1 := he1.size
      clear hg
      by_cases hr : r = 0
      · subst hr
        obtain ⟨ht1, ht2⟩ := Hnx.out rfl
        have HL := Lib.hid ht2
        have hsc2 := Hsc.out
        rw [Hok.out rfl] at hsc2
        have Hsc2 := Lib.hid hsc2
        clear Hsc Hok Her Hnx ht2 hsc2
        have hX : Ext w1 ((w1.alloc (.cells #[.int .i64 (k : Int), .slice A1 body.length c1] 45)).alloc (.cells #[.int .i64 (k : Int), .slice A1 body.length c1] 45)) := ((Ext.refl w1).alloc _).alloc _
        have hown3 := hown2.ext hX
        go_wp2_with (at_builtin; refine wpList_pushF (w0 := w) ⟨k, A1, c1, body⟩ rfl _ _ rfl hown3 fs.length rfl rfl rfl (heap_alloc2_new w1 _ _) (by omega) (Ext.trans hE1 hX) (by simp; omega) ?_; intro A3 c3 w3 hown4 hgr hb3 hz3)
        have hbods3 : Bods w3 w.heap.size (fs ++ [⟨k, A1, c1, body⟩]) := Bods.grown (base' := w.heap.size) (Bods.snoc (hbods2.ext hX) (hown1.ext hX) hz hlow) hown3 hgr
        go_wp2_with fail
        go_roundw
        case rel => exact ⟨t, f, c3, A3, _, by simp, rfl, hown4, hbods3, hb3, by have := HL.out; have := Hl.out; omega, by omega, by simp; omega, by rw [Hsc2.out]; simp [Fr.kv]⟩
        case measure => simp [intOf]; omega
      · have hsc2 := Hsc.out
        rw [Her.out hr] at hsc2
        have Hsc2 := Lib.hid hsc2
        have hrb : (r != 0) = true := by simpa using hr
        clear Hsc Hok Her Hnx hsc2
        go_wp2_with fail
        go_ret3
        refine ⟨fs, A', c', ?_, by rw [Hsc2.out]; simp, (hown2.ext ((Ext.refl w1).alloc _)), (hbods2.ext ((Ext.refl w1).alloc _)), Ext.trans hE1 ((Ext.refl w1).alloc _)⟩
        rw [Hsc2.out]
        rfl
    · have hsc2 := Hsc.out
      rw [scn_end (by have := Hl.out; omega)] at hsc2
      have Hsc2 := Lib.hid hsc2
      clear Hsc hsc2
      go_wp2_with fail
      go_ret3
      refine ⟨fs, A', c', ?_, by rw [Hsc2.out]; simp, hown, hbods, hb⟩
      rw [Hsc2.out]
      rfl

end Go.Proofs.Ytegplcllimoakaa
