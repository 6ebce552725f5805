/-
  Layer 17: the clock: its memory, its calls.
-/
import Derived.Test.YtkmnhapeohlooaaMV3
namespace Go.Proofs.Ytkmnhapeohlooaa
open Go.RowKit Go.Maps
set_option maxRecDepth 100000

/-- A clock, as the document has it. -/
structure CkS where
  now : Int
  last : Int
  mark : Int
  fl : List Int
  pn : List Int

/-- What ending a time answers. -/
def endE (l : List Int) (t : Int) : Int := if t ∈ l then 0 else 172

def CkS.new : CkS := ⟨0, -1, 0, [], []⟩
def CkS.next (s : CkS) : Int := if s.last + 1 > s.now then s.last + 1 else s.now
def CkS.tick (s : CkS) (n : Int) : CkS := { s with now := if n > 1099511627777 - s.now then 1099511627777 else if n > 0 then s.now + n else s.now }
def CkS.begin (s : CkS) : CkS × Int × Int := if s.next > 1099511627776 then (s, 0, 170) else ({ s with last := s.next, fl := s.fl ++ [s.next] }, s.next, 0)
def CkS.fin (s : CkS) (t : Int) : CkS := { s with fl := s.fl.erase t }
def CkS.raise (s : CkS) (t : Int) : CkS := { s with last := if (if t > 1099511627776 then 1099511627776 else t) > s.last then (if t > 1099511627776 then 1099511627776 else t) else s.last }
def CkS.move (s : CkS) (t : Int) : CkS × Int := if t < s.mark ∨ t > 1099511627776 then (s, 1) else ({ s with mark := t }, 0)
def CkS.pin (s : CkS) (t : Int) : CkS × Int := if t < 0 ∨ t > 1099511627776 then (s, 1) else if t < s.mark then (s, 171) else ({ s with pn := s.pn ++ [t] }, 0)
def CkS.unpin (s : CkS) (t : Int) : CkS := { s with pn := s.pn.erase t }
def CkS.clean (s : CkS) : Int := leastL s.fl s.next - 1
def CkS.floor (s : CkS) : Int := leastL s.pn s.mark

/-- What holds of every clock behind N calls. -/
structure CkS.Ok (s : CkS) (N : Nat) : Prop where
  now : 0 ≤ s.now ∧ s.now ≤ 1099511627777
  last : -1 ≤ s.last ∧ s.last ≤ 1099511627776
  mark : 0 ≤ s.mark ∧ s.mark ≤ 1099511627776
  fl : s.fl.length ≤ N
  pn : s.pn.length ≤ N
  flr : ∀ x ∈ s.fl, 0 ≤ x ∧ x ≤ 1099511627776

theorem CkS.Ok.new : CkS.new.Ok 0 := ⟨by decide, by decide, by decide, Nat.le_refl _, Nat.le_refl _, (by intro x hx; cases hx)⟩
theorem CkS.Ok.mono {s : CkS} {N M : Nat} (h : s.Ok N) (hN : N ≤ M) : s.Ok M := ⟨h.now, h.last, h.mark, Nat.le_trans h.fl hN, Nat.le_trans h.pn hN, h.flr⟩
theorem CkS.Ok.tick {s : CkS} {N : Nat} (h : s.Ok N) (n : Int) : (s.tick n).Ok N := by
  obtain ⟨h1, h2, h3, h4, h5, h6⟩ := h
  refine ⟨?_, h2, h3, h4, h5, h6⟩
  show 0 ≤ (if n > 1099511627777 - s.now then (1099511627777 : Int) else if n > 0 then s.now + n else s.now) ∧ _
  simp only [CkS.tick]
  split
  · omega
  · split <;> omega
theorem CkS.next_ok {s : CkS} {N : Nat} (h : s.Ok N) : 0 ≤ s.next ∧ s.next ≤ 1099511627777 := by
  obtain ⟨h1, h2, h3, h4, h5, h6⟩ := h
  unfold CkS.next
  split <;> omega
theorem CkS.Ok.begin {s : CkS} {N : Nat} (h : s.Ok N) : s.begin.1.Ok (N + 1) := by
  have hn := CkS.next_ok h
  unfold CkS.begin
  split
  · exact h.mono (by omega)
  · refine ⟨h.now, ?_, h.mark, ?_, Nat.le_succ_of_le h.pn, ?_⟩
    · show -1 ≤ s.next ∧ s.next ≤ 1099511627776
      omega
    · show (s.fl ++ [s.next]).length ≤ N + 1
      have := h.fl
      simp; exact this
    · intro x hx
      rcases List.mem_append.1 hx with hx | hx
      · exact h.flr x hx
      · have := List.mem_singleton.1 hx
        omega
theorem CkS.Ok.fin {s : CkS} {N : Nat} (h : s.Ok N) (t : Int) : (s.fin t).Ok N :=
  ⟨h.now, h.last, h.mark, Nat.le_trans (List.length_erase_le) h.fl, h.pn, fun x hx => h.flr x (List.mem_of_mem_erase hx)⟩
theorem CkS.Ok.unpin {s : CkS} {N : Nat} (h : s.Ok N) (t : Int) : (s.unpin t).Ok N :=
  ⟨h.now, h.last, h.mark, h.fl, Nat.le_trans (List.length_erase_le) h.pn, h.flr⟩
theorem CkS.Ok.raise {s : CkS} {N : Nat} (h : s.Ok N) (t : Int) : (s.raise t).Ok N := by
  obtain ⟨h1, h2, h3, h4, h5, h6⟩ := h
  refine ⟨h1, ?_, h3, h4, h5, h6⟩
  simp only [CkS.raise]
  split <;> split <;> omega
theorem CkS.Ok.move {s : CkS} {N : Nat} (h : s.Ok N) (t : Int) : (s.move t).1.Ok N := by
  unfold CkS.move
  split
  · exact h
  · rename_i q
    have := h.mark
    exact ⟨h.now, h.last, ⟨by show 0 ≤ t; omega, by show t ≤ _; omega⟩, h.fl, h.pn, h.flr⟩
theorem CkS.Ok.pin {s : CkS} {N : Nat} (h : s.Ok N) (t : Int) : (s.pin t).1.Ok (N + 1) := by
  unfold CkS.pin
  split
  · exact h.mono (by omega)
  · split
    · exact h.mono (by omega)
    · refine ⟨h.now, h.last, h.mark, Nat.le_succ_of_le h.fl, ?_, h.flr⟩
      show (s.pn ++ [t]).length ≤ N + 1
      have := h.pn
      simp; exact this

/-- The clock at block sb; its maps at bf, bp. -/
structure Ck (w : World) (b0 base sb bf bp N : Nat) (s : CkS) : Prop where
  ge : b0 ≤ sb ∧ b0 ≤ bf ∧ b0 ≤ bp
  lt : sb < base ∧ bf < base ∧ bp < base
  ne : sb ≠ bf ∧ sb ≠ bp ∧ bf ≠ bp
  top : base ≤ w.heap.size
  blk : w.heap[sb]? = some (.cells #[.int .i64 s.now, .int .i64 s.last, .int .i64 s.mark, .map (some bf), .map (some bp)] 83 (0, 0))
  mf : MT w bf N s.fl
  mp : MT w bp N s.pn

section
variable {w w' : World} {b0 base sb bf bp N : Nat} {s : CkS}
theorem Ck.ext (h : Ck w b0 base sb bf bp N s) (he : Ext w w') : Ck w' b0 base sb bf bp N s :=
  ⟨h.ge, h.lt, h.ne, Nat.le_trans h.top he.size, (he.block sb (Nat.lt_of_lt_of_le h.lt.1 h.top)).trans h.blk, h.mf.ext he, h.mp.ext he⟩
theorem Ck.mono (h : Ck w b0 base sb bf bp N s) {M : Nat} (hM : N ≤ M) : Ck w b0 base sb bf bp M s :=
  ⟨h.ge, h.lt, h.ne, h.top, h.blk, h.mf.mono hM, h.mp.mono hM⟩
theorem Ck.cells (h : Ck w b0 base sb bf bp N s) : w.cell? ⟨sb, 0, none⟩ = some (.int .i64 s.now) ∧ w.cell? ⟨sb, 1, none⟩ = some (.int .i64 s.last) ∧ w.cell? ⟨sb, 2, none⟩ = some (.int .i64 s.mark) ∧ w.cell? ⟨sb, 3, none⟩ = some (.map (some bf)) ∧ w.cell? ⟨sb, 4, none⟩ = some (.map (some bp)) ∧ ∀ i, w.frozen? ⟨sb, i, none⟩ = false := by
  refine ⟨?_, ?_, ?_, ?_, ?_, fun i => by simp [World.frozen?, h.blk]⟩ <;> (rw [cell_of_row w sb _ _ _ (0, 0) h.blk]; rfl)
theorem grown_setCellM (w : World) (g i : Nat) (v : Value) : w.grownBy (w.setCell ⟨g, i, none⟩ v) (some g) :=
  ⟨rfl, rfl, rfl, by simp [World.setCell], fun k _ hne => Below.heap_setCell w _ v k (fun e => hne (by rw [e]))⟩
/-- A number of the clock is set. -/
theorem Ck.set (h : Ck w b0 base sb bf bp N s) {s' : CkS} {i : Nat} {x : Int} (hf : s'.fl = s.fl) (hp : s'.pn = s.pn)
    (hc : (#[Value.int .i64 s.now, .int .i64 s.last, .int .i64 s.mark, .map (some bf), .map (some bp)]).setIfInBounds i (.int .i64 x) = #[.int .i64 s'.now, .int .i64 s'.last, .int .i64 s'.mark, .map (some bf), .map (some bp)]) :
    Ck (w.setCell ⟨sb, i, none⟩ (.int .i64 x)) b0 base sb bf bp N s' ∧ Fr b0 base w (w.setCell ⟨sb, i, none⟩ (.int .i64 x)) := by
  have hg := grown_setCellM w sb i (.int .i64 x)
  refine ⟨⟨h.ge, h.lt, h.ne, Nat.le_trans h.top hg.size, ?_, ?_, ?_⟩, grownBy_fr hg h.ge.1 h.lt.1⟩
  · rw [← hc]; exact heap_setCell_same w sb i _ _ _ h.blk
  · rw [hf]; exact h.mf.grown hg (fun e => h.ne.1 (by injection e with e; exact e.symm))
  · rw [hp]; exact h.mp.grown hg (fun e => h.ne.2.1 (by injection e with e; exact e.symm))
/-- A map of the clock has turned. -/
theorem Ck.setF (h : Ck w b0 base sb bf bp N s) {l : List Int} {M : Nat} (hM : N ≤ M) (hm : MT w' bf M l) (hg : w.grownBy w' (some bf)) : Ck w' b0 base sb bf bp M { s with fl := l } ∧ Fr b0 base w w' :=
  ⟨⟨h.ge, h.lt, h.ne, Nat.le_trans h.top hg.size, (hg.block sb (Nat.lt_of_lt_of_le h.lt.1 h.top) (fun e => h.ne.1 (by injection e))).trans h.blk, hm, (h.mp.grown hg (fun e => h.ne.2.2 (by injection e with e; exact e.symm))).mono hM⟩, grownBy_fr hg h.ge.2.1 h.lt.2.1⟩
theorem Ck.setP (h : Ck w b0 base sb bf bp N s) {l : List Int} {M : Nat} (hM : N ≤ M) (hm : MT w' bp M l) (hg : w.grownBy w' (some bp)) : Ck w' b0 base sb bf bp M { s with pn := l } ∧ Fr b0 base w w' :=
  ⟨⟨h.ge, h.lt, h.ne, Nat.le_trans h.top hg.size, (hg.block sb (Nat.lt_of_lt_of_le h.lt.1 h.top) (fun e => h.ne.2.1 (by injection e))).trans h.blk, (h.mf.grown hg (fun e => h.ne.2.2 (by injection e))).mono hM, hm⟩, grownBy_fr hg h.ge.2.2 h.lt.2.2⟩
end

end Go.Proofs.Ytkmnhapeohlooaa
