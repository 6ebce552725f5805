/-
  Layer 14: a file taken out of the directory, as a step.
-/
import Derived.Test.YtjckfbpdnpehcaaDKb
namespace Go.Proofs.Ytjckfbpdnpehcaa
open Go.RowKit Go.Maps Go.WideMaps
set_option maxRecDepth 100000

/-- A change at the end of the history. -/
theorem Hist.snoc {S : DS} (h : Hist S) (g : Chg) (hok : okC S.files g) (h4 : (apD S.files g).length ≤ 400) (hid : ∀ x q, lkp (apD S.files g) x = some q → x.length ≤ 40 ∧ ∃ f, (q, f) ∈ S.fl) : Hist { S with files := apD S.files g, chs := S.chs ++ [g] } := by
  have e : ∀ j, j ≤ S.chs.length → preD { S with files := apD S.files g, chs := S.chs ++ [g] } j = preD S j := by
    intro j hj
    unfold preD
    simp only
    rw [List.take_append_of_le_length hj]
  have e2 : preD { S with files := apD S.files g, chs := S.chs ++ [g] } (S.chs.length + 1) = apD S.files g := by
    rw [preD_succ (g := g) (by simp), e _ (Nat.le_refl _), h.all]
  refine ⟨?_, ?_, ?_, ?_⟩
  · intro j hj
    simp only [List.length_append, List.length_singleton] at hj
    by_cases q : j ≤ S.chs.length
    · rw [e j q]; exact h.few j q
    · obtain rfl : j = S.chs.length + 1 := by omega
      rw [e2]; exact h4
  · intro j x q hj hl
    simp only [List.length_append, List.length_singleton] at hj
    by_cases p : j ≤ S.chs.length
    · rw [e j p] at hl; exact h.id j x q p hl
    · obtain rfl : j = S.chs.length + 1 := by omega
      rw [e2] at hl; exact hid x q hl
  · intro j g' hj
    simp only at hj
    by_cases p : j < S.chs.length
    · rw [List.getElem?_append_left p] at hj
      rw [e j (by omega)]; exact h.ok j g' hj
    · rw [List.getElem?_append_right (by omega)] at hj
      obtain ⟨i, hi⟩ : ∃ i, i = j - S.chs.length := ⟨_, rfl⟩
      rw [← hi] at hj
      cases i with
      | succ i => cases hj
      | zero =>
        injection hj with hj
        obtain rfl : j = S.chs.length := by omega
        rw [e _ (Nat.le_refl _), h.all, ← hj]
        exact hok
  · simp only [List.length_append, List.length_singleton]
    exact e2

theorem remove1_call (args : Array Value) (W : World) : (callFunc 87 args).run Try.prog W = .ok (.enter 87 args) W := by
  have h1 : Try.f87.name ≠ "runtime.NumGoroutine" := by decide
  have h2 : Try.f87.body ≠ none := by intro h; cases h
  simp [callFunc, Try.func87, h1, h2]

/-- The box of a name, as a closure holds it. -/
def Bn (w : World) (q : Nat) (x : List UInt8) : Prop := w.heap[q]? = some (.cells #[nm x] 9 (0, 0))

section
variable {w : World} {X : Nat → Prop} {base dp q qn : Nat} {S : DS} {I : DI}
theorem remove1_none (h : DK w X base dp S I) (x : List UInt8) (hx : x.length ≤ 140737488355328) (hq : Bx w q dp) (hn : Bn w qn x) (hl : lkp S.files x = none) : Calls Try.prog 87 #[.pointer (some ⟨q, 0, none⟩), .pointer (some ⟨qn, 0, none⟩)] w fun e w' => e = .returned (.int .i64 143) ∧ w' = w.drew := by
  have c1 : w.cell? ⟨q, 0, none⟩ = some (.pointer (some ⟨dp, 0, none⟩)) := cell_of_row w q 0 _ _ (0, 0) hq
  have c2 : w.cell? ⟨qn, 0, none⟩ = some (nm x) := cell_of_row w qn 0 _ _ (0, 0) hn
  obtain ⟨d0, d1, d2, d3, d4, d5, d6⟩ := h.at_
  have lk := h.drew.dF.look (x := x) (by unfold maxLen; omega)
  rw [hl] at lk
  replace lk : (Instr.lookup 84 (.map (some I.F)) (nm x) false).run Try.prog w.drew = .ok (.pointer none) w.drew := lk
  clear h hq hn d0 d2 d3 d4 d5 d6
  go_enter Try.func87, Try.ntmps87
  go_wp2_with fail
  go_region
  all_goals
    go_wp2
    go_ret
    exact ⟨rfl, rfl⟩

theorem DK.grow {w' : World} (h : DK w X base dp S I) (he : Ext w w') : DK w' (fun q => X q ∨ (w.heap.size ≤ q ∧ q < w'.heap.size)) base dp S I := by
  have hz := he.size
  have hb := h.bd dp h.xs.1
  refine h.kept (fun b hb => .inl hb) (fun b hb2 => ?_) (fun b hb => he.block b (h.bd b hb).2)
  rcases hb2 with q | q
  · have := h.bd b q; omega
  · omega
theorem FrX.under {w1 w2 : World} (he : Ext w w1) (h : FrX (fun q => X q ∨ (w.heap.size ≤ q ∧ q < w1.heap.size)) w1 w2) : FrX X w w2 :=
  ⟨h.os.trans he.os, h.tape.trans he.tape, h.output.trans he.output, Nat.le_trans he.size h.size, fun i hi hx => (h.block i (Nat.lt_of_lt_of_le hi he.size) (fun q => by rcases q with q | q; exact hx q; omega)).trans (he.block i hi)⟩

theorem removed_lit (x : List UInt8) (w : World) (h : x.length ≤ 140737488355328) : Calls Try.prog 88 #[nm x] w fun e w' => ∃ bx : Nat, e = .returned (.func (.func 95) #[] #[.pointer (some ⟨bx, 0, none⟩)]) ∧ CloR w' (.rm bx) (.rm x) ∧ w.heap.size ≤ bx ∧ Ext w w' :=
  (removed_any x w h).mono (by
    rintro e w' ⟨k, rfl, hk, hn, he⟩
    cases k with
    | cr bf bx => exact hk.elim
    | mv bx bY => exact hk.elim
    | rm bx => exact ⟨bx, rfl, hk, hn bx rfl, he⟩)
theorem alter_rm {bx : Nat} {x : List UInt8} (h : DK w X base dp S I) (hk : CloR w (.rm bx) (.rm x)) (hX : X bx) (hx : x.length ≤ 40) (hid : ∀ y r, lkp (apD S.files (.rm x)) y = some r → y.length ≤ 40 ∧ ∃ f, (r, f) ∈ S.fl) (h4 : (apD S.files (.rm x)).length ≤ 400) (hn : S.chs.length < 10000000000000) :
    Calls Try.prog 47 #[.pointer (some ⟨dp, 0, none⟩), .func (.func 95) #[] #[.pointer (some ⟨bx, 0, none⟩)]] w fun e w' => e = .returned (.tuple #[]) ∧ ∃ A c, DK w' (fun q => X q ∨ (w.heap.size ≤ q ∧ q < w'.heap.size)) base dp { S with files := delD S.files x, chs := S.chs ++ [.rm x] } { I with Ac := A, cc := c, clos := I.clos ++ [.rm bx] } ∧ FrX X w w' :=
  alter_any (k := .rm bx) (g := .rm x) h hk (fun q hq => by rw [show q = bx from hq]; exact hX) hx hid (fun y r hr => by cases hr) h4 hn
end

end Go.Proofs.Ytjckfbpdnpehcaa
