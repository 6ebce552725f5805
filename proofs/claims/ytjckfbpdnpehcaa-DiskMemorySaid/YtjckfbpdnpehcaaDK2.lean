/-
  Layer 14: changes of a directory.
-/
import Derived.Test.YtjckfbpdnpehcaaDK1
namespace Go.Proofs.Ytjckfbpdnpehcaa
open Go.RowKit Go.Maps Go.WideMaps
set_option maxRecDepth 100000

/-- A change of a directory. -/
inductive Chg
  | cr (x : List UInt8) (q : Nat)
  | mv (x y : List UInt8)
  | rm (x : List UInt8)
/-- The directory behind a change. -/
def apD (d : Dir) : Chg → Dir
  | .cr x q => putD d x q
  | .mv x y => match lkp d x with
    | some q => delD (putD d y q) x
    | none => d
  | .rm x => delD d x
/-- May the change be made of this directory? -/
def okC (d : Dir) : Chg → Prop
  | .cr x _ => x.length ≤ 40
  | .mv x y => x.length ≤ 40 ∧ y.length ≤ 40 ∧ (lkp d x).isSome = true
  | .rm x => x.length ≤ 40
theorem apD_asc {d : Dir} (h : AscD d) (c : Chg) : AscD (apD d c) := by
  cases c with
  | cr x q => exact asc_put h x q
  | mv x y =>
    unfold apD
    simp only
    split
    · exact asc_del (asc_put h y _) x
    · exact h
  | rm x => exact asc_del h x
theorem apD_len {d : Dir} (h : AscD d) (c : Chg) : (apD d c).length ≤ d.length + 1 := by
  cases c with
  | cr x q => have := len_put h x q; unfold apD; simp only; rw [this]; split <;> omega
  | mv x y =>
    unfold apD
    simp only
    split
    · rename_i q _
      have h1 := len_del (asc_put h y q) x
      have h2 := len_put h y q
      split at h2 <;> omega
    · omega
  | rm x => have := len_del h x; unfold apD; simp only; omega

/-- A change as a value: the function and the blocks of what it holds. -/
inductive Clo
  | cr (bf bx : Nat)
  | mv (bx bY : Nat)
  | rm (bx : Nat)
def Clo.v : Clo → Value
  | .cr bf bx => .func (.func 79) #[] #[.pointer (some ⟨bf, 0, none⟩), .pointer (some ⟨bx, 0, none⟩)]
  | .mv bx bY => .func (.func 84) #[] #[.pointer (some ⟨bx, 0, none⟩), .pointer (some ⟨bY, 0, none⟩)]
  | .rm bx => .func (.func 95) #[] #[.pointer (some ⟨bx, 0, none⟩)]
def shC : Shape Clo := ⟨fun c => [c.v], 1, fun _ => rfl, by
  intro x u hu
  simp only [List.mem_singleton] at hu
  subst hu
  cases x <;> rfl⟩
/-- What a change holds. -/
def CloR (w : World) : Clo → Chg → Prop
  | .cr bf bx, .cr x q => w.heap[bf]? = some (.cells #[.pointer (some ⟨q, 0, none⟩)] 94 (0, 0)) ∧ w.heap[bx]? = some (.cells #[nm x] 9 (0, 0))
  | .mv bx bY, .mv x y => w.heap[bx]? = some (.cells #[nm x] 9 (0, 0)) ∧ w.heap[bY]? = some (.cells #[nm y] 9 (0, 0))
  | .rm bx, .rm x => w.heap[bx]? = some (.cells #[nm x] 9 (0, 0))
  | _, _ => False
/-- The blocks of what it holds. -/
def Clo.has : Clo → Nat → Prop
  | .cr bf bx, q => q = bf ∨ q = bx
  | .mv bx bY, q => q = bx ∨ q = bY
  | .rm bx, q => q = bx
theorem CloR.blk {w w' : World} {c : Clo} {g : Chg} (h : CloR w c g) (hb : ∀ q, c.has q → w'.heap[q]? = w.heap[q]?) : CloR w' c g := by
  cases c <;> cases g <;> simp only [CloR, Clo.has] at h hb ⊢
  · exact ⟨(hb _ (.inl rfl)).trans h.1, (hb _ (.inr rfl)).trans h.2⟩
  · exact ⟨(hb _ (.inl rfl)).trans h.1, (hb _ (.inr rfl)).trans h.2⟩
  · exact (hb _ rfl).trans h
theorem CloR.lt {w : World} {c : Clo} {g : Chg} (h : CloR w c g) : ∀ q, c.has q → q < w.heap.size := by
  intro q hq
  cases c <;> cases g <;> simp only [CloR, Clo.has] at h hq
  · rcases hq with rfl | rfl
    · exact (Array.getElem?_eq_some_iff.1 h.1).1
    · exact (Array.getElem?_eq_some_iff.1 h.2).1
  · rcases hq with rfl | rfl
    · exact (Array.getElem?_eq_some_iff.1 h.1).1
    · exact (Array.getElem?_eq_some_iff.1 h.2).1
  · subst hq; exact (Array.getElem?_eq_some_iff.1 h).1
/-- The function and what it is called with, ahead of the directory. -/
def Clo.fn : Clo → FuncId
  | .cr .. => 79
  | .mv .. => 84
  | .rm .. => 95
def Clo.caps : Clo → Array Value
  | .cr bf bx => #[.pointer (some ⟨bf, 0, none⟩), .pointer (some ⟨bx, 0, none⟩)]
  | .mv bx bY => #[.pointer (some ⟨bx, 0, none⟩), .pointer (some ⟨bY, 0, none⟩)]
  | .rm bx => #[.pointer (some ⟨bx, 0, none⟩)]

theorem max40 {x : List UInt8} (h : x.length ≤ 40) : x.length ≤ maxLen := by unfold maxLen; omega

theorem created1_any {w : World} {b : Nat} {d : Dir} (hd : DirR w b d) (hl : d.length < 1000000) (bf bx : Nat) (x : List UInt8) (q : Nat) (hc : CloR w (.cr bf bx) (.cr x q)) (hx : x.length ≤ 40) :
    Calls Try.prog 79 #[.map (some b), .pointer (some ⟨bf, 0, none⟩), .pointer (some ⟨bx, 0, none⟩)] w fun e w' => e = .returned (.tuple #[]) ∧ DirR w' b (putD d x q) ∧ w.grownBy w' (some b) := by
  have c1 := cell_of_row w bf 0 _ _ (0, 0) hc.1
  have c2 := cell_of_row w bx 0 _ _ (0, 0) hc.2
  have Hd := Lib.hid hd
  clear hd hc
  go_enter Try.func79, Try.ntmps79
  go_wp2_with (first | ((at_mapUpdate; refine wpList_dirPut rfl _ _ _ rfl rfl Hd.out (by unfold maxLen; omega) (k := x) (q := q) (max40 hx) rfl rfl ?_; intro w1 h1 h2)) | fail)

  go_end0
  exact ⟨rfl, h1, h2⟩

theorem renamed1_any {w : World} {b : Nat} {d : Dir} (hd : DirR w b d) (hl : d.length < 1000000) (bx bY : Nat) (x y : List UInt8) (q : Nat) (hc : CloR w (.mv bx bY) (.mv x y)) (hx : x.length ≤ 40) (hy : y.length ≤ 40) (hq : lkp d x = some q) (hne : bx ≠ b) :
    Calls Try.prog 84 #[.map (some b), .pointer (some ⟨bx, 0, none⟩), .pointer (some ⟨bY, 0, none⟩)] w fun e w' => e = .returned (.tuple #[]) ∧ DirR w' b (delD (putD d y q) x) ∧ w.grownBy w' (some b) := by
  have c1 := cell_of_row w bx 0 _ _ (0, 0) hc.1
  have c2 := cell_of_row w bY 0 _ _ (0, 0) hc.2
  have hlk := hd.look (max40 hx)
  rw [hq] at hlk
  have hlk : (Instr.lookup 84 (.map (some b)) (nm x) false).run Try.prog w = .ok (.pointer (some ⟨q, 0, none⟩)) w := hlk
  have hlen := len_put hd.asc y q
  have hl2 : (putD d y q).length < maxLen := by unfold maxLen; split at hlen <;> omega
  have Hd := Lib.hid hd
  have Hc := Lib.hid hc
  clear hd hc hlen
  go_enter Try.func84, Try.ntmps84
  go_wp2_with (first
    | (at_mapUpdate; refine wpList_dirPut rfl _ _ _ rfl rfl Hd.out (by unfold maxLen; omega) (k := y) (q := q) (max40 hy) rfl rfl ?_; intro w1 h1 h2; have H1 := Lib.hid h1; have c3 : w1.cell? ⟨bx, 0, none⟩ = some (nm x) := cell_of_row w1 bx 0 _ _ (0, 0) ((h2.block bx (Array.getElem?_eq_some_iff.1 Hc.out.1).1 (fun e => hne (Option.some.inj e))).trans Hc.out.1); clear h1)
    | (at_delete; refine wpList_dirDel rfl _ _ rfl rfl H1.out (k := x) (max40 hx) rfl ?_; intro w2 h3 h4)
    | fail)
  go_end0
  exact ⟨rfl, h3, h2.andThen h4 (fun j e => .inr e)⟩

theorem removed1_any {w : World} {b : Nat} {d : Dir} (hd : DirR w b d) (bx : Nat) (x : List UInt8) (hc : CloR w (.rm bx) (.rm x)) (hx : x.length ≤ 40) :
    Calls Try.prog 95 #[.map (some b), .pointer (some ⟨bx, 0, none⟩)] w fun e w' => e = .returned (.tuple #[]) ∧ DirR w' b (delD d x) ∧ w.grownBy w' (some b) := by
  have c1 := cell_of_row w bx 0 _ _ (0, 0) hc
  have Hd := Lib.hid hd
  clear hd hc
  go_enter Try.func95, Try.ntmps95
  go_wp2_with (first | (at_delete; refine wpList_dirDel rfl _ _ rfl rfl Hd.out (k := x) (max40 hx) rfl ?_; intro w1 h1 h2) | fail)
  go_end0
  exact ⟨rfl, h1, h2⟩

/-- A change, done. -/
theorem clo_any {w : World} {b : Nat} {d : Dir} {c : Clo} {g : Chg} (hd : DirR w b d) (hl : d.length < 1000000) (hc : CloR w c g) (hg : okC d g) (hne : ∀ q, c.has q → q ≠ b) :
    Calls Try.prog c.fn (#[.map (some b)] ++ c.caps) w fun e w' => e = .returned (.tuple #[]) ∧ DirR w' b (apD d g) ∧ w.grownBy w' (some b) := by
  cases c <;> cases g <;> simp only [CloR] at hc
  · exact created1_any hd hl _ _ _ _ hc hg
  · rename_i bx bY x y
    obtain ⟨h1, h2, h3⟩ := hg
    cases hq : lkp d x with
    | none => rw [hq] at h3; cases h3
    | some q =>
      have e : apD d (.mv x y) = delD (putD d y q) x := by unfold apD; simp only [hq]
      rw [e]
      exact renamed1_any hd hl _ _ _ _ q hc h1 h2 hq (hne _ (.inl rfl))
  · exact removed1_any hd _ _ hc hg

end Go.Proofs.Ytjckfbpdnpehcaa
