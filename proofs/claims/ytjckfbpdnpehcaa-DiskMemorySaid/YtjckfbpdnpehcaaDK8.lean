/-
  Layer 14: an empty disk; how many of n the i-th number keeps.
-/
import Derived.Test.YtjckfbpdnpehcaaDK7
namespace Go.Proofs.Ytjckfbpdnpehcaa
open Go.RowKit Go.Maps Go.WideMaps
set_option maxRecDepth 100000

/-- An empty disk. -/
def newS (room : Int) : DS := ⟨min (max room 0) 16777216, [], [], [], [], fun _ => (0, 0, 0), 0, true⟩

theorem hist_new (room : Int) : Hist (newS room) where
  few := fun j hj => by unfold preD newS; simp
  id := fun j x q hj h => by unfold preD newS at h; simp [lkp] at h
  ok := fun j g h => by unfold newS at h; simp at h
  all := by unfold preD newS; rfl

theorem run_mkD (w : World) : (Instr.makeMap 84 none).run Try.prog w = .ok (.map (some w.heap.size)) (w.alloc (.map #[] 0)) := by
  simp [Instr.makeMap, Result.andThen]

theorem new_any (room : Int) (w : World) : Calls Try.prog 9 #[.int .i64 room] w fun e w' => ∃ (dp : Nat) (I : DI) (X : Nat → Prop), e = .returned (.pointer (some ⟨dp, 0, none⟩)) ∧ DK w' X w.heap.size dp (newS room) I ∧ Ext w w' := by
  have mk := run_mkD
  go_enter Try.func9, Try.ntmps9
  go_wp2_with fail
  go_ret
  obtain ⟨o, ho⟩ : ∃ o, o = Obj.cells #[Value.int .i64 (min (max room 0) 16777216), Value.map (some w.heap.size), Value.map (some (w.heap.size + 1)), Value.slice none 0 0, Value.map none, Value.int .i64 0, Value.bool true] 88 (0, 0) := ⟨_, rfl⟩
  have hblk := heap_alloc_new ((w.alloc (Obj.map #[] 0)).alloc (Obj.map #[] 0)) o
  have d1 : DirR (((w.alloc (Obj.map #[] 0)).alloc (Obj.map #[] 0)).alloc o) w.heap.size [] := ((dir_new w).ext ((Ext.refl _).alloc _)).ext ((Ext.refl _).alloc _)
  have d2 : DirR (((w.alloc (Obj.map #[] 0)).alloc (Obj.map #[] 0)).alloc o) (w.heap.size + 1) [] := by
    have q := (dir_new (w.alloc (Obj.map #[] 0))).ext ((Ext.refl _).alloc o)
    simpa using q
  have e1 : Ext w (((w.alloc (Obj.map #[] 0)).alloc (Obj.map #[] 0)).alloc o) := (((Ext.refl w).alloc _).trans (((Ext.refl _).alloc _).mono (by simp))).trans (((Ext.refl _).alloc _).mono (by simp))
  rw [← ho]
  refine ⟨w.heap.size + 1 + 1, ⟨w.heap.size, w.heap.size + 1, none, 0, [], .map none, fun _ => none, fun _ => 0⟩, fun q => w.heap.size ≤ q ∧ q < w.heap.size + 3, rfl, ?_, e1⟩
  subst ho
  exact {
    blk := by simpa [newS] using hblk
    xs := ⟨⟨by omega, by omega⟩, ⟨by simp, by simp⟩, ⟨by simp, by simp⟩⟩
    bd := fun b hb => ⟨hb.1, by simp; omega⟩
    dF := d1
    dS := d2
    ne := by simp
    row := OwnG.nil _ _ _ _
    rx := fun a ha => by cases ha
    cln := rfl
    cls := fun j c g h1 _ => by cases h1
    fil := fun q f h => by cases h
    nd := List.Pairwise.nil
    sep := fun q f q' f' a a' h => by cases h
    idF := fun x q h => by cases h
    idS := fun x q h => by cases h
    idC := fun x q h => by cases h
    pl := .inl ⟨rfl, fun _ => rfl⟩
    few := by simp [newS] }

/-- How many of n the i-th number keeps. -/
def keptC (ks : List Int) (i : Nat) (n : Int) : Int := if i < ks.length then min (max (ks.getD i 0) 0) n else 0
theorem kept_any {w : World} {A : Option Addr} {m c : Nat} {ks : List Int} (h : RdG shZ w A m ks) (i : Nat) (n : Int) : Calls Try.prog 56 #[.slice A m c, .int .i64 i, .int .i64 n] w fun e w' => e = .returned (.int .i64 (keptC ks i n)) ∧ w' = w := by
  have hl := h.len
  by_cases hi : i < m
  · obtain ⟨b, o, x, rfl, hb, hx, hc⟩ := h.at_ hi
    have hc : w.cell? ⟨b, o + i, none⟩ = some (.int .i64 x) := by simpa [shZ] using hc 0 _ rfl
    have e1 : keptC ks i n = min (max x 0) n := by unfold keptC; rw [if_pos (by omega), List.getD, hx]; rfl
    rw [e1]
    clear h e1
    go_enter Try.func56, Try.ntmps56
    go_wp2
    go_ret
    exact ⟨rfl, rfl⟩
  · have e1 : keptC ks i n = 0 := by unfold keptC; rw [if_neg (by omega)]
    rw [e1]
    clear h e1
    go_enter Try.func56, Try.ntmps56
    go_wp2
    go_ret
    exact ⟨rfl, rfl⟩

end Go.Proofs.Ytjckfbpdnpehcaa
