/-
  Layer 14: a file found, read, measured.
-/
import Derived.Test.YtjckfbpdnpehcaaSLI
import Derived.Test.YtjckfbpdnpehcaaDKh
namespace Go.Proofs.Ytjckfbpdnpehcaa
open Go.RowKit Go.Maps Go.WideMaps
set_option maxRecDepth 100000

/-- A file's state by its number. -/
def fileD (S : DS) (q : Nat) : FS := ((S.fl.find? fun e => decide (e.1 = q)).map fun e => e.2).getD ⟨[], 0⟩
theorem fileD_mem {S : DS} (h : S.fl.Pairwise fun (a b : Nat × FS) => a.1 ≠ b.1) {q : Nat} {f : FS} (hf : (q, f) ∈ S.fl) : fileD S q = f := by
  unfold fileD
  cases hq : S.fl.find? fun e => decide (e.1 = q) with
  | none => exact absurd hf (by have := List.find?_eq_none.1 hq (q, f); simp at this; exact this)
  | some e =>
    obtain ⟨p, f'⟩ := e
    have h1 : p = q := by simpa using List.find?_some hq
    subst h1
    rw [one_of h hf (List.mem_of_find?_eq_some hq)]
    rfl

section
variable {w w' : World} {X : Nat → Prop} {base dp : Nat} {S : DS} {I : DI}
/-- The file that is read by this name. -/
def findC (S : DS) (x : List UInt8) : Option Nat × Int := if S.on = false then (none, 140) else match lkp S.files x with
  | some q => (some q, 0)
  | none => (none, 143)
theorem find_any (h : DK w X base dp S I) (x : List UInt8) (hx : x.length ≤ 140737488355328) : Calls Try.prog 58 #[.pointer (some ⟨dp, 0, none⟩), nm x] w fun e w' => e = .returned (.tuple #[ptrV (findC S x).1, .int .i64 (findC S x).2]) ∧ w' = w := by
  obtain ⟨c0, c1, c2, c3, c4, c5, c6⟩ := h.at_
  have lk := h.dF.look (x := x) (by unfold maxLen; omega)
  obtain ⟨R, hR⟩ : ∃ R, R = findC S x := ⟨_, rfl⟩
  rw [← hR]
  unfold findC at hR
  obtain ⟨on, hon⟩ : ∃ on, on = S.on := ⟨_, rfl⟩
  rw [← hon] at c6 hR
  obtain ⟨L, hL⟩ : ∃ L, L = lkp S.files x := ⟨_, rfl⟩
  rw [← hL] at lk hR
  clear h hon hL c0 c2 c3 c4 c5
  cases on with
  | false =>
    rw [if_pos rfl] at hR
    subst hR
    go_enter Try.func58, Try.ntmps58
    go_wp2
    go_ret2
    exact ⟨rfl, rfl⟩
  | true =>
    rw [if_neg (by decide)] at hR
    cases L with
    | none =>
      subst hR
      replace lk : (Instr.lookup 84 (.map (some I.F)) (nm x) false).run Try.prog w = .ok (.pointer none) w := lk
      go_enter Try.func58, Try.ntmps58
      go_wp2
      go_ret2
      exact ⟨rfl, rfl⟩
    | some q =>
      subst hR
      replace lk : (Instr.lookup 84 (.map (some I.F)) (nm x) false).run Try.prog w = .ok (.pointer (some ⟨q, 0, none⟩)) w := lk
      go_enter Try.func58, Try.ntmps58
      go_wp2
      go_ret2
      exact ⟨rfl, rfl⟩

def sizeC (S : DS) (x : List UInt8) : Nat × Int := match findC S x with
  | (some q, _) => ((fileD S q).data.length, 0)
  | (none, r) => (0, r)
theorem findC_mem (h : DK w X base dp S I) {x : List UInt8} {q : Nat} {r : Int} (hq : findC S x = (some q, r)) : r = 0 ∧ (q, fileD S q) ∈ S.fl := by
  unfold findC at hq
  split at hq
  · cases hq
  · split at hq
    · rename_i q' hl
      injection hq with h1 h2
      injection h1 with h1
      subst h1
      obtain ⟨_, f, hf⟩ := h.idF x q' hl
      exact ⟨h2.symm, by rw [fileD_mem h.nd hf]; exact hf⟩
    · cases hq
theorem findC_none {x : List UInt8} {r : Int} (hq : findC S x = (none, r)) : r = 140 ∨ r = 143 := by
  unfold findC at hq
  split at hq
  · injection hq with _ h; exact .inl h.symm
  · split at hq
    · cases hq
    · injection hq with _ h; exact .inr h.symm

theorem size_any (h : DK w X base dp S I) (x : List UInt8) (hx : x.length ≤ 140737488355328) : Calls Try.prog 16 #[.pointer (some ⟨dp, 0, none⟩), nm x] w fun e w' => e = .returned (.tuple #[.int .i64 ((sizeC S x).1 : Int), .int .i64 (sizeC S x).2]) ∧ w' = w := by
  have CF := Lib.hid (find_any h x hx)
  obtain ⟨⟨p, r⟩, hp⟩ : ∃ p, p = findC S x := ⟨_, rfl⟩
  have Hp := Lib.hid hp
  rw [← hp] at CF
  unfold sizeC
  rw [← hp]
  cases p with
  | none =>
    have hr := findC_none hp.symm
    clear h hp
    rcases hr with rfl | rfl
    all_goals
      replace CF : Hid (Calls Try.prog 58 #[.pointer (some ⟨dp, 0, none⟩), nm x] w fun e w' => e = .returned (.tuple #[.pointer none, .int .i64 _]) ∧ w' = w) := CF
      go_enter Try.func16, Try.ntmps16
      go_wp2_with fail
      refine CF.out.mono ?_
      rintro e w1 ⟨rfl, rfl⟩
      go_wp2
      go_ret2
      exact ⟨rfl, rfl⟩
  | some q =>
    obtain ⟨rfl, hf⟩ := findC_mem h hp.symm
    obtain ⟨k1, k2, k3⟩ := h.fil q _ hf
    have e0 : w.cell? ⟨q, 0, none⟩ = some (.slice (I.rows q) (fileD S q).data.length (I.caps q)) := cell_of_row w q 0 _ _ (0, 0) k1.blk
    obtain ⟨m, hm⟩ : ∃ m, m = (fileD S q).data.length := ⟨_, rfl⟩
    rw [← hm] at e0
    show Calls _ _ _ _ fun e w' => e = .returned (.tuple #[.int .i64 (((fileD S q).data.length : Nat) : Int), .int .i64 0]) ∧ w' = w
    rw [← hm]
    clear h hp hf k1 k2 k3 hm
    replace CF : Hid (Calls Try.prog 58 #[.pointer (some ⟨dp, 0, none⟩), nm x] w fun e w' => e = .returned (.tuple #[.pointer (some ⟨q, 0, none⟩), .int .i64 0]) ∧ w' = w) := CF
    go_enter Try.func16, Try.ntmps16
    go_wp2_with fail
    refine CF.out.mono ?_
    rintro e w1 ⟨rfl, rfl⟩
    go_wp2
    go_ret2
    exact ⟨rfl, rfl⟩

/-- What is read. -/
def readC (S : DS) (x : List UInt8) (a n : Int) : List Nat × Int := match findC S x with
  | (none, r) => ([], r)
  | (some q, _) => if a < 0 ∨ n < 0 then ([], 1) else if (((fileD S q).data.drop a.toNat).length : Int) < n then ([], 1) else (((fileD S q).data.drop a.toNat).take n.toNat, 0)

set_option maxHeartbeats 1600000 in
theorem read_any (h : DK w X base dp S I) (x : List UInt8) (a n : Int) (hx : x.length ≤ 140737488355328) (hf : Fit S 140737488355328) : Calls Try.prog 17 #[.pointer (some ⟨dp, 0, none⟩), nm x, .int .i64 a, .int .i64 n] w fun e w' => ∃ A c, e = .returned (.tuple #[.slice A (readC S x a n).1.length c, .int .i64 (readC S x a n).2]) ∧ Own .u8 5 w' w.heap.size A c (readC S x a n).1 ∧ Ext w w' := by
  have CF := Lib.hid (find_any h x hx)
  obtain ⟨⟨p, r⟩, hp⟩ : ∃ p, p = findC S x := ⟨_, rfl⟩
  rw [← hp] at CF
  obtain ⟨R, hR⟩ : ∃ R, R = readC S x a n := ⟨_, rfl⟩
  rw [← hR]
  unfold readC at hR
  rw [← hp] at hR
  cases p with
  | none =>
    have hr := findC_none hp.symm
    replace hR : R = ([], r) := hR
    subst hR
    clear h hp
    rcases hr with rfl | rfl
    all_goals
      replace CF : Hid (Calls Try.prog 58 #[.pointer (some ⟨dp, 0, none⟩), nm x] w fun e w' => e = .returned (.tuple #[.pointer none, .int .i64 _]) ∧ w' = w) := CF
      go_enter Try.func17, Try.ntmps17
      go_wp2_with fail
      refine CF.out.mono ?_
      rintro e w1 ⟨rfl, rfl⟩
      go_wp2
      go_ret2
      exact ⟨_, _, rfl, Own.nil _ _ _ _, Ext.refl _⟩
  | some q =>
    obtain ⟨rfl, hm⟩ := findC_mem h hp.symm
    obtain ⟨k1, k2, k3⟩ := h.fil q _ hm
    have hlen := hf.len q _ hm
    obtain ⟨bs, hbs⟩ : ∃ bs, bs = (fileD S q).data := ⟨_, rfl⟩
    have k1b := k1.blk
    have k1o := k1.own
    rw [← hbs] at k1b k1o hlen
    simp only [← hbs] at hR
    obtain ⟨A, hA⟩ : ∃ A, A = I.rows q := ⟨_, rfl⟩
    obtain ⟨c, hc⟩ : ∃ c, c = I.caps q := ⟨_, rfl⟩
    rw [← hA, ← hc] at k1b k1o
    obtain ⟨m, hmm⟩ : ∃ m, m = bs.length := ⟨_, rfl⟩
    rw [← hmm] at k1b
    have e0 : w.cell? ⟨q, 0, none⟩ = some (.slice A m c) := cell_of_row w q 0 _ _ (0, 0) k1b
    have hrd := k1o.rd
    rw [← hmm] at hrd hlen
    have hcap := k1o.cap
    rw [← hmm] at hcap
    have Hrd := Lib.hid hrd
    have Hmm := Lib.hid hmm
    clear h hp hm k1 k2 k3 k1b k1o hA hc hbs hf hrd
    replace CF : Hid (Calls Try.prog 58 #[.pointer (some ⟨dp, 0, none⟩), nm x] w fun e w' => e = .returned (.tuple #[.pointer (some ⟨q, 0, none⟩), .int .i64 0]) ∧ w' = w) := CF
    by_cases hneg : a < 0 ∨ n < 0
    · rw [if_pos hneg] at hR
      subst hR
      clear hmm
      by_cases ha : a < 0
      · clear hneg
        go_enter Try.func17, Try.ntmps17
        go_wp2_with fail
        refine CF.out.mono ?_
        rintro e w1 ⟨rfl, rfl⟩
        go_wp2
        go_ret2
        exact ⟨_, _, rfl, Own.nil _ _ _ _, Ext.refl _⟩
      · have hn : n < 0 := by omega
        clear hneg
        go_enter Try.func17, Try.ntmps17
        go_wp2_with fail
        refine CF.out.mono ?_
        rintro e w1 ⟨rfl, rfl⟩
        go_wp2
        go_ret2
        exact ⟨_, _, rfl, Own.nil _ _ _ _, Ext.refl _⟩
    · rw [if_neg hneg] at hR
      obtain ⟨k, rfl⟩ : ∃ k : Nat, a = (k : Int) := ⟨a.toNat, by omega⟩
      obtain ⟨l, rfl⟩ : ∃ l : Nat, n = (l : Int) := ⟨n.toNat, by omega⟩
      simp only [Int.toNat_natCast] at hR
      rw [List.length_drop, ← hmm] at hR
      obtain ⟨j, hj⟩ : ∃ j, j = min k m := ⟨_, rfl⟩
      have hjm : j ≤ m := by omega
      have hsl := run_from A m c j hjm
      have hmin : (min (k : Int) (m : Int)) = (j : Int) := by omega
      have Hdr : Hid (bs.drop k = bs.drop j) := Lib.hid (by
        rw [hj]
        by_cases hk : k ≤ m
        · rw [Nat.min_eq_left hk]
        · rw [Nat.min_eq_right (by omega), List.drop_eq_nil_of_le (by omega), List.drop_eq_nil_of_le (by omega)])
      have Hmk : Hid (m - k = m - j) := Lib.hid (by omega)
      rw [Hmk.out] at hR
      have hk0 : ¬ ((k : Int) < 0) := by omega
      have hl0 : ¬ ((l : Int) < 0) := by omega
      have Hr2 := Lib.hid (Hrd.out.offA (k := j) (m := c) hjm hcap.1)
      obtain ⟨A2, hA2⟩ : ∃ A2, A2 = offA A j c := ⟨_, rfl⟩
      rw [← hA2] at hsl Hr2
      rw [← hmin] at hsl
      obtain ⟨m2, hm2⟩ : ∃ m2, m2 = m - j := ⟨_, rfl⟩
      rw [← hm2] at hsl Hr2 hR
      obtain ⟨c2, hc2⟩ : ∃ c2, c2 = c - j := ⟨_, rfl⟩
      rw [← hc2] at hsl
      have hmc2 : m2 ≤ c2 := by omega
      have hm24 : m2 ≤ 140737488355328 := by omega
      have HR := Lib.hid hR
      clear hneg hmm hj hjm hmin hA2 hm2 hc2 hcap hlen hR
      by_cases hlt : (m2 : Int) < (l : Int)
      · have hR := HR.out
        rw [if_pos hlt] at hR
        subst hR
        go_enter Try.func17, Try.ntmps17
        go_wp2_with fail
        refine CF.out.mono ?_
        rintro e w1 ⟨rfl, rfl⟩
        go_wp2_with fail
        go_region
        all_goals
          go_wp2
          go_ret2
          exact ⟨_, _, rfl, Own.nil _ _ _ _, (Ext.refl _).drew⟩
      · have hR := HR.out
        rw [if_neg hlt] at hR
        rw [Hdr.out] at hR
        subst hR
        have hsl2 := run_upto .i64 A2 m2 c2 l (by omega)
        have hrt := Hr2.out.upto (k := l) (by omega)
        have hlen2 : ((bs.drop j).take l).length = l := hrt.len
        have CC : ∀ W, Ext w W → Hid (Calls Try.prog 59 #[.slice A2 l c2] W fun e w' => ∃ A' c', e = .returned (.slice A' l c') ∧ Own .u8 5 w' W.heap.size A' c' ((bs.drop j).take l) ∧ Ext W w') := fun W hW => Lib.hid (clone_any A2 l c2 _ W (hrt.ext hW) (by omega))
        have Hlen2 := Lib.hid hlen2
        clear hlen2 hrt HR
        go_enter Try.func17, Try.ntmps17
        go_wp2_with fail
        refine CF.out.mono ?_
        rintro e w1 ⟨rfl, rfl⟩
        go_wp2_with fail
        go_region
        all_goals
          go_wp2_with fail
          refine (CC _ (Ext.refl _).drew).out.mono ?_
          rintro e w2 ⟨A', c', rfl, ho, he⟩
          go_wp2
          go_ret2
          refine ⟨A', c', congrArg (fun z : Nat => Ending.returned (.tuple #[.slice A' z c', .int .i64 0])) Hlen2.out.symm, ho, ⟨he.os, he.tape, he.output, he.size, he.block⟩⟩
end

end Go.Proofs.Ytjckfbpdnpehcaa
