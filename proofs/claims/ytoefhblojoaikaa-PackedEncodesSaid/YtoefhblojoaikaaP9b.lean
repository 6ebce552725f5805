/-
  Layer 9: how far each number lies above the least; the program's distances.
-/
import Derived.Test.YtoefhblojoaikaaP9a
import Derived.Test.YtoefhblojoaikaaM8
import Derived.Test.YtoefhblojoaikaaB9p
namespace Go.Proofs.Ytoefhblojoaikaa
open Go.RowKit

theorem foldl_min_le (r : List Int) (x : Int) : r.foldl min x ≤ x ∧ ∀ v ∈ r, r.foldl min x ≤ v := by
  induction r generalizing x with
  | nil => exact ⟨Int.le_refl _, fun v hv => by cases hv⟩
  | cons y r ih =>
    obtain ⟨h1, h2⟩ := ih (min x y)
    refine ⟨by rw [List.foldl_cons]; omega, fun v hv => ?_⟩
    rw [List.foldl_cons]
    rcases List.mem_cons.1 hv with rfl | hv
    · omega
    · exact h2 v hv
theorem foldl_min_mem (r : List Int) (x : Int) : r.foldl min x = x ∨ r.foldl min x ∈ r := by
  induction r generalizing x with
  | nil => exact .inl rfl
  | cons y r ih =>
    rw [List.foldl_cons]
    rcases ih (min x y) with h | h
    · rcases Int.le_total x y with hxy | hxy
      · left; rw [h]; omega
      · right; rw [h, show min x y = y by omega]; simp
    · exact .inr (List.mem_cons_of_mem _ h)
theorem lo_le {xs : List Int} : ∀ v ∈ xs, lo xs ≤ v := by
  cases xs with
  | nil => intro v hv; cases hv
  | cons x r =>
    intro v hv
    rcases List.mem_cons.1 hv with rfl | hv
    · exact (foldl_min_le r v).1
    · exact (foldl_min_le r x).2 v hv
theorem lo_mem {xs : List Int} (h : 0 < xs.length) : lo xs ∈ xs := by
  cases xs with
  | nil => simp at h
  | cons x r =>
    rcases foldl_min_mem r x with h | h
    · show r.foldl min x ∈ x :: r
      rw [h]; simp
    · exact List.mem_cons_of_mem _ h

/-- How far each lies above l. -/
def dst (l : Int) (vs : List Int) : List Nat := vs.map fun v => (v - l).toNat
theorem dst_len (l : Int) (vs : List Int) : (dst l vs).length = vs.length := by simp [dst]
theorem dst_at {l : Int} {vs : List Int} {j : Nat} (h : j < vs.length) : (dst l vs).getD j 0 = (vs.getD j 0 - l).toNat := by simp [dst, List.getD, h]
theorem dst_u64 {l : Int} {vs : List Int} (hv : R64s vs) (hl : R64 l) : U64 (dst l vs) := by
  intro x hx
  obtain ⟨v, hvv, rfl⟩ := List.mem_map.1 hx
  have := hv v hvv
  unfold R64 at this hl
  omega

/-- The difference without a sign. -/
theorem wrap_dist {v l : Int} (hv : R64 v) (hl : R64 l) (h : l ≤ v) : IntKind.u64.wrap (IntKind.u64.wrap v - IntKind.u64.wrap l) = v - l := by
  simp only [IntKind.wrap_u64]
  unfold R64 at hv hl
  omega

theorem set_next {xs : List Nat} {n j : Nat} (hl : xs.length = n) (h : j < n) : (xs.take j ++ List.replicate (n - j) 0).set j (xs.getD j 0) = xs.take (j + 1) ++ List.replicate (n - (j + 1)) 0 := by
  have h1 : (xs.take j).length = j := by rw [List.length_take]; omega
  rw [List.set_append_right _ _ (by omega), h1, Nat.sub_self, show n - j = (n - (j + 1)) + 1 from by omega, List.replicate_succ, List.set_cons_zero, take_next xs j (by omega)]
  simp

set_option maxHeartbeats 1600000 in
theorem distances_any (l : Int) (A : Option Addr) (n c : Nat) (vs : List Int) (w : World) (hx : RdG shZ w A n vs) (hv : R64s vs) (hl : R64 l) (hle : ∀ v ∈ vs, l ≤ v) (hn : n ≤ 4096) :
    Calls Try.prog 52 #[.int .i64 l, .slice A n c] w fun e w' => ∃ A' c', e = .returned (.slice A' n c') ∧ Own .u64 58 w' w.heap.size A' c' (dst l vs) ∧ Ext w w' := by
  have Hl := Lib.hid hx.len
  obtain ⟨D, hD⟩ : ∃ D, D = dst l vs := ⟨_, rfl⟩
  rw [← hD]
  have HD := Lib.hid hD
  have HDl := Lib.hid (show D.length = n by rw [hD, dst_len]; exact Hl.out)
  have Hv := Lib.hid hv
  have Hle := Lib.hid hle
  have HL := Lib.hid hl
  clear hD hv hle hl
  go_enter Try.func52, Try.ntmps52
  go_wp2_with (refine wpList_mk .u64 58 rfl _ _ 75 rfl 8 Try.underlying75 Try.infoU64 .i64 .i64 n rfl rfl rfl rfl (by omega) (by omega) ?_; intro w1 hown1 he1)
  go_loopw [12] (fun i wr => ∃ j : Nat, j ≤ n ∧ i = .int .i64 j ∧ Own .u64 58 wr w.heap.size (some ⟨w.heap.size, 0, none⟩) n (D.take j ++ List.replicate (n - j) 0) ∧ Ext w wr) (fun i _ => n - (intOf i).toNat)
  case atStart => exact ⟨0, Nat.zero_le _, rfl, by simpa using hown1, he1⟩
  case round =>
    obtain ⟨j, hj, rfl, hown, hE⟩ := hrel
    by_cases hlt : j < n
    · obtain ⟨b, o, rfl, hbl, hc⟩ := (hx.ext hE).atZ hlt
      have hjl : j < (D.take j ++ List.replicate (n - j) 0).length := by rw [List.length_append, List.length_take, List.length_replicate, HDl.out]; omega
      obtain ⟨b', hA', hbb', hbl', hc', hf', hst⟩ := hown.at_ hjl
      injection hA' with hA'
      injection hA' with hA'
      subst hA'
      have hmem : vs.getD j 0 ∈ vs := by rw [List.getD, List.getElem?_eq_getElem (by have := Hl.out; omega)]; exact List.getElem_mem _
      have h64 := Hv.out _ hmem
      have hlev := Hle.out _ hmem
      have hDj := dst_at (l := l) (vs := vs) (j := j) (by have := Hl.out; omega)
      rw [← HD.out] at hDj
      obtain ⟨v, hve⟩ : ∃ v, v = vs.getD j 0 := ⟨_, rfl⟩
      rw [← hve] at hc h64 hlev hDj
      obtain ⟨x, hxe⟩ : ∃ x, x = D.getD j 0 := ⟨_, rfl⟩
      have hstep := set_next HDl.out hlt
      obtain ⟨hs1, hs2⟩ := hst x
      rw [hxe, hstep] at hs1
      rw [← hxe] at hDj
      have hw := wrap_dist h64 HL.out hlev
      rw [show v - l = (x : Int) by omega] at hw
      have Hs1 := Lib.hid hs1
      rw [← hxe] at Hs1
      have He := Lib.hid (hE.setCell (p := ⟨w.heap.size, j, none⟩) (Nat.le_refl _) (.int .u64 (x : Int)))
      obtain ⟨old, hold⟩ : ∃ v, v = Value.int .u64 (((D.take j ++ List.replicate (n - j) 0).getD j 0 : Nat) : Int) := ⟨_, rfl⟩
      rw [← hold] at hc'
      clear hold hs1 hs2 hst hown hE hxe hDj hstep hjl hmem h64 hlev hve
      go_wp2_with fail
      go_roundw
      case rel => exact ⟨j + 1, by omega, by go_num, Hs1.out, He.out⟩
      case measure => simp [intOf]; omega
    · obtain rfl : j = n := by omega
      rw [Nat.sub_self, List.replicate_zero, List.append_nil, List.take_of_length_le (by have := HDl.out; omega)] at hown
      go_wp2_with fail
      go_ret
      exact ⟨_, _, rfl, hown, hE⟩

end Go.Proofs.Ytoefhblojoaikaa
