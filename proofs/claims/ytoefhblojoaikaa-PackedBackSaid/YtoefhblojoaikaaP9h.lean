/-
  Layer 9: the document's Decode.
-/
import Derived.Test.YtoefhblojoaikaaP9e
import Derived.Test.YtoefhblojoaikaaR8e
namespace Go.Proofs.Ytoefhblojoaikaa
open Go.RowKit

theorem hiN_mem {xs : List Nat} (h : 0 < xs.length) : hiN xs ∈ xs := by
  have key : ∀ (r : List Nat) (x : Nat), r.foldl max x = x ∨ r.foldl max x ∈ r := by
    intro r
    induction r with
    | nil => intro x; exact .inl rfl
    | cons z r ih =>
      intro x
      rw [List.foldl_cons]
      rcases ih (max x z) with h | h
      · rcases Nat.le_total x z with hxz | hxz
        · right; rw [h, Nat.max_eq_right hxz]; simp
        · left; rw [h]; omega
      · exact .inr (List.mem_cons_of_mem _ h)
  cases xs with
  | nil => simp at h
  | cons x r =>
    rcases key r x with h | h
    · show r.foldl max x ∈ x :: r
      rw [h]; simp
    · exact List.mem_cons_of_mem _ h
theorem loN_zero {xs : List Nat} (h : 0 < xs.length) : loN xs = 0 ↔ 0 ∈ xs := by
  have key : ∀ (r : List Nat) (x : Nat), r.foldl min x = 0 ↔ x = 0 ∨ 0 ∈ r := by
    intro r
    induction r with
    | nil => intro x; simp
    | cons z r ih =>
      intro x
      rw [List.foldl_cons, ih, List.mem_cons]
      constructor
      · rintro (h | h)
        · rcases Nat.le_total x z with hxz | hxz
          · left; omega
          · right; left; omega
        · exact .inr (.inr h)
      · rintro (h | h | h)
        · left; omega
        · left; omega
        · exact .inr h
  cases xs with
  | nil => simp at h
  | cons x r => exact (key r x).trans (by rw [List.mem_cons]; constructor <;> (rintro (h | h); exact .inl h.symm; exact .inr h))

/-- What above answers. -/
def aboveF (l : Int) (far : List Nat) : List Int × Int := if ∀ x ∈ far, (x : Int) ≤ 9223372036854775807 - l then (if 0 ∈ far then (above l far, 0) else ([], 5)) else ([], 5)
theorem only_above {l wd : Int} {far : List Nat} (hn : 0 < far.length) : (if onlyF l wd far = true then (above l far, (0 : Int)) else ([], 5)) = if (wdt far : Int) = wd then aboveF l far else ([], 5) := by
  unfold onlyF aboveF
  by_cases h1 : (wdt far : Int) = wd
  · rw [if_pos h1, decide_eq_true h1]
    have e2 : (∀ x ∈ far, (x : Int) ≤ 9223372036854775807 - l) ↔ (hiN far : Int) ≤ 9223372036854775807 - l := by
      constructor
      · intro h; exact h _ (hiN_mem hn)
      · intro h x hx; have := le_hiN x hx; omega
    by_cases h2 : 0 ∈ far
    · rw [decide_eq_true ((loN_zero hn).2 h2), if_pos h2]
      by_cases h3 : (hiN far : Int) ≤ 9223372036854775807 - l
      · rw [decide_eq_true h3, if_pos (e2.2 h3)]; rfl
      · rw [decide_eq_false h3, if_neg (fun h => h3 (e2.1 h))]; rfl
    · rw [decide_eq_false (fun h => h2 ((loN_zero hn).1 h)), if_neg h2]
      simp
  · rw [if_neg h1, decide_eq_false h1]; rfl

theorem wrap_over {l : Int} {x : Nat} (hl : R64 l) (hx : x < 18446744073709551616) (h : ¬ (x : Int) ≤ 9223372036854775807 - l) : IntKind.i64.wrap (IntKind.u64.wrap (IntKind.u64.wrap l + (x : Int))) = l + (x : Int) - 18446744073709551616 := by
  simp only [IntKind.wrap_u64, IntKind.wrap_i64]
  unfold R64 at hl
  omega

set_option maxHeartbeats 3200000 in
theorem above_any (l : Int) (A : Option Addr) (n c : Nat) (far : List Nat) (w : World) (hl : R64 l) (hx : Rd .u64 w A n far) (hu : U64 far) (hn : n ≤ 4096) :
    Calls Try.prog 61 #[.int .i64 l, .slice A n c] w (Dec9Post (aboveF l far) w) := by
  have Hl := Lib.hid hx.len
  obtain ⟨R, hR⟩ : ∃ R, R = aboveF l far := ⟨_, rfl⟩
  rw [← hR]
  unfold aboveF at hR
  have HR := Lib.hid hR
  have HL := Lib.hid hl
  have Hu := Lib.hid hu
  have HAl := Lib.hid (above_len l far)
  have HAj := Lib.hid (show ∀ j, j < far.length → (above l far).getD j 0 = l + (far.getD j 0 : Int) from fun j hj => by simp [above, List.getD, hj])
  obtain ⟨D, hD⟩ : ∃ D, D = above l far := ⟨_, rfl⟩
  rw [← hD] at HR HAl HAj
  clear hR hl hu hD
  go_enter Try.func61, Try.ntmps61
  go_wp2_with fail
  go_loopw [6, 7, 8] (fun y z i wr => ∃ (j : Nat) (zb : Bool) (A' : Option Addr) (c' : Nat), j ≤ n ∧ i = .int .i64 j ∧ z = .bool zb ∧ y = .slice A' j c' ∧ OwnG shZ 2 wr w.heap.size A' c' (D.take j) ∧ Hid ((∀ x ∈ far.take j, (x : Int) ≤ 9223372036854775807 - l) ∧ (zb = true ↔ 0 ∈ far.take j)) ∧ Below w.heap.size w wr) (fun _ _ i _ => n - (intOf i).toNat)
  case atStart => exact ⟨0, false, _, _, Nat.zero_le _, rfl, rfl, rfl, OwnG.made _ _ _ (Nat.le_refl _), Lib.hid ⟨fun x hx => absurd hx (by simp), by simp⟩, (Ext.refl w).alloc _⟩
  case round =>
    obtain ⟨j, zb, A', c', hj, rfl, rfl, rfl, hown, HI, hb⟩ := hrel
    have hz : w.heap.size ≤ wr.heap.size := hb.size
    by_cases hlt : j < n
    · obtain ⟨b, o, rfl, hbl, hc⟩ := (hx.ext hb).at_ hlt
      have hjf : j < far.length := by have := Hl.out; omega
      have hx64 := Hu.out.at_ j
      have htk := take_next far j hjf
      have hDj := HAj.out j hjf
      have htkD := take_nextG D j (x := D.getD j 0) (by rw [List.getD, List.getElem?_eq_getElem (by have := HAl.out; omega)]; rfl)
      have hmem : far.getD j 0 ∈ far := mem_getD hjf
      obtain ⟨x, hxe⟩ : ∃ x, x = far.getD j 0 := ⟨_, rfl⟩
      obtain ⟨v, hve⟩ : ∃ v, v = D.getD j 0 := ⟨_, rfl⟩
      rw [← hxe] at hc hx64 htk hDj hmem
      rw [← hve] at hDj htkD
      by_cases hin : (x : Int) ≤ 9223372036854775807 - l
      · have hwa := wrap_above HL.out hin
        rw [← hDj] at hwa
        have hvl : decide (v < l) = false := decide_eq_false (by omega)
        have hv64 : R64 v := by have := HL.out; unfold R64 at this ⊢; omega
        have hwd := wrap_dist hv64 HL.out (show l ≤ v by omega)
        rw [show v - l = (x : Int) by omega] at hwd
        have htl : (D.take j).length = j := by rw [List.length_take, HAl.out]; omega
        have Htl := Lib.hid htl
        have HtkD := Lib.hid htkD
        have i1 : ∀ y ∈ far.take (j + 1), (y : Int) ≤ 9223372036854775807 - l := by
          intro y hy
          rw [htk] at hy
          rcases List.mem_append.1 hy with h | h
          · exact HI.out.1 y h
          · simp at h; omega
        have i2 : ∀ zb' : Bool, (zb' = true ↔ (zb = true ∨ x = 0)) → (zb' = true ↔ 0 ∈ far.take (j + 1)) := by
          intro zb' h
          rw [h, HI.out.2, htk, List.mem_append, List.mem_singleton]
          constructor
          · rintro (h | h)
            · exact .inl h
            · exact .inr h.symm
          · rintro (h | h)
            · exact .inl h
            · exact .inr h.symm
        have HI2 := Lib.hid (And.intro i1 i2)
        clear i1 i2
        have Hb := Lib.hid hb
        have Ho := Lib.hid hown
        have hE1 : ∀ o, Ext wr (wr.alloc o) := fun o => (Ext.refl _).alloc o
        clear htl htkD hxe hve hx64 htk hDj hmem hin hv64 hown hb HI
        by_cases hx0 : x = 0
        · have hk0 : ((x : Int) == 0) = true := by simpa using hx0
          have Hx0 := Lib.hid hx0
          clear hx0
          go_wp2_with (at_builtin; refine wpList_pushG (w0 := w) (base := w.heap.size) shZ v 2 rfl _ _ 22 rfl _ 8 Try.underlying22 Try.infoI64 rfl (by decide) (Ho.out.ext (hE1 _)) j Htl.out rfl rfl (heap_alloc_new _ _) (by omega) (by omega) (Below.alloc Hb.out hz _) (by simp; omega) ?_; intro A1 c1 w1 hown1 _ hb1 hz1)
          go_roundw
          case rel => exact ⟨j + 1, true, A1, c1, by omega, by go_num, rfl, rfl, by rw [HtkD.out]; exact hown1, Lib.hid ⟨HI2.out.1, HI2.out.2 true (by simp [Hx0.out])⟩, hb1⟩
          case measure => simp [intOf]; omega
        · have hk0 : ((x : Int) == 0) = false := by rw [beq_eq_false_iff_ne]; omega
          go_wp2_with (at_builtin; refine wpList_pushG (w0 := w) (base := w.heap.size) shZ v 2 rfl _ _ 22 rfl _ 8 Try.underlying22 Try.infoI64 rfl (by decide) (Ho.out.ext (hE1 _)) j Htl.out rfl rfl (heap_alloc_new _ _) (by omega) (by omega) (Below.alloc Hb.out hz _) (by simp; omega) ?_; intro A1 c1 w1 hown1 _ hb1 hz1)
          go_roundw
          case rel => exact ⟨j + 1, zb, A1, c1, by omega, by go_num, rfl, rfl, by rw [HtkD.out]; exact hown1, Lib.hid ⟨HI2.out.1, HI2.out.2 zb (by simp [hx0])⟩, hb1⟩
          case measure => simp [intOf]; omega
      · have hwo := wrap_over HL.out hx64 hin
        have hvl : l + (x : Int) - 18446744073709551616 < l := by omega
        obtain ⟨v2, hv2⟩ : ∃ v2, v2 = l + (x : Int) - 18446744073709551616 := ⟨_, rfl⟩
        rw [← hv2] at hwo hvl
        have HE := Lib.hid (show R = ([], 5) by rw [HR.out, if_neg (fun h => hin (h x hmem))])
        clear hv2 hxe hve hx64 htk hDj hmem hin htkD HR
        go_wp2_with fail
        go_ret2
        exact ⟨none, 0, by rw [HE.out]; rfl, by rw [HE.out]; exact OwnG.nil _ _ _ _, hb⟩
    · obtain rfl : j = n := by omega
      rw [List.take_of_length_le (by have := HAl.out; have := Hl.out; omega)] at hown
      have hI := HI.out
      rw [List.take_of_length_le (by have := Hl.out; omega)] at hI
      have HDl := Lib.hid (show D.length = j by rw [HAl.out]; exact Hl.out)
      cases zb with
      | true =>
        have HE := Lib.hid (show R = (D, 0) by rw [HR.out, if_pos hI.1, if_pos (hI.2.1 rfl)])
        clear hI HI HR
        go_wp2_with fail
        go_ret2
        refine ⟨A', c', ?_, by rw [HE.out]; exact hown, hb⟩
        rw [HE.out]
        show _ = Ending.returned (.tuple #[.slice A' D.length c', .int .i64 0])
        rw [HDl.out]
        rfl
      | false =>
        have HE := Lib.hid (show R = ([], 5) by rw [HR.out, if_pos hI.1, if_neg (fun h => by have := hI.2.2 h; cases this)])
        clear hI HI HR
        go_wp2_with fail
        go_ret2
        exact ⟨none, 0, by rw [HE.out]; rfl, by rw [HE.out]; exact OwnG.nil _ _ _ _, hb⟩

end Go.Proofs.Ytoefhblojoaikaa
