import Derived.Test.YtjckfbpdnpehcaaA3
namespace Go.Proofs.Ytjckfbpdnpehcaa
open Go.RowKit

/-- The first j bytes spoiled. -/
def spoiled (j : Nat) (xs : List Nat) : List Nat := (xs.take j).map spl ++ xs.drop j
theorem spoiled_len (j : Nat) (xs : List Nat) : (spoiled j xs).length = xs.length := by simp [spoiled]; omega
theorem spoiled_zero (xs : List Nat) : spoiled 0 xs = xs := by simp [spoiled]
theorem spoiled_all (xs : List Nat) : spoiled xs.length xs = xs.map spl := by simp [spoiled]
theorem spoiled_at {j : Nat} {xs : List Nat} (h : j < xs.length) : (spoiled j xs).getD j 0 = xs.getD j 0 := by
  unfold spoiled
  rw [List.getD, List.getElem?_append_right (by simp; omega)]
  simp [List.getD, Nat.min_eq_left (Nat.le_of_lt h)]
theorem spoiled_succ {j : Nat} {xs : List Nat} (h : j < xs.length) : spoiled (j + 1) xs = (spoiled j xs).set j (spl (xs.getD j 0)) := by
  unfold spoiled
  rw [List.set_append_right _ _ (by simp; omega), take_next _ _ h]
  have hd : xs.drop j = xs.getD j 0 :: xs.drop (j + 1) := by rw [List.drop_eq_getElem_cons h]; simp [List.getD, h]
  rw [hd]
  simp [Nat.min_eq_left (Nat.le_of_lt h)]

set_option maxHeartbeats 400000 in
theorem spoil_any (A : Option Addr) (n c base : Nat) (xs : List Nat) (w : World) (hx : Own .u8 5 w base A c xs) (hl : xs.length = n) (hu : U8 xs) (hn : n ≤ 281474976710656) :
    Calls Try.prog 32 #[.slice A n c] w fun e w' => e = .returned (.tuple #[]) ∧ Own .u8 5 w' base A c (xs.map spl) ∧ w.grownBy w' (A.map (·.block)) := by
  have Hl := Lib.hid hl
  clear hl
  go_enter Try.func32, Try.ntmps32
  go_wp2
  go_loopw [2] (fun i wr => ∃ j : Nat, j ≤ n ∧ i = .int .i64 j ∧ Own .u8 5 wr base A c (spoiled j xs) ∧ w.grownBy wr (A.map (·.block))) (fun i _ => n - (intOf i).toNat)
  case atStart => exact ⟨0, Nat.zero_le _, rfl, by rw [spoiled_zero]; exact hx, World.grownBy.refl _ _⟩
  case round =>
    obtain ⟨j, hj, rfl, hown, hg⟩ := hrel
    by_cases hlt : j < n
    · have hjl : j < xs.length := by have := Hl.out; omega
      obtain ⟨b, rfl, hbb, hbl, hc, hf, hset⟩ := hown.at_ (show j < (spoiled j xs).length by rw [spoiled_len]; exact hjl)
      have hvb := hu.at_ j
      rw [spoiled_at hjl] at hc
      obtain ⟨h1, h2⟩ := hset (spl (xs.getD j 0))
      rw [← spoiled_succ hjl] at h1
      obtain ⟨v, hv⟩ : ∃ v, v = xs.getD j 0 := ⟨_, rfl⟩
      rw [← hv] at hc hvb h1 h2
      have hxor := spl_bits hvb
      have Hg := Lib.hid (World.grownBy.trans hg h2)
      have H1 := Lib.hid h1
      clear hv hset h1 h2 hg hown
      go_wp2
      go_roundw
      case rel => exact ⟨j + 1, by omega, by go_num, H1.out, Hg.out⟩
      case measure => simp [intOf]; omega
    · obtain rfl : j = n := by omega
      rw [← Hl.out, spoiled_all] at hown
      go_wp2
      go_end0
      exact ⟨rfl, hown, hg⟩

theorem mod256 {i : Nat} (h : i < 70) : IntKind.u8.wrap (i : Int) = (i : Int) := by rw [IntKind.wrap_u8']; omega

theorem same_yes {A A' : Option Addr} {n c n' c' : Nat} {xs : List Nat} {w : World} (hx : Rd .u8 w A n xs) (hy : Rd .u8 w A' n' xs) (hn : n ≤ 281474976710656) :
    Calls Try.prog 18 #[.slice A n c, .slice A' n' c'] w fun e w' => e = .returned (.bool true) ∧ ∃ q, w' = w.drewN q :=
  (same_any A A' n c n' c' xs xs w hx hy hn (by rw [← hy.len, hx.len]; exact hn)).mono fun e w' ⟨h1, h2⟩ => ⟨by rw [h1, decide_eq_true rfl], h2⟩

theorem turned_yes {A A' : Option Addr} {n c n' c' : Nat} {ys : List Nat} {w : World} (hx : Rd .u8 w A n (ys.map spl)) (hy : Rd .u8 w A' n' ys) (hu : U8 ys) (hn : n ≤ 281474976710656) :
    Calls Try.prog 76 #[.slice A n c, .slice A' n' c'] w fun e w' => e = .returned (.bool true) ∧ ∃ q, w' = w.drewN q :=
  (turned_any A A' n c n' c' (ys.map spl) ys w hx hy hu hn (by rw [← hy.len, ← List.length_map (f := spl), hx.len]; exact hn)).mono fun e w' ⟨h1, h2⟩ => ⟨by rw [h1, decide_eq_true rfl], h2⟩

theorem grownBy_ext {w0 w w' : World} {row : Option Nat} (h : Ext w0 w) (hg : w.grownBy w' row) (hr : ∀ g, row = some g → w0.heap.size ≤ g) : Ext w0 w' :=
  ⟨hg.os.trans h.os, hg.tape.trans h.tape, hg.output.trans h.output, Nat.le_trans h.size hg.size, fun i hi => (hg.block i (Nat.lt_of_lt_of_le hi h.size) (fun e => by have := hr i e.symm; omega)).trans (h.block i hi)⟩

theorem Rd.lt {k : IntKind} {w : World} {A : Option Addr} {n : Nat} {xs : List Nat} (h : Rd k w A n xs) (hn : 0 < n) : ∀ a, A = some a → a.block < w.heap.size := by
  obtain ⟨b, o, rfl, hb, _⟩ := h.2 hn
  intro a ha
  injection ha with ha
  subst ha
  exact hb

/-- A reading stays where the written row is another block (of an empty list nothing is asked). -/
theorem Rd.grown0 {k : IntKind} {w w' : World} {A : Option Addr} {n : Nat} {xs : List Nat} (h : Rd k w A n xs) {row : Option Nat} (hg : w.grownBy w' row) (hne : 0 < n → ∀ a, A = some a → some a.block ≠ row) : Rd k w' A n xs := by
  by_cases hn : 0 < n
  · exact h.grown hg (hne hn)
  · exact ⟨h.1, fun h0 => absurd h0 hn⟩

/-- What of the three lists stays while 70 bytes go behind the first: the first's own beginning, and what lies elsewhere. -/
structure Aside (w0 wr : World) (A A2 A3 A' : Option Addr) (n c' j base : Nat) (sx xs ys : List Nat) : Prop where
  own : Own .u8 5 wr base A' c' ys
  len : ys.length = n + j
  pre : ys.take n = sx
  rd1 : Rd .u8 wr A n sx
  rd2 : Rd .u8 wr A2 n xs
  rd3 : Rd .u8 wr A3 n xs
  ne1 : 0 < n → ∀ a a1, A' = some a → A = some a1 → a1 = a ∨ a1.block ≠ a.block
  ne2 : 0 < n → ∀ a a2, A' = some a → A2 = some a2 → a2.block ≠ a.block
  ne3 : 0 < n → ∀ a a3, A' = some a → A3 = some a3 → a3.block ≠ a.block
  ext : Ext w0 wr
  size : base ≤ wr.heap.size

theorem Aside.push {w0 wr w1 : World} {A A2 A3 A' A1 : Option Addr} {n c' c1 j base : Nat} {sx xs ys : List Nat} (h : Aside w0 wr A A2 A3 A' n c' j base sx xs ys) {x : Nat} (hbase : w0.heap.size ≤ base)
    (ho : Own .u8 5 w1 base A1 c1 (ys ++ [x])) (hw : A1 = A' ∧ wr.grownBy w1 (A'.map (·.block)) ∨ Ext wr w1 ∧ ∀ q, A1 = some q → wr.heap.size ≤ q.block) (hz : base ≤ w1.heap.size) :
    Aside w0 w1 A A2 A3 A1 n c1 (j + 1) base sx xs (ys ++ [x]) := by
  have hp : (ys ++ [x]).take n = sx := by rw [List.take_append_of_le_length (by have := h.len; omega)]; exact h.pre
  rcases hw with ⟨rfl, hg⟩ | ⟨he, hq⟩
  · have hne : ∀ {X : Option Addr}, (0 < n → ∀ a a2, A1 = some a → X = some a2 → a2.block ≠ a.block) → 0 < n → ∀ a, X = some a → some a.block ≠ A1.map (·.block) := by
      intro X hX hn a ha e
      cases hA : A1 with
      | none => rw [hA] at e; simp at e
      | some a1 => rw [hA] at e; simp at e; exact hX hn a1 a hA ha e
    refine ⟨ho, by have := h.len; simp; omega, hp, ?_, h.rd2.grown0 hg (hne h.ne2), h.rd3.grown0 hg (hne h.ne3), h.ne1, h.ne2, h.ne3, grownBy_ext h.ext hg ?_, hz⟩
    · by_cases hn : 0 < n
      · obtain ⟨b, o, hA, hb, _⟩ := h.rd1.2 hn
        obtain ⟨b', hA'⟩ := h.own.head (by have := h.len; omega)
        rcases h.ne1 hn _ _ hA' hA with e | e
        · have := ho.rd_take (n := n) (by have := h.len; simp; omega)
          rw [hp, hA', ← e, ← hA] at this
          exact this
        · exact h.rd1.grown hg (by rw [hA, hA']; rintro a ha; injection ha with ha; subst ha; simpa using e)
      · exact ⟨h.rd1.1, fun h0 => absurd h0 hn⟩
    · intro g hg'
      cases hA : A1 with
      | none => rw [hA] at hg'; simp at hg'
      | some a1 => rw [hA] at hg'; simp at hg'; subst hg'; exact Nat.le_trans hbase (h.own.block a1 hA).1
  · have hne : ∀ {X : Option Addr} {zs : List Nat}, Rd .u8 wr X n zs → 0 < n → ∀ a a2, A1 = some a → X = some a2 → a2.block ≠ a.block := by
      intro X zs hX hn a a2 ha ha2
      have h1 := hq a ha
      have h2 := hX.lt hn a2 ha2
      omega
    exact ⟨ho, by have := h.len; simp; omega, hp, h.rd1.ext he, h.rd2.ext he, h.rd3.ext he, fun hn a a1 ha ha1 => .inr (hne h.rd1 hn a a1 ha ha1), hne h.rd2, hne h.rd3, h.ext.trans he, hz⟩

/-- Both answers are as wanted and lie apart: Apart says so. 'a' is a row of the caller's own; what b and want read lies elsewhere. -/
theorem apart_any (A A2 A3 : Option Addr) (n c c2 c3 base : Nat) (xs : List Nat) (w0 w : World) (hx : Own .u8 5 w base A c xs) (hl : xs.length = n) (hu : U8 xs)
    (hy : Rd .u8 w A2 n xs) (hz : Rd .u8 w A3 n xs) (ne2 : ∀ a a2, A = some a → A2 = some a2 → a2.block ≠ a.block) (ne3 : ∀ a a3, A = some a → A3 = some a3 → a3.block ≠ a.block)
    (hE : Ext w0 w) (hbase : w0.heap.size ≤ base) (hbw : base ≤ w.heap.size) (hn : n + 70 ≤ 180000000000000) :
    Calls Try.prog 42 #[.slice A n c, .slice A2 n c2, .slice A3 n c3] w fun e w' => e = .returned (.bool true) ∧ Ext w0 w' := by
  have Hl := Lib.hid hl
  clear hl
  have hx1 := hx.rd' Hl.out
  go_enter Try.func42, Try.ntmps42
  go_wp2_with fail
  refine (same_yes hx1 hz (by omega)).mono ?_
  rintro e w1 ⟨rfl, q1, rfl⟩
  go_wp2_with fail
  refine (same_yes (hy.drewN q1) (hz.drewN q1) (by omega)).mono ?_
  rintro e w1 ⟨rfl, q2, rfl⟩
  go_wp2_with fail
  refine (spoil_any A n c base xs _ (hx.ext ((Ext.refl _).drewN _)) Hl.out hu (by omega)).mono ?_
  rintro e w2 ⟨rfl, hx2, hg2⟩
  go_wp2_with fail
  have hsp : (xs.map spl).length = n := by rw [List.length_map, Hl.out]
  have hE2 : Ext w0 w2 := grownBy_ext (hE.drewN _) hg2 (by
    intro g hg
    cases hA : A with
    | none => rw [hA] at hg; simp at hg
    | some a => rw [hA] at hg; simp at hg; subst hg; exact Nat.le_trans hbase (hx.block a hA).1)
  have hne : ∀ {X : Option Addr}, (∀ a a2, A = some a → X = some a2 → a2.block ≠ a.block) → 0 < n → ∀ a, X = some a → some a.block ≠ A.map (·.block) := by
    intro X hX hn a ha e
    cases hA : A with
    | none => rw [hA] at e; simp at e
    | some a1 => rw [hA] at e; simp at e; exact hX a1 a hA ha e
  have h0 : ∃ ys, Aside w0 w2 A A2 A3 A n c 0 base (xs.map spl) xs ys := ⟨xs.map spl, hx2, hsp, List.take_of_length_le (Nat.le_of_eq hsp), hx2.rd' hsp, (hy.drewN (q1 + q2)).grown0 hg2 (hne ne2), (hz.drewN (q1 + q2)).grown0 hg2 (hne ne3), fun _ a a1 ha ha1 => .inl (by rw [ha] at ha1; injection ha1 with h; exact h.symm), fun _ => ne2, fun _ => ne3, hE2, by have := hg2.size; simp at this; omega⟩
  clear hx2 hg2 hE2 hne hx1
  have Hb := Lib.hid hbase
  clear hbase
  go_loopw [7, 8] (fun v i wr => ∃ (j : Nat) (A' : Option Addr) (c' : Nat) (ys : List Nat), j ≤ 70 ∧ i = .int .i64 j ∧ v = .slice A' (n + j : Nat) c' ∧ Aside w0 wr A A2 A3 A' n c' j base (xs.map spl) xs ys) (fun _ i _ => 70 - (intOf i).toNat)
  case atStart => obtain ⟨ys, h0⟩ := h0; exact ⟨0, _, _, ys, Nat.zero_le _, rfl, rfl, h0⟩
  case round =>
    clear h0
    obtain ⟨j, A', c', ys, hj, rfl, rfl, has⟩ := hrel
    have hsz := has.size
    by_cases hlt : j < 70
    · have hm := mod256 hlt
      have Hown := Lib.hid has.own
      have Hlen := Lib.hid has.len
      have Has := Lib.hid has
      clear has
      go_wp2_with (at_builtin; refine wpList_push2 .u8 j 5 rfl _ _ 22 rfl _ 1 Try.underlying22 Try.infoU8 rfl Hown.out (n + j) Hlen.out rfl rfl rfl (by omega) (by omega) hsz ?_; intro A1 c1 w1 hown1 hw1 hz1)
      have Hn := Lib.hid (Has.out.push Hb.out hown1 hw1 hz1)
      clear hown1 hw1 hz1
      go_wp2
      go_roundw
      case rel => exact ⟨j + 1, A1, c1, _, by omega, by go_num, rfl, Hn.out⟩
      case measure => simp [intOf]; omega
    · obtain rfl : j = 70 := by omega
      have hr1 := has.rd1
      have hr2 := has.rd2
      have hr3 := has.rd3
      have he := has.ext
      clear has
      go_wp2_with fail
      refine (turned_yes hr1 hr3 hu (by omega)).mono ?_
      rintro e w3 ⟨rfl, q3, rfl⟩
      go_wp2_with fail
      refine (same_yes (hr2.drewN q3) (hr3.drewN q3) (by omega)).mono ?_
      rintro e w3 ⟨rfl, q4, rfl⟩
      go_wp2_with fail
      go_ret
      exact ⟨rfl, he.drewN _⟩

end Go.Proofs.Ytjckfbpdnpehcaa
