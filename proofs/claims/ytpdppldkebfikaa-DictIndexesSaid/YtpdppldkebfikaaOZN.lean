/-
  Layer 10: lists of bytes as wanted, and memory apart from one another, where rows were made of strings.
-/
import Derived.Test.YtpdppldkebfikaaOZ
import Derived.Test.YtpdppldkebfikaaZF
namespace Go.Proofs.Ytpdppldkebfikaa
open Go.RowKit

set_option maxHeartbeats 400000 in
theorem spoilZ_any (A : Option Addr) (n c base : Nat) (xs : List Nat) (w : World) (hx : OwnZ w base A c xs) (hl : xs.length = n) (hu : U8 xs) (hn : n ≤ 281474976710656) :
    Calls Try.prog 42 #[.slice A n c] w fun e w' => e = .returned (.tuple #[]) ∧ OwnZ w' base A c (xs.map spl) ∧ w.grownBy w' (A.map (·.block)) := by
  have Hl := Lib.hid hl
  clear hl
  go_enter Try.func42, Try.ntmps42
  go_wp2
  go_loopw [2] (fun i wr => ∃ j : Nat, j ≤ n ∧ i = .int .i64 j ∧ OwnZ wr base A c (spoiled j xs) ∧ w.grownBy wr (A.map (·.block))) (fun i _ => n - (intOf i).toNat)
  case atStart => exact ⟨0, Nat.zero_le _, rfl, by rw [spoiled_zero]; exact hx, World.grownBy.refl _ _⟩
  case round =>
    obtain ⟨j, hj, rfl, hown, hg⟩ := hrel
    by_cases hlt : j < n
    · have hjl : j < xs.length := by have := Hl.out; omega
      obtain ⟨b, rfl, hbb, hbl, hc, hf, hset⟩ := hown.at_ (show j < (spoiled j xs).length by rw [spoiled_len]; exact hjl)
      have hvb := hu.at_ j
      rw [spoiled_at hjl] at hc
      obtain ⟨h1, h2⟩ := hset (spl (xs.getD j 0))
      rw [← spoiled_succ hjl] at h1
      obtain ⟨v, hv⟩ : ∃ v, v = xs.getD j 0 := ⟨_, rfl⟩
      rw [← hv] at hc hvb h1 h2
      have hxor := spl_bits hvb
      have Hg := Lib.hid (World.grownBy.trans hg h2)
      have H1 := Lib.hid h1
      clear hv hset h1 h2 hg hown
      go_wp2
      go_roundw
      case rel => exact ⟨j + 1, by omega, by go_num, H1.out, Hg.out⟩
      case measure => simp [intOf]; omega
    · obtain rfl : j = n := by omega
      rw [← Hl.out, spoiled_all] at hown
      go_wp2
      go_end0
      exact ⟨rfl, hown, hg⟩

/-- The first i slices are spoiled. -/
def Zt2 (wr : World) (ss : List Sl) (i : Nat) : Prop :=
  ∀ (j : Nat) (s : Sl), ss[j]? = some s → (j < i → OwnZ wr 0 s.A s.c (s.body.map spl)) ∧ (i ≤ j → OwnZ wr 0 s.A s.c s.body)

theorem Zt2.step {wr w' : World} {ss : List Sl} {i : Nat} {s : Sl} (h : Zt2 wr ss i) (hun : Unlike ss) (hs : ss[i]? = some s) (ho : OwnZ w' 0 s.A s.c (s.body.map spl)) (hg : wr.grownBy w' (s.A.map (·.block))) : Zt2 w' ss (i + 1) := by
  have hne : ∀ (j : Nat) (t : Sl), ss[j]? = some t → j ≠ i → ∀ a, t.A = some a → some a.block ≠ s.A.map (·.block) := by
    intro j t ht hji a ha e
    cases hA : s.A with
    | none => rw [hA] at e; simp at e
    | some p => rw [hA] at e; simp at e; exact hun j i t s ht hs hji a p ha hA e
  intro j t ht
  constructor
  · intro hj
    by_cases hji : j = i
    · subst hji
      rw [hs] at ht
      injection ht with ht
      subst ht
      exact ho
    · exact ((h j t ht).1 (by omega)).grown hg (hne j t ht hji)
  · intro hj
    exact ((h j t ht).2 (by omega)).grown hg (hne j t ht (by omega))

/-- All slices read as spoiled; those from i on may be written. -/
def Zt3 (wr : World) (ss : List Sl) (i : Nat) : Prop :=
  ∀ (j : Nat) (s : Sl), ss[j]? = some s → Rd .u8 wr s.A s.body.length (s.body.map spl) ∧ (i ≤ j → OwnZ wr 0 s.A s.c (s.body.map spl))

/-- While bytes go behind the i-th slice. -/
structure Zt4 (w wr : World) (ss : List Sl) (i : Nat) (s : Sl) (A' : Option Addr) (c' k : Nat) (ys : List Nat) : Prop where
  own : OwnZ wr 0 A' c' ys
  len : ys.length = s.body.length + k
  pre : ys.take s.body.length = s.body.map spl
  at_ : ∀ p, A' = some p → s.A = some p ∨ w.heap.size ≤ p.block
  rest : Zt3 wr ss (i + 1)
  kept : Kept w wr ss

theorem Zt4.push {w wr w1 : World} {ss : List Sl} {i c' c1 k x : Nat} {s : Sl} {A' A1 : Option Addr} {ys : List Nat} (h : Zt4 w wr ss i s A' c' k ys) (hun : Unlike ss) (hs : ss[i]? = some s)
    (hlt : ∀ t ∈ ss, ∀ p, t.A = some p → p.block < w.heap.size)
    (ho : OwnZ w1 0 A1 c1 (ys ++ [x])) (hw : A1 = A' ∧ wr.grownBy w1 (A'.map (·.block)) ∨ Ext wr w1 ∧ ∀ q, A1 = some q → wr.heap.size ≤ q.block) :
    Zt4 w w1 ss i s A1 c1 (k + 1) (ys ++ [x]) := by
  have hp : (ys ++ [x]).take s.body.length = s.body.map spl := by rw [List.take_append_of_le_length (by have := h.len; omega)]; exact h.pre
  have hl : (ys ++ [x]).length = s.body.length + (k + 1) := by have := h.len; simp; omega
  rcases hw with ⟨rfl, hg⟩ | ⟨he, hq⟩
  · have hne : ∀ (j : Nat) (t : Sl), ss[j]? = some t → j ≠ i → ∀ a, t.A = some a → some a.block ≠ A1.map (·.block) := by
      intro j t ht hji a ha e
      cases hA : A1 with
      | none => rw [hA] at e; simp at e
      | some p =>
        rw [hA] at e
        simp at e
        rcases h.at_ p hA with h1 | h1
        · exact hun j i t s ht hs hji a p ha h1 e
        · have := hlt t (List.mem_of_getElem? ht) a ha
          omega
    refine ⟨ho, hl, hp, h.at_, fun j t ht => ?_, h.kept.grown hg ?_⟩
    · refine ⟨?_, fun hj => ((h.rest j t ht).2 hj).grown hg (hne j t ht (by omega))⟩
      by_cases hji : j = i
      · subst hji
        rw [hs] at ht
        injection ht with ht
        subst ht
        by_cases h0 : 0 < s.body.length
        · obtain ⟨b, o, hA, hb, _⟩ := (h.rest j s hs).1.2 h0
          obtain ⟨b', hA'⟩ := h.own.head (by have := h.len; omega)
          rcases h.at_ _ hA' with e | e
          · have := ho.rd_take (n := s.body.length) (by omega)
            rw [hp, hA', ← e] at this
            exact this
          · refine (h.rest j s hs).1.grown hg ?_
            intro a ha e2
            rw [hA'] at e2
            simp at e2
            have h3 := hlt s (List.mem_of_getElem? hs) a ha
            have h4 : w.heap.size ≤ b' := e
            omega
        · exact ⟨(h.rest j s hs).1.1, fun q => absurd q h0⟩
      · exact (h.rest j t ht).1.grown hg (hne j t ht hji)
    · intro g hg'
      cases hA : A1 with
      | none => rw [hA] at hg'; simp at hg'
      | some p =>
        rw [hA] at hg'
        simp at hg'
        subst hg'
        rcases h.at_ p hA with h1 | h1
        · exact .inr ⟨s, List.mem_of_getElem? hs, p, h1, rfl⟩
        · exact .inl h1
  · exact ⟨ho, hl, hp, fun p hp => .inr (Nat.le_trans h.kept.size (hq p hp)), fun j t ht => ⟨(h.rest j t ht).1.ext he, fun hj => ((h.rest j t ht).2 hj).ext he⟩, h.kept.ext he⟩

theorem Zt3.next {wr : World} {ss : List Sl} {i : Nat} (h : Zt3 wr ss i) : Zt3 wr ss (i + 1) := fun j s hs => ⟨(h j s hs).1, fun hj => (h j s hs).2 (by omega)⟩
theorem Zt2.all {wr : World} {ss : List Sl} {n : Nat} (h : Zt2 wr ss n) (hn : ss.length = n) : Zt3 wr ss 0 := fun j s hs => by
  have hj : j < n := by rw [← hn]; exact (List.getElem?_eq_some_iff.1 hs).1
  have ho := (h j s hs).1 hj
  exact ⟨ho.rd' (by rw [List.length_map]), fun _ => ho⟩

set_option maxHeartbeats 1600000 in
theorem apartAllZ_any (A A' : Option Addr) (n c c' : Nat) (ss ts : List Sl) (w : World) (hx : RdL w A n ss) (hy : RdL w A' n ts) (hb : ss.map Sl.body = ts.map Sl.body) (hn : n ≤ 1048576)
    (hs : ∀ s ∈ ss, OwnZ w 0 s.A s.c s.body) (hu : ∀ s ∈ ss, U8 s.body) (hl : ∀ s ∈ ss, s.body.length ≤ 1048576) (ht : ∀ t ∈ ts, Rd .u8 w t.A t.body.length t.body) (hun : Unlike ss)
    (hfx : 0 < n → Far ss A) (hfy : 0 < n → Far ss A') (hft : ∀ t ∈ ts, 0 < t.body.length → Far ss t.A) :
    Calls Try.prog 17 #[.slice A n c, .slice A' n c'] w fun e w' => e = .returned (.bool true) ∧ Kept w w' ss := by
  have hblt : ∀ t ∈ ss, ∀ p, t.A = some p → p.block < w.heap.size := fun t ht p hp => ((hs t ht).block p hp).2
  have hpair : ∀ (j : Nat) (s t : Sl), ss[j]? = some s → ts[j]? = some t → t.body = s.body := by
    intro j s t h1 h2
    have e1 := congrArg (fun l : List (List Nat) => l[j]?) hb
    simp only [List.getElem?_map, h1, h2, Option.map_some] at e1
    injection e1 with e1
    exact e1.symm
  have Hl := Lib.hid hx.1
  clear hb
  go_enter Try.func17, Try.ntmps17
  go_wp2
  go_loopw [5] (fun i wr => ∃ j q : Nat, j ≤ n ∧ i = .int .i64 j ∧ wr = w.drewN q) (fun i _ => n - (intOf i).toNat)
  case atStart => exact ⟨0, 0, Nat.zero_le _, rfl, rfl⟩
  case round =>
    obtain ⟨j, q, hj, rfl, hw⟩ := hrel
    have hE : Ext w wr := by rw [hw]; exact (Ext.refl w).drewN q
    have hK : Kept w wr ss := (Kept.refl w ss).ext hE
    have Hw := Lib.hid hw
    clear hw
    by_cases hlt : j < n
    · obtain ⟨b, o, s, rfl, hf, h1⟩ := (hx.kept hK hfx).at_ hlt
      obtain ⟨b', o', t, rfl, hg, g1⟩ := (hy.kept hK hfy).at_ hlt
      have hbb := hpair j s t hf hg
      have h3 := ((hs s (List.mem_of_getElem? hf)).rd).ext hE
      have g3 := (ht t (List.mem_of_getElem? hg)).ext hE
      have hbf := hl s (List.mem_of_getElem? hf)
      rw [hbb] at g1 g3
      obtain ⟨sA, sc, body⟩ := s
      obtain ⟨tA, tc, tbody⟩ := t
      simp only at h1 h3 g1 g3 hbf
      clear hbb hf hg
      have hji : (j : Int) < (n : Int) := by omega
      have hbf2 : body.length ≤ 281474976710656 := by omega
      go_wp2_with fail
      go_quiet ((go_at_call 25; exact Calls.quiet_of (same_yes (h3.drewN _) (g3.drewN _) hbf2)))
      go_wp2
      go_roundw
      case rel => exact ⟨j + 1, _, by omega, by go_num, by rw [Hw.out, World.drewN_drewN]⟩
      case measure => simp [intOf]; omega
    · obtain rfl : j = n := by omega
      have h0 : Zt2 wr ss 0 := fun j s h => ⟨fun h2 => absurd h2 (by omega), fun _ => (hs s (List.mem_of_getElem? h)).ext hE⟩
      clear Hw hE q
      go_wp2
      go_loopw [6] (fun i wx => ∃ i2 : Nat, i2 ≤ j ∧ i = .int .i64 i2 ∧ Kept w wx ss ∧ Zt2 wx ss i2) (fun i _ => j - (intOf i).toNat)
      case atStart => exact ⟨0, Nat.zero_le _, rfl, hK, h0⟩
      case round =>
        clear h0 hK
        obtain ⟨i2, hi2, rfl, hK, hS⟩ := hrel
        by_cases hlt2 : i2 < j
        · obtain ⟨b, o, s, rfl, hf, h1⟩ := (hx.kept hK hfx).at_ hlt2
          have hm := List.mem_of_getElem? hf
          have ho := (hS i2 s hf).2 (Nat.le_refl _)
          have hbf := hl s hm
          have hus := hu s hm
          have HK := Lib.hid hK
          have HS := Lib.hid hS
          have Hf := Lib.hid hf
          clear hK hS hf
          go_wp2_with fail
          refine (spoilZ_any _ _ _ 0 _ _ ho rfl hus (by omega)).mono ?_
          rintro e w3 ⟨rfl, ho3, hg3⟩
          go_wp2
          go_roundw
          case rel => exact ⟨i2 + 1, by omega, by go_num, HK.out.grown hg3 (fun g hg => by
            cases hA : s.A with
            | none => rw [hA] at hg; simp at hg
            | some p => rw [hA] at hg; simp at hg; exact .inr ⟨s, hm, p, hA, hg⟩), HS.out.step hun Hf.out ho3 hg3⟩
          case measure => simp [intOf]; omega
        · obtain rfl : i2 = j := by omega
          have h0 := hS.all Hl.out
          clear hS
          go_wp2
          go_loopw [7, 8] (fun v i wx => ∃ i3 m : Nat, i3 ≤ i2 ∧ i = .int .i64 i3 ∧ v = .int .i64 m ∧ m ≤ i3 * 2097152 ∧ Kept w wx ss ∧ Zt3 wx ss i3) (fun _ i _ => i2 - (intOf i).toNat)
          case atStart => exact ⟨0, 0, Nat.zero_le _, rfl, rfl, by omega, hK, h0⟩
          case round =>
            clear h0 hK
            obtain ⟨i3, m, hi3, rfl, rfl, hmm, hK, hS⟩ := hrel
            by_cases hlt3 : i3 < i2
            · obtain ⟨b, o, s, rfl, hf, h1⟩ := (hx.kept hK hfx).at_ hlt3
              have hm := List.mem_of_getElem? hf
              have hbf := hl s hm
              have h4 : Zt4 w wr ss i3 s s.A s.c 0 (s.body.map spl) := ⟨(hS i3 s hf).2 (Nat.le_refl _), by simp, by rw [List.take_of_length_le (by simp)], fun p hp => .inl hp, hS.next, hK⟩
              have Hf := Lib.hid hf
              clear hK hS hf
              go_wp2
              go_loopw [9, 10] (fun v i wx => ∃ (k : Nat) (A1 : Option Addr) (c1 : Nat) (ys : List Nat), k ≤ 70 ∧ i = .int .i64 k ∧ v = .slice A1 (s.body.length + k : Nat) c1 ∧ Zt4 w wx ss i3 s A1 c1 k ys) (fun _ i _ => 70 - (intOf i).toNat)
              case atStart => exact ⟨0, _, _, _, Nat.zero_le _, rfl, rfl, h4⟩
              case round =>
                clear h4
                obtain ⟨k, A1, c1, ys, hk, rfl, rfl, h4⟩ := hrel
                by_cases hlt4 : k < 70
                · have hmod := mod256' (k := k) (i := i3)
                  have Hown := Lib.hid h4.own
                  have Hlen := Lib.hid h4.len
                  have H4 := Lib.hid h4
                  clear h4
                  go_wp2_with (at_builtin; refine wpList_pushZ ((k + i3) % 256) rfl _ _ rfl Hown.out (s.body.length + k) Hlen.out rfl rfl (by first | rfl | exact hmod | omega | go_num) (by omega) (Nat.zero_le _) ?_; intro A2 c2 w5 hown5 hw5 hz5)
                  have Hn := Lib.hid (H4.out.push hun Hf.out hblt hown5 hw5)
                  clear hown5 hw5 hz5
                  go_wp2
                  go_roundw
                  case rel => exact ⟨k + 1, A2, c2, _, by omega, by go_num, rfl, Hn.out⟩
                  case measure => simp [intOf]; omega
                · obtain rfl : k = 70 := by omega
                  have hS := h4.rest
                  have hK := h4.kept
                  clear h4
                  go_wp2
                  go_roundw
                  case rel => exact ⟨i3 + 1, m + (s.body.length + 70), by omega, by go_num, by go_num, by omega, hK, hS⟩
                  case measure => simp [intOf]; omega
            · obtain rfl : i3 = i2 := by omega
              obtain ⟨W3, hW3⟩ : ∃ W3, W3 = wr := ⟨_, rfl⟩
              rw [← hW3] at hK hS
              have HK := Lib.hid hK
              have HS := Lib.hid hS
              clear hK hS
              go_wp2
              go_loopw [11] (fun i wx => ∃ i4 q : Nat, i4 ≤ i3 ∧ i = .int .i64 i4 ∧ wx = W3.drewN q) (fun i _ => i3 - (intOf i).toNat)
              case atStart => exact ⟨0, 0, Nat.zero_le _, rfl, hW3.symm⟩
              case round =>
                obtain ⟨i4, q, hi4, rfl, hw⟩ := hrel
                have hE : Ext W3 wr := by rw [hw]; exact (Ext.refl _).drewN q
                have hK : Kept w wr ss := HK.out.ext hE
                have Hw := Lib.hid hw
                clear hw
                by_cases hlt4 : i4 < i3
                · obtain ⟨b, o, s, rfl, hf, h1⟩ := (hx.kept hK hfx).at_ hlt4
                  obtain ⟨b', o', t, rfl, hg, g1⟩ := (hy.kept hK hfy).at_ hlt4
                  have hbb := hpair i4 s t hf hg
                  have hmt := List.mem_of_getElem? hg
                  have h3 := (HS.out i4 s hf).1.ext hE
                  have g3 := (ht t hmt).kept hK (hft t hmt)
                  have hbf := hl s (List.mem_of_getElem? hf)
                  have hus := hu s (List.mem_of_getElem? hf)
                  rw [hbb] at g1 g3
                  obtain ⟨sA, sc, body⟩ := s
                  obtain ⟨tA, tc, tbody⟩ := t
                  simp only at h1 h3 g1 g3 hbf hus
                  clear hbb hf hg hmt hK
                  have hji : (i4 : Int) < (i3 : Int) := by omega
                  have hbf2 : body.length ≤ 281474976710656 := by omega
                  go_wp2_with fail
                  go_quiet ((go_at_call 43; exact Calls.quiet_of (turned_yes (h3.drewN _) (g3.drewN _) hus hbf2)))
                  go_wp2
                  go_roundw
                  case rel => exact ⟨i4 + 1, _, by omega, by go_num, by rw [Hw.out, World.drewN_drewN]⟩
                  case measure => simp [intOf]; omega
                · obtain rfl : i4 = i3 := by omega
                  go_wp2
                  go_ret
                  exact ⟨by simp, hK⟩


end Go.Proofs.Ytpdppldkebfikaa
