import Derived.Test.YtdndhogpcdhamaaV4
import Derived.Test.YtdndhogpcdhamaaBump
namespace Go.Proofs.Ytdndhogpcdhamaa
open Go.RowKit

theorem vgl_facts {bs : List Nat} {a m : Int} (hb : U8 bs) (hm : m ≤ 1048576 ∨ bs.length ≤ 1048576) : (vgl bs a m).1.length ≤ 1048576 ∧ U64 (vgl bs a m).1 := by
  rcases h : vgl bs a m with ⟨us, t, e⟩
  by_cases he : e = 0
  · subst he
    obtain ⟨p1, p2, p3, p4, p5⟩ := vgl_at hb h
    refine ⟨?_, p3⟩
    rcases hm with hm | hm
    · show us.length ≤ _; omega
    · have h1 : (vlist us).length ≤ bs.length := by rw [p5, piece_of, List.length_take, List.length_drop]; omega
      have h2 : us.length ≤ (vall us).length := by
        clear p1 p2 p3 p4 p5 h h1
        induction us with
        | nil => simp
        | cons x r ih => rw [vall, List.length_append, vput_len, List.length_cons]; unfold vsize; omega
      rw [vlist, List.length_append] at h1
      show us.length ≤ _
      omega
  · obtain ⟨rfl, _⟩ := vgl_err h he
    exact ⟨by simp, (by intro v hv; cases hv)⟩

set_option maxHeartbeats 1600000 in
theorem walk_VintLists (A : Option Addr) (n c : Nat) (bs : List Nat) (at_ most : Int) (w : World) (hx : Rd .u8 w A n bs) (hu : U8 bs) (hz : n ≤ 1048576) (_h1 : -9223372036854775808 ≤ at_) (_h2 : at_ ≤ 9223372036854775807) (h3 : -9223372036854775808 ≤ most) (h4 : most ≤ 9223372036854775807) :
    Calls Try.prog 11 #[.slice A n c, .int .i64 at_, .int .i64 most] w fun e w' => e = .returned (.bool true) ∧ Ext w w' := by
  go_enter Try.func11, Try.ntmps11
  go_wp2_with fail
  refine (alive2 _).mono ?_
  rintro e w1 ⟨rfl, he1⟩
  go_wp2_with fail
  refine (wide_any _ _ _ _ _ (hx.ext he1) (by omega)).mono ?_
  rintro e w2 ⟨A2, c2, rfl, hown2, he2⟩
  have hr2 := hown2.rd_take (n := n) (by rw [List.length_append, hx.len]; omega)
  rw [List.take_left' hx.len] at hr2
  have hri := hown2.rd' (n := n + 64) (by rw [List.length_append, hx.len]; rfl)
  obtain ⟨b, rfl, _, hb, hcap, hcm⟩ := hown2.form (by rw [List.length_append, marks_len]; omega)
  rw [List.length_append, hx.len, marks_len] at hcap
  have hx2 := (hx.ext he1).ext he2
  go_wp2_with fail
  refine (getList_any _ _ _ _ _ bs _ hr2 hu (by omega) (by omega) hcm h3 h4).mono ?_
  rintro e w4 ⟨A4, c4, rfl, hown4, he4⟩
  go_wp2_with fail
  refine (getList_any _ _ _ _ _ bs _ (hr2.ext he4) hu (by omega) (by omega) hcm h3 h4).mono ?_
  rintro e w5 ⟨A5, c5, rfl, hown5, he5⟩
  go_wp2_with fail
  refine (refGetList_any _ _ _ _ _ bs _ ((hx2.ext he4).ext he5) hu (by omega) h3 h4).mono ?_
  rintro e w6 ⟨A3, c3, rfl, hown3, he3⟩
  have n5 : ∀ a a2, A4 = some a → A5 = some a2 → a2.block ≠ a.block := fun a a2 ha ha2 => by have := (hown4.block a ha).2; have := (hown5.block a2 ha2).1; omega
  have n3 : ∀ a a3, A4 = some a → A3 = some a3 → a3.block ≠ a.block := fun a a3 ha ha3 => by have := (hown4.block a ha).2; have := (hown3.block a3 ha3).1; have := he5.size; omega
  have n2 : ∀ a a2, A4 = some a → some (⟨b, 0, none⟩ : Addr) = some a2 → a2.block ≠ a.block := fun a a2 ha ha2 => by
    have := (hown4.block a ha).1
    injection ha2 with ha2
    subst ha2
    show b ≠ _
    omega
  have hxl : ∀ a a2, 0 < n → A4 = some a → A = some a2 → a2.block ≠ a.block := fun a a2 hn ha ha2 => by
    have h1 := (hown4.block a ha).1
    have h2 := hx2.lt hn a2 ha2
    omega
  obtain ⟨hL, hU⟩ := vgl_facts (bs := bs) (a := at_) (m := most) hu (.inr (by rw [hx.len]; exact hz))
  have o4 := (hown4.ext he5).ext he3
  have r5 := (hown5.ext he3).rd
  have r3 := hown3.rd
  have r2 := ((hri.ext he4).ext he5).ext he3
  have rx := ((hx2.ext he4).ext he5).ext he3
  have hE3 : Ext w w2 := he1.trans he2
  have hE5 : Ext w2 w6 := (he4.trans he5).trans he3
  rcases hG : vgl bs at_ most with ⟨L, T, E⟩
  rw [hG] at hL hU o4 r5 r3
  simp only at hL hU o4 r5 r3
  have hEn : (E != E) = false := by simp
  have hTn : (T != T) = false := by simp
  have hbase : w2.heap.size ≤ w2.heap.size := Nat.le_refl _
  have hne : ∀ (X : Option Addr), (∀ a a2, A4 = some a → X = some a2 → a2.block ≠ a.block) → ∀ a, X = some a → some a.block ≠ A4.map (·.block) := by
    intro X hX a ha e
    cases hA : A4 with
    | none => rw [hA] at e; simp at e
    | some a1 => rw [hA] at e; simp at e; exact hX a1 a hA ha e
  have hgE : ∀ (wa wb : World), Ext w2 wa → wa.grownBy wb (A4.map (·.block)) → Ext w2 wb := fun _ _ hE hg => grownBy_ext hE hg (by
    intro g hg
    cases hA : A4 with
    | none => rw [hA] at hg; simp at hg
    | some a => rw [hA] at hg; simp at hg; subst hg; exact (hown4.block a hA).1)
  have Hne := Lib.hid hne
  have HgE := Lib.hid hgE
  have N5 := Lib.hid n5
  have N3 := Lib.hid n3
  have N2 := Lib.hid n2
  have Nx := Lib.hid hxl
  clear hown2 hown3 hown4 hown5 hr2 hx he1 he2 hG hne hgE n5 n3 n2 hxl hri hx2 he3 he4 he5
  go_wp2_with fail
  refine (sameNumbers_yes o4.rd r3 (by omega)).mono ?_
  rintro e w7 ⟨rfl, q1, rfl⟩
  go_wp2_with fail
  refine (sameNumbers_yes (r5.drewN q1) (r3.drewN q1) (by omega)).mono ?_
  rintro e w7 ⟨rfl, q2, rfl⟩
  go_wp2_with fail
  have o6 := o4.ext ((Ext.refl _).drewN (q1 + q2))
  have r5' := r5.drewN (q1 + q2)
  have r3' := r3.drewN (q1 + q2)
  have r2' := r2.drewN (q1 + q2)
  have rx' := rx.drewN (q1 + q2)
  have hE6 := hE5.drewN (q1 + q2)
  generalize w6.drewN (q1 + q2) = w7 at *
  clear o4 r5 r3 r2 rx hE5
  have h0 : Own .u64 41 w7 w2.heap.size A4 c4 (bump 0 L) := by rw [bump_zero]; exact o6
  clear o6
  go_loopw [74] (fun i wr => ∃ j : Nat, j ≤ L.length ∧ i = .int .i64 j ∧ Own .u64 41 wr w2.heap.size A4 c4 (bump j L) ∧ w7.grownBy wr (A4.map (·.block))) (fun i _ => L.length - (intOf i).toNat)
  case atStart => exact ⟨0, Nat.zero_le _, rfl, h0, World.grownBy.refl _ _⟩
  case round =>
    clear h0
    obtain ⟨j, hj, rfl, hown, hg⟩ := hrel
    by_cases hlt : j < L.length
    · obtain ⟨b4, rfl, hbb, hbl, hc, hf, hset⟩ := hown.at_ (show j < (bump j L).length by rw [bump_len]; exact hlt)
      have hvb := hU.at_ j
      rw [bump_at hlt] at hc
      obtain ⟨h1, h2⟩ := hset ((L.getD j 0 + 1) % 18446744073709551616)
      rw [← bump_succ hlt] at h1
      obtain ⟨v, hv⟩ : ∃ v, v = L.getD j 0 := ⟨_, rfl⟩
      rw [← hv] at hc hvb h1 h2
      have hsum : IntKind.u64.wrap ((v : Int) + 1) = (((v + 1) % 18446744073709551616 : Nat) : Int) := by rw [IntKind.wrap_u64]; omega
      have Hg := Lib.hid (World.grownBy.trans hg h2)
      have H1 := Lib.hid h1
      have Hsum := Lib.hid hsum
      clear hv hset h1 h2 hg hown hsum
      go_wp2_with fail
      go_roundw
      case rel => exact ⟨j + 1, by omega, by go_num, by rw [Hsum.out]; exact H1.out, by rw [Hsum.out]; exact Hg.out⟩
      case measure => simp [intOf]; omega
    · obtain rfl : j = L.length := by omega
      have r5w := r5'.grown0 hg (fun _ => Hne.out _ N5.out)
      have r3w := r3'.grown0 hg (fun _ => Hne.out _ N3.out)
      have r2w := r2'.grown0 hg (fun _ => Hne.out _ N2.out)
      have rxw := rx'.grown0 hg (fun hn => Hne.out _ (fun a a2 => Nx.out a a2 hn))
      have hEw := HgE.out _ _ hE6 hg
      clear hg hown
      go_wp2_with fail
      refine (sameNumbers_yes r5w r3w (by omega)).mono ?_
      rintro e w8 ⟨rfl, q3, rfl⟩
      go_wp2_with fail
      refine (intact_yes (r2w.drewN q3) (rxw.drewN q3) (by omega) (by omega)).mono ?_
      rintro e w8 ⟨rfl, q4, rfl⟩
      go_wp2_with fail
      go_ret
      exact ⟨rfl, (hE3.trans hEw).drewN _⟩

end Go.Proofs.Ytdndhogpcdhamaa
