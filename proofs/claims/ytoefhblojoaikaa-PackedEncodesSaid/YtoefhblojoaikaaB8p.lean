import Derived.Test.YtoefhblojoaikaaB7p
import Derived.Deep.RegionWith
namespace Go.Proofs.Ytoefhblojoaikaa
open Go.RowKit

/-- What Pack answers. -/
def packE (wd : Int) (vs : List Nat) : Int := if wd < 0 ∨ 64 < wd then 1 else if 4096 < vs.length then 4 else if wd < (wdt vs : Int) then 10 else 0
def packB (wd : Nat) (vs : List Nat) : List Nat := upk 8 ((wd * vs.length + 7) / 8) (pk wd vs)
def packL (wd : Int) (vs : List Nat) : List Nat := if packE wd vs = 0 then packB wd.toNat vs else []

def PackPost (wd : Int) (vs : List Nat) (w : World) (e : Ending) (w' : World) : Prop :=
  ∃ A' c', e = .returned (.tuple #[.slice A' (packL wd vs).length c', .int .i64 (packE wd vs)]) ∧ Own .u8 5 w' w.heap.size A' c' (packL wd vs) ∧ Ext w w'

theorem PackPost.err {wd r : Int} {vs : List Nat} {w w' : World} (h : packE wd vs = r) (hr : r ≠ 0) (he : Ext w w') : PackPost wd vs w (.returned (.tuple #[.slice none 0 0, .int .i64 r])) w' := by
  have h0 : packL wd vs = [] := by unfold packL; rw [h, if_neg hr]
  refine ⟨none, 0, ?_, ?_, he⟩
  · rw [h0, h]; rfl
  · rw [h0]; exact Own.nil ..

theorem PackPost.ok {wd m : Nat} {vs : List Nat} {w w' : World} {A : Option Addr} {c : Nat} (h : packE wd vs = 0) (hm : m = (packB wd vs).length) (ho : Own .u8 5 w' w.heap.size A c (packB wd vs)) (he : Ext w w') :
    PackPost wd vs w (.returned (.tuple #[.slice A m c, .int .i64 0])) w' := by
  have h0 : packL wd vs = packB wd vs := by unfold packL; rw [h, if_pos rfl]; rfl
  refine ⟨A, c, ?_, ?_, he⟩
  · rw [h0, h, hm]
  · rw [h0]; exact ho

theorem packE_arg {wd : Int} {vs : List Nat} (h : wd < 0 ∨ 64 < wd) : packE wd vs = 1 := if_pos h
theorem packE_long {wd : Int} {vs : List Nat} (h : ¬ (wd < 0 ∨ 64 < wd)) (h2 : 4096 < vs.length) : packE wd vs = 4 := by unfold packE; rw [if_neg h, if_pos h2]
theorem packE_bits {wd : Int} {vs : List Nat} (h : ¬ (wd < 0 ∨ 64 < wd)) (h2 : ¬ 4096 < vs.length) (h3 : wd < (wdt vs : Int)) : packE wd vs = 10 := by unfold packE; rw [if_neg h, if_neg h2, if_pos h3]
theorem packE_ok {wd : Int} {vs : List Nat} (h : ¬ (wd < 0 ∨ 64 < wd)) (h2 : ¬ 4096 < vs.length) (h3 : ¬ wd < (wdt vs : Int)) : packE wd vs = 0 := by unfold packE; rw [if_neg h, if_neg h2, if_neg h3]

theorem Own.grown_ext {k : IntKind} {e : TypeId} {w0 w w' : World} {base c : Nat} {A : Option Addr} {xs : List Nat} (h : Own k e w base A c xs) (hE : Ext w0 w) (hb : w0.heap.size ≤ base) (hg : w.grownBy w' (A.map (·.block))) : Ext w0 w' :=
  grownBy_ext hE hg (by
    intro g hg
    cases hA : A with
    | none => rw [hA] at hg; simp at hg
    | some a => rw [hA] at hg; simp at hg; subst hg; exact Nat.le_trans hb (h.block a hA).1)

set_option maxHeartbeats 1600000 in
theorem pack_any (A : Option Addr) (n c : Nat) (wd : Int) (vs : List Nat) (w : World) (hx : Rd .u64 w A n vs) (hu : U64 vs) (hn : n * 8 ≤ 140737488355328) :
    Calls Try.prog 54 #[.int .i64 wd, .slice A n c] w (PackPost wd vs w) := by
  have hl := hx.len
  by_cases hw : wd < 0 ∨ 64 < wd
  · have HE := Lib.hid (packE_arg (vs := vs) hw)
    clear hl
    go_enter Try.func54, Try.ntmps54
    go_wp2_with (go_at_call 66; refine (isWidth_no _ _ hw).mono ?_; rintro e w1 ⟨rfl, rfl⟩)
    go_ret2
    exact PackPost.err HE.out (by decide) (Ext.refl _)
  · have hw0 : 0 ≤ wd := by omega
    have hw1 : wd ≤ 64 := by omega
    by_cases hlong : 4096 < n
    · have HE := Lib.hid (packE_long (vs := vs) hw (by omega))
      clear hl hw
      go_enter Try.func54, Try.ntmps54
      go_wp2_with (go_at_call 66; refine (isWidth_yes _ _ hw0 hw1).mono ?_; rintro e w1 ⟨rfl, rfl⟩)
      go_ret2
      exact PackPost.err HE.out (by decide) (Ext.refl _)
    · by_cases hbits : wd < (wdt vs : Int)
      · have HE := Lib.hid (packE_bits (vs := vs) hw (by omega) hbits)
        clear hl hw
        go_enter Try.func54, Try.ntmps54
        go_wp2_with (first | (go_at_call 66; refine (isWidth_yes _ _ hw0 hw1).mono ?_; rintro e w1 ⟨rfl, rfl⟩) | (go_at_call 53; refine (width_any _ _ _ vs _ hx hu (by omega)).mono ?_; rintro e w1 ⟨rfl, rfl⟩))
        go_ret2
        exact PackPost.err HE.out (by decide) (Ext.refl _)
      · have HE := Lib.hid (packE_ok (vs := vs) hw (by omega) hbits)
        obtain ⟨wn, rfl⟩ := Int.eq_ofNat_of_zero_le hw0
        have hwd : Wd wn vs := wdt_le.1 (by omega)
        have hmul : (wn : Int) * (n : Int) = ((wn * n : Nat) : Int) := by norm_cast
        have hmb : wn * n ≤ 64 * 4096 := Nat.mul_le_mul (by omega) (by omega)
        obtain ⟨k, hk⟩ : ∃ k, k = wn * n := ⟨_, rfl⟩
        rw [← hk] at hmul hmb
        obtain ⟨nb, hnb⟩ : ∃ nb, nb = (k + 7) / 8 := ⟨_, rfl⟩
        have hnb2 : ((k : Int) + 7) / 8 = (nb : Int) := by omega
        have hpb : packB wn vs = upk 8 nb (pk wn vs) := by unfold packB; rw [hl, ← hk, ← hnb]
        have h8 : k ≤ 8 * nb := by omega
        have hnbb : nb ≤ 40000 := by omega
        have Hl := Lib.hid hl
        have Hk := Lib.hid hk
        have Hmul := Lib.hid hmul
        have Hwd := Lib.hid hwd
        have Hpb := Lib.hid hpb
        clear hl hk hmul hnb hpb hwd hw
        go_enter Try.func54, Try.ntmps54
        go_wp2_with (first | (go_at_call 66; refine (isWidth_yes _ _ hw0 hw1).mono ?_; rintro e w1 ⟨rfl, rfl⟩) | (go_at_call 53; refine (width_any _ _ _ vs _ hx hu (by omega)).mono ?_; rintro e w1 ⟨rfl, rfl⟩) | (go_at_call 67; refine (bytesFor_any _ _ _ hw0 hw1 (by omega) (by omega) (by rw [Hmul.out]; omega) (by rw [Hmul.out]; omega)).mono ?_; rintro e w1 ⟨rfl, rfl⟩; rw [Hmul.out, hnb2]) | (at_make; refine wpList_mk .u8 5 rfl _ _ 34 rfl 1 Try.underlying34 Try.infoU8 _ _ nb rfl rfl rfl rfl (by omega) (by omega) ?_; intro w2 hown2 he2))
        have h0 : Own .u8 5 w2 w.heap.size (some ⟨w.heap.size, 0, none⟩) nb (upk 8 nb (pk wn (vs.take 0))) := by rw [List.take_zero]; show Own _ _ _ _ _ _ (upk 8 nb 0); rw [upk_zero]; exact hown2
        clear hown2
        go_loopw [25] (fun i wr => ∃ j : Nat, j ≤ n ∧ i = .int .i64 j ∧ Own .u8 5 wr w.heap.size (some ⟨w.heap.size, 0, none⟩) nb (upk 8 nb (pk wn (vs.take j))) ∧ Ext w wr) (fun i _ => n - (intOf i).toNat)
        case atStart => exact ⟨0, Nat.zero_le _, rfl, h0, he2⟩
        case round =>
          clear h0 he2
          obtain ⟨j, hj, rfl, hown, he⟩ := hrel
          by_cases hlt : j < n
          · have hle1 : wn * j + wn ≤ k := by
              have := Nat.mul_le_mul_left wn (show j + 1 ≤ n by omega)
              rw [Nat.mul_add, Nat.mul_one, ← Hk.out] at this
              exact this
            have hmj : (wn : Int) * (j : Int) = ((wn * j : Nat) : Int) := by norm_cast
            have hmj0 : (0 : Int) ≤ (wn : Int) * (j : Int) := by omega
            have hmj1 : (wn : Int) * (j : Int) ≤ 18446744073709551615 := by omega
            have Hmj := Lib.hid hmj
            obtain ⟨b, o, rfl, hb, hc⟩ := (hx.ext he).at_ hlt
            have hjl : j < vs.length := by have := Hl.out; omega
            have hvw : vs.getD j 0 < 2 ^ wn := by
              have := Hwd.out _ (List.getElem_mem hjl)
              simpa [List.getD, hjl] using this
            have hM : pk wn (vs.take j) < 2 ^ (wn * j) := by
              have := pk_lt (w := wn) (vs := vs.take j) (fun v hv => Hwd.out v (List.mem_of_mem_take hv))
              rwa [List.length_take, Nat.min_eq_left (by omega)] at this
            have hsn : pk wn (vs.take j) + 2 ^ (wn * j) * vs.getD j 0 = pk wn (vs.take (j + 1)) := by rw [take_next _ _ hjl, pk_snoc, List.length_take, Nat.min_eq_left (by omega)]
            obtain ⟨v, hv⟩ : ∃ v, v = vs.getD j 0 := ⟨_, rfl⟩
            rw [← hv] at hc hvw hsn
            have Hvw := Lib.hid hvw
            have HM := Lib.hid hM
            have Hsn := Lib.hid hsn
            clear hv hvw hM hsn hmj
            go_wp2_with fail
            go_region_with (first | (go_at_call 69; refine (place_any _ _ _ hw0 hw1 (by omega) (by omega) hmj0 hmj1).mono ?_; rintro e w1 ⟨rfl, rfl⟩; rw [Hmj.out]) | (go_at_call 68; refine (lay_any (some ⟨w.heap.size, 0, none⟩) nb nb w.heap.size (wn * j) wn v (pk wn (vs.take j)) _ ?_ (by omega) (by omega) (by omega) Hvw.out HM.out).mono ?_; exact hown.ext ((Ext.refl _).drew); rintro e w1 ⟨rfl, hown1, hg1⟩))
            all_goals
              rw [Hsn.out] at hown1
              have he1 := Lib.hid (Own.grown_ext (hown.ext ((Ext.refl _).drew)) he.drew (Nat.le_refl _) hg1)
              have Ho1 := Lib.hid hown1
              clear hown1 hg1 hown he
              go_wp2
              go_roundw
              case rel => exact ⟨j + 1, by omega, by go_num, Ho1.out, he1.out⟩
              case measure => simp [intOf]; omega
          · obtain rfl : j = n := by omega
            rw [List.take_of_length_le (Nat.le_of_eq Hl.out)] at hown
            go_wp2
            go_ret2
            exact PackPost.ok HE.out (by rw [Hpb.out, upk_len]) (by rw [Hpb.out]; exact hown) he

end Go.Proofs.Ytoefhblojoaikaa
