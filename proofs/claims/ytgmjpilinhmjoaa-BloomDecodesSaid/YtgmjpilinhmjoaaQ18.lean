/-
  Layer 13: the reference's Decode.
-/
import Derived.Test.YtgmjpilinhmjoaaQ16
import Derived.Test.YtgmjpilinhmjoaaQ10
namespace Go.Proofs.Ytgmjpilinhmjoaa
open Go.RowKit
set_option maxRecDepth 100000

theorem bb_snoc : ∀ (a : List Nat) (x : Nat), bb (a ++ [x]) = bb a ++ (List.range 8).map (fun i => x.testBit i) := by
  intro a
  induction a with
  | nil => intro x; rw [List.nil_append, bb_cons]; simp [bb]
  | cons y a ih => intro x; rw [List.cons_append, bb_cons, ih, bb_cons, List.append_assoc]

def RDecPost (bs : List Nat) (w : World) (e : Ending) (w' : World) : Prop :=
  Ext w w' ∧ ((fdecE bs ≠ 0 ∧ e = .returned (.tuple #[.slice none 0 0, .int .i64 (fdecE bs)])) ∨
    (fdecE bs = 0 ∧ ∃ A c, e = .returned (.tuple #[.slice A (8 * (fdecR bs).length : Nat) c, .int .i64 0]) ∧ OwnG shB 4 w' w.heap.size A c (bb (fdecR bs))))

set_option maxHeartbeats 8000000 in
theorem refDecode_any (A : Option Addr) (n c : Nat) (bs : List Nat) (w : World) (hx : Rd .u8 w A n bs) (hu : U8 bs) (hn : n ≤ 140737488355328) :
    Calls Try.prog 27 #[.slice A n c] w (RDecPost bs w) := by
  have hl := hx.len
  have hseal := refSealed_any A n c bs w hx hu hn
  by_cases hs : sld bs
  · have h4 : 4 ≤ n := by have := hs.1; omega
    have hds : decide (sld bs) = true := decide_eq_true hs
    rw [hds] at hseal
    have hE : fdecE bs = (if (vget (bodyF bs) 0).2.2 ≠ 0 then (vget (bodyF bs) 0).2.2 else if (vget (bodyF bs) 0).1 < 8 ∨ 5120 < (vget (bodyF bs) 0).1 then 5 else if ((bodyF bs).length : Int) - (vget (bodyF bs) 0).2.1 < (vget (bodyF bs) 0).1 then 2 else if ((vget (bodyF bs) 0).1 : Int) < ((bodyF bs).length : Int) - (vget (bodyF bs) 0).2.1 then 3 else 0) := by
      unfold fdecE; rw [if_neg (by simpa using hs)]
    have hR : fdecR bs = (bodyF bs).drop (vget (bodyF bs) 0).2.1.toNat := rfl
    have hbl : (bodyF bs).length = n - 4 := by rw [bodyF, List.length_take, hl]; omega
    have hbu : U8 (bodyF bs) := u8_take hu _
    have hbd := vget_bounds (a := 0) hbu (by rw [hbl]; omega)
    have hpb : piece bs 0 ((n : Int) - 4) = bodyF bs := by
      unfold piece bodyF
      rw [Int.toNat_zero, List.drop_zero, hl]
      congr 1
      omega
    have hpiece : ∀ W, Ext w W → Calls Try.prog 46 #[.slice A n c, .int .i64 0, .int .i64 ((n : Int) - 4)] W fun e w' => ∃ A' c', e = .returned (.slice A' (n - 4 : Nat) c') ∧ Own .u8 5 w' W.heap.size A' c' (bodyF bs) ∧ Ext W w' := fun W hW => by
      have := piece_any A n c 0 ((n : Int) - 4) bs W (hx.ext hW) hn (by omega)
      rw [hpb, hbl] at this
      exact this
    obtain ⟨t, ht⟩ : ∃ t, t = bodyF bs := ⟨_, rfl⟩
    rw [← ht] at hE hR hbl hbu hbd hpiece
    have hget : ∀ (B : Option Addr) (cb base : Nat) (W : World), Own .u8 5 W base B cb t → Calls Try.prog 47 #[.slice B (n - 4 : Nat) cb, .int .i64 0] W (GetPost t 0 W) := fun B cb base W h => refGet_any B (n - 4) cb 0 t W (h.rd' hbl) hbu (by omega)
    obtain ⟨⟨v, at_, er⟩, hv⟩ : ∃ q, q = vget t 0 := ⟨_, rfl⟩
    have hget2 : ∀ (B : Option Addr) (cb base : Nat) (W : World), Own .u8 5 W base B cb t → Calls Try.prog 47 #[.slice B (n - 4 : Nat) cb, .int .i64 0] W fun e w' => e = .returned (.tuple #[.int .u64 (v : Nat), .int .i64 at_, .int .i64 er]) ∧ W = w' := fun B cb base W h => by
      have := hget B cb base W h
      unfold GetPost at this
      rw [← hv] at this
      exact this
    rw [← hv] at hE hR hbd
    simp only at hE hR hbd
    obtain ⟨hv64, ha0, han⟩ := hbd
    rw [hbl] at han hE
    obtain ⟨k, rfl⟩ : ∃ k : Nat, at_ = (k : Int) := ⟨at_.toNat, by omega⟩
    rw [Int.toNat_natCast] at hR
    have hRl : (fdecR bs).length = n - 4 - k := by rw [hR, List.length_drop, hbl]
    obtain ⟨N, hN⟩ : ∃ N, N = n - 4 := ⟨_, rfl⟩
    have hn4 : (n : Int) - 4 = (N : Int) := by omega
    rw [hn4] at hpiece
    rw [← hN] at hpiece hget2 hbl hRl hE han
    obtain ⟨E, hEE⟩ : ∃ E, E = fdecE bs := ⟨_, rfl⟩
    rw [← hEE] at hE
    have HS := Lib.hid hseal
    have HP := Lib.hid hpiece
    have HG := Lib.hid hget2
    have HEE := Lib.hid hEE
    have HRl := Lib.hid hRl
    have HR := Lib.hid hR
    have Hbl := Lib.hid hbl
    have Hbu := Lib.hid hbu
    clear hseal hpiece hget hget2 hEE hv hRl hbl hbu hx hu hs hds ht hR hl hpb
    have hwv : v ≤ 5120 → wrap64 (v : Int) = (v : Int) := fun h => IntWalk.wrap64_in _ (by omega)
    by_cases he : er = 0
    · subst he
      rw [if_neg (by simp)] at hE
      by_cases h5 : v < 8
      · rw [if_pos (Or.inl h5)] at hE
        have HE := Lib.hid hE
        clear hE hN
        go_enter Try.func27, Try.ntmps27
        go_wp2_with fail
        refine HS.out.mono ?_
        rintro e w1 ⟨rfl, he1⟩
        go_wp2_with fail
        refine (HP.out _ he1).mono ?_
        rintro e w2 ⟨A2, c2, rfl, hown2, he2⟩
        go_wp2_with fail
        refine (HG.out _ _ _ _ hown2).mono ?_
        rintro e w3 ⟨rfl, rfl⟩
        go_wp2_with fail
        go_ret2
        exact ⟨he1.trans he2, .inl ⟨by rw [← HEE.out, HE.out]; decide, by rw [← HEE.out, HE.out]; rfl⟩⟩
      · by_cases h6 : 5120 < v
        · rw [if_pos (Or.inr h6)] at hE
          have HE := Lib.hid hE
          clear hE hN
          go_enter Try.func27, Try.ntmps27
          go_wp2_with fail
          refine HS.out.mono ?_
          rintro e w1 ⟨rfl, he1⟩
          go_wp2_with fail
          refine (HP.out _ he1).mono ?_
          rintro e w2 ⟨A2, c2, rfl, hown2, he2⟩
          go_wp2_with fail
          refine (HG.out _ _ _ _ hown2).mono ?_
          rintro e w3 ⟨rfl, rfl⟩
          go_wp2_with fail
          go_ret2
          exact ⟨he1.trans he2, .inl ⟨by rw [← HEE.out, HE.out]; decide, by rw [← HEE.out, HE.out]; rfl⟩⟩
        · rw [if_neg (by omega)] at hE
          have hw1 := hwv (by omega)
          by_cases h7 : (N : Int) - (k : Int) < (v : Int)
          · rw [if_pos h7] at hE
            have HE := Lib.hid hE
            clear hE hN
            go_enter Try.func27, Try.ntmps27
            go_wp2_with fail
            refine HS.out.mono ?_
            rintro e w1 ⟨rfl, he1⟩
            go_wp2_with fail
            refine (HP.out _ he1).mono ?_
            rintro e w2 ⟨A2, c2, rfl, hown2, he2⟩
            go_wp2_with fail
            refine (HG.out _ _ _ _ hown2).mono ?_
            rintro e w3 ⟨rfl, rfl⟩
            go_wp2_with fail
            go_ret2
            exact ⟨he1.trans he2, .inl ⟨by rw [← HEE.out, HE.out]; decide, by rw [← HEE.out, HE.out]; rfl⟩⟩
          · rw [if_neg h7] at hE
            by_cases h8 : (v : Int) < (N : Int) - (k : Int)
            · rw [if_pos h8] at hE
              have HE := Lib.hid hE
              clear hE hN
              go_enter Try.func27, Try.ntmps27
              go_wp2_with fail
              refine HS.out.mono ?_
              rintro e w1 ⟨rfl, he1⟩
              go_wp2_with fail
              refine (HP.out _ he1).mono ?_
              rintro e w2 ⟨A2, c2, rfl, hown2, he2⟩
              go_wp2_with fail
              refine (HG.out _ _ _ _ hown2).mono ?_
              rintro e w3 ⟨rfl, rfl⟩
              go_wp2_with fail
              go_ret2
              exact ⟨he1.trans he2, .inl ⟨by rw [← HEE.out, HE.out]; decide, by rw [← HEE.out, HE.out]; rfl⟩⟩
            · rw [if_neg h8] at hE
              have HE := Lib.hid hE
              clear hE hN
              go_enter Try.func27, Try.ntmps27
              go_wp2_with fail
              refine HS.out.mono ?_
              rintro e w1 ⟨rfl, he1⟩
              go_wp2_with fail
              refine (HP.out _ he1).mono ?_
              rintro e w2 ⟨A2, c2, rfl, hown2, he2⟩
              go_wp2_with fail
              refine (HG.out _ _ _ _ hown2).mono ?_
              rintro e w3 ⟨rfl, rfl⟩
              go_wp2_with fail
              have hkN : N = k + v := by omega
              have HkN := Lib.hid hkN
              have Hown := Lib.hid (hown2.rd' Hbl.out)
              have hlR : (fdecR bs).length = v := by rw [HRl.out, HkN.out]; omega
              have hgR : ∀ q, (fdecR bs).getD q 0 = t.getD (k + q) 0 := fun q => by rw [HR.out, List.getD, List.getElem?_drop, List.getD]
              obtain ⟨R, hRR⟩ : ∃ R, R = fdecR bs := ⟨_, rfl⟩
              rw [← hRR] at hlR hgR
              have HlR := Lib.hid hlR
              have HgR := Lib.hid hgR
              have HRR := Lib.hid hRR
              have he12 := he1.trans he2
              clear hkN hown2 h7 h8 hlR hgR hRR
              go_loopw [8, 9] (fun y i wr => ∃ (q : Nat) (A5 : Option Addr) (c5 : Nat), q ≤ v ∧ i = .int .i64 ((k + q : Nat) : Int) ∧ y = .slice A5 (8 * q : Nat) c5 ∧ OwnG shB 4 wr w2.heap.size A5 c5 (bb (R.take q)) ∧ Ext w2 wr ∧ w2.heap.size ≤ wr.heap.size) (fun _ i _ => N - (intOf i).toNat)
              case atStart => exact ⟨0, _, 0, Nat.zero_le _, rfl, rfl, OwnG.made shB 4 w2 (Nat.le_refl _), (Ext.refl _).alloc _, by simp⟩
              case round =>
                obtain ⟨q, A5, c5, hq, rfl, rfl, hO5, hE5, hz5⟩ := hrel
                obtain ⟨I, hI⟩ : ∃ I, I = k + q := ⟨_, rfl⟩
                obtain ⟨B, hB⟩ : ∃ B, B = 8 * q := ⟨_, rfl⟩
                have hI2 : ((k : Int) + (q : Int)) = (I : Int) := by omega
                rw [← hI, ← hB]
                have HI := Lib.hid hI
                have HB := Lib.hid hB
                by_cases hqv : q < v
                · have hIN : I < N := by have := HkN.out; omega
                  obtain ⟨b, o, rfl, hb, hc⟩ := (Hown.out.ext hE5).at_ hIN
                  have hx8 := Hbu.out.at_ I
                  have hxg : R.getD q 0 = t.getD I 0 := by rw [HgR.out, HI.out]
                  have Hsn := Lib.hid (take_next R q (by rw [HlR.out]; exact hqv))
                  obtain ⟨x, hx⟩ : ∃ x, x = t.getD I 0 := ⟨_, rfl⟩
                  rw [← hx] at hc hx8 hxg
                  rw [hxg] at Hsn
                  have HO5 := Lib.hid hO5
                  have Hx8 := Lib.hid hx8
                  have hbl5 : Hid ((bb (R.take q)).length = B) := Lib.hid (by rw [bb_len, List.length_take, HlR.out, HB.out]; omega)
                  obtain ⟨Y, hY⟩ : ∃ Y, Y = bb (R.take q) := ⟨_, rfl⟩
                  rw [← hY] at HO5 hbl5
                  have HY := Lib.hid hY
                  clear hO5 hx hxg hI hB hI2 hY hx8
                  go_wp2_with fail
                  go_loopw [8, 10, 11] (fun y u i2 wr => ∃ (i : Nat) (A6 : Option Addr) (c6 : Nat), i ≤ 8 ∧ i2 = .int .i64 (i : Int) ∧ u = .int .u8 ((x / 2 ^ i : Nat) : Int) ∧ y = .slice A6 (B + i : Nat) c6 ∧ OwnG shB 4 wr w2.heap.size A6 c6 (Y ++ (List.range i).map (fun i => x.testBit i)) ∧ Ext w2 wr ∧ w2.heap.size ≤ wr.heap.size) (fun _ _ i2 _ => 8 - (intOf i2).toNat)
                  case atStart => exact ⟨0, A5, c5, by omega, rfl, by simp, rfl, by simpa using HO5.out, hE5, hz5⟩
                  case round =>
                    obtain ⟨i, A6, c6, hi, rfl, rfl, rfl, hO6, hE6, hz6⟩ := hrel
                    have Hl6 := Lib.hid (show (Y ++ (List.range i).map (fun i => x.testBit i)).length = B + i by rw [List.length_append, hbl5.out, List.length_map, List.length_range])
                    have HO6 := Lib.hid hO6
                    by_cases hi8 : i < 8
                    · have Hr := Lib.hid (show (List.range (i + 1)).map (fun i => x.testBit i) = (List.range i).map (fun i => x.testBit i) ++ [x.testBit i] by rw [List.range_succ, List.map_append]; rfl)
                      have Htb := Lib.hid (Nat.testBit_eq_decide_div_mod_eq (x := x) (i := i))
                      have Hdv := Lib.hid (show x / 2 ^ (i + 1) = x / 2 ^ i / 2 by rw [Nat.pow_succ, Nat.div_div_eq_div_mul])
                      have hu8 : x / 2 ^ i < 256 := Nat.lt_of_le_of_lt (Nat.div_le_self _ _) Hx8.out
                      obtain ⟨u, hu⟩ : ∃ u, u = x / 2 ^ i := ⟨_, rfl⟩
                      rw [← hu] at Htb Hdv hu8 ⊢
                      clear hO6 hu
                      have hBb : B ≤ 40960 := by have := HB.out; omega
                      by_cases hodd : u % 2 = 1
                      · have ho : (u : Int) % 2 = 1 := by omega
                        have Hbit := Lib.hid (show x.testBit i = true by rw [Htb.out, decide_eq_true hodd])
                        clear hodd
                        go_wp2_with (at_builtin; refine wpList_pushG (w0 := w2) (base := w2.heap.size) shB true 4 rfl _ _ 27 rfl _ 1 Try.underlying27 Try.infoBool rfl (by decide) (HO6.out.ext ((Ext.refl _).alloc _)) (B + i) Hl6.out rfl rfl (heap_alloc_new _ _) (by omega) (by omega) (Below.alloc hE6 hz6 _) (by simp; omega) ?_; intro A7 c7 w7 hO7 _ hE7 hz7)
                        go_roundw
                        case rel => exact ⟨i + 1, A7, c7, by omega, by go_num, by rw [Hdv.out]; rfl, rfl, by rw [Hr.out, Hbit.out, ← List.append_assoc]; exact hO7, hE7, hz7⟩
                        case measure => simp [intOf]; omega
                      · have ho : (u : Int) % 2 = 0 := by omega
                        have Hbit := Lib.hid (show x.testBit i = false by rw [Htb.out, decide_eq_false hodd])
                        clear hodd
                        go_wp2_with (at_builtin; refine wpList_pushG (w0 := w2) (base := w2.heap.size) shB false 4 rfl _ _ 27 rfl _ 1 Try.underlying27 Try.infoBool rfl (by decide) (HO6.out.ext ((Ext.refl _).alloc _)) (B + i) Hl6.out rfl rfl (heap_alloc_new _ _) (by omega) (by omega) (Below.alloc hE6 hz6 _) (by simp; omega) ?_; intro A7 c7 w7 hO7 _ hE7 hz7)
                        go_roundw
                        case rel => exact ⟨i + 1, A7, c7, by omega, by go_num, by rw [Hdv.out]; rfl, rfl, by rw [Hr.out, Hbit.out, ← List.append_assoc]; exact hO7, hE7, hz7⟩
                        case measure => simp [intOf]; omega
                    · obtain rfl : i = 8 := by omega
                      rw [HY.out, ← bb_snoc, ← Hsn.out] at hO6
                      have HO7 := Lib.hid hO6
                      clear hO6
                      go_wp2
                      go_roundw
                      case rel => exact ⟨q + 1, A6, c6, hqv, by rw [HI.out]; go_num, by rw [HB.out]; rfl, HO7.out, hE6, hz6⟩
                      case measure => have := HI.out; simp [intOf]; omega
                · obtain rfl : q = v := by omega
                  have hIN : I = N := by have := HkN.out; have := HI.out; omega
                  subst hIN
                  rw [List.take_of_length_le (Nat.le_of_eq HlR.out)] at hO5
                  have HO7 := Lib.hid hO5
                  have HE7 := Lib.hid hE5
                  clear hO5 hE5 hI hB
                  go_wp2
                  go_ret2
                  exact ⟨he12.trans HE7.out, .inr ⟨by rw [← HEE.out, HE.out], A5, c5, by rw [← HRR.out, HlR.out, ← HB.out]; rfl, by rw [← HRR.out]; exact HO7.out.mono he12.size⟩⟩
    · rw [if_pos he] at hE
      have HE := Lib.hid hE
      have heb : (er == 0) = false := beq_eq_false_iff_ne.2 he
      clear hE hN
      go_enter Try.func27, Try.ntmps27
      go_wp2_with fail
      refine HS.out.mono ?_
      rintro e w1 ⟨rfl, he1⟩
      go_wp2_with fail
      refine (HP.out _ he1).mono ?_
      rintro e w2 ⟨A2, c2, rfl, hown2, he2⟩
      go_wp2_with fail
      refine (HG.out _ _ _ _ hown2).mono ?_
      rintro e w3 ⟨rfl, rfl⟩
      go_wp2_with fail
      go_ret2
      exact ⟨he1.trans he2, .inl ⟨by rw [← HEE.out, HE.out]; exact he, by rw [← HEE.out, HE.out]; rfl⟩⟩
  · have hds : decide (sld bs) = false := decide_eq_false hs
    rw [hds] at hseal
    have hE : fdecE bs = 6 := by unfold fdecE; rw [if_pos (by simpa using hs)]
    have HE := Lib.hid hE
    have HS := Lib.hid hseal
    clear hE hseal hs hds hx hu
    go_enter Try.func27, Try.ntmps27
    go_wp2_with fail
    refine HS.out.mono ?_
    rintro e w1 ⟨rfl, he1⟩
    go_wp2_with fail
    go_ret2
    exact ⟨he1, .inl ⟨by rw [HE.out]; decide, by rw [HE.out]; rfl⟩⟩

end Go.Proofs.Ytgmjpilinhmjoaa
