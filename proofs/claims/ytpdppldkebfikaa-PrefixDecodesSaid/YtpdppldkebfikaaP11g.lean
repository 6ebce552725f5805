/-
  Layer 11: Seek, the program's and the document's.
-/
import Derived.Test.YtpdppldkebfikaaP11i
import Derived.Test.YtpdppldkebfikaaE5c
import Derived.Test.YtpdppldkebfikaaE1c
namespace Go.Proofs.Ytpdppldkebfikaa
open Go.RowKit

/-- What Seek answers. -/
def seekR (bs t : List Nat) : Int × Int := if (pdec bs).2 ≠ 0 then (0, (pdec bs).2) else ((skN t (pdec bs).1 : Nat), 0)

set_option maxHeartbeats 800000 in
theorem pseek_any (A : Option Addr) (n c : Nat) (A2 : Option Addr) (n2 c2 : Nat) (bs t : List Nat) (w : World) (hx : Rd .u8 w A n bs) (hu : U8 bs) (hn : n ≤ 140737488355328) (hcap : n ≤ c) (hcm : c ≤ 9223372036854775807) (hy : Rd .u8 w A2 n2 t) (hu2 : U8 t) (_hn2 : n2 ≤ 140737488355328) :
    Calls Try.prog 33 #[.slice A n c, .slice A2 n2 c2] w fun e w' => e = .returned (.tuple #[.int .i64 (seekR bs t).1, .int .i64 (seekR bs t).2]) ∧ Ext w w' := by
  rcases hd : pdec bs with ⟨ss, E⟩
  have HD := Lib.hid (pdecode11_any A n c bs w hx hu hn hcap hcm)
  rw [hd] at HD
  by_cases hE : E = 0
  · subst hE
    have HR := Lib.hid (show seekR bs t = (((skN t ss : Nat) : Int), 0) by unfold seekR; rw [hd]; rfl)
    have hok := pdec_ok hu hd
    have Hall := Lib.hid hok.2.2
    have hl4 := hok.2.1
    have Hy := Lib.hid hy
    have Hu2 := Lib.hid hu2
    clear hd hok hx hu hy hu2
    go_enter Try.func33, Try.ntmps33
    go_wp2_with fail
    refine HD.out.mono ?_
    rintro e w1 ⟨A', c', ts, rfl, hb, hrow, htx, he⟩
    simp only at hb
    have hlen : ts.length ≤ 4096 := by rw [← bodies_len, hb]; exact hl4
    obtain ⟨N, hN⟩ : ∃ N, N = ts.length := ⟨_, rfl⟩
    have hrd := hrow.rdL
    rw [← hN] at hlen hrd ⊢
    have HN := Lib.hid hN
    have Hb := Lib.hid hb
    have Htx := Lib.hid htx
    have He := Lib.hid he
    clear hN hb hrow htx
    go_wp2_with fail
    go_loopw [8] (fun i wr => ∃ j q : Nat, j ≤ N ∧ i = .int .i64 j ∧ wr = w1.drewN q ∧ Hid (skN t ss = j + skN t (ss.drop j))) (fun i _ => N - (intOf i).toNat)
    case atStart => exact ⟨0, 0, Nat.zero_le _, rfl, rfl, by rw [List.drop_zero, Nat.zero_add]; rfl⟩
    case round =>
      obtain ⟨j, q, hj, rfl, rfl, HJ⟩ := hrel
      by_cases hlt : j < N
      · obtain ⟨b, o, s, rfl, hf, hc⟩ := hrd.at_ hlt
        have hsb : ss[j]? = some s.body := by rw [← Hb.out]; exact bodies_at hf
        have hdr : ss.drop j = s.body :: ss.drop (j + 1) := by
          obtain ⟨h1, h2⟩ := List.getElem?_eq_some_iff.1 hsb
          rw [List.drop_eq_getElem_cons h1, h2]
        have hrs := Htx.out.rd s (List.mem_of_getElem? hf)
        have hus := Hall.out _ (List.mem_of_getElem? hsb)
        obtain ⟨sA, sc, body⟩ := s
        simp only at hc hrs hus hdr
        have HC := Lib.hid (fun (W : World) (hW : Ext w1 W) => compareT_any sA A2 body.length sc n2 c2 body t W (hrs.ext hW) ((Hy.out.ext he).ext hW) hus.2 Hu2.out)
        have h0 : skN t (ss.drop j) = if ordT body t < 0 then skN t (ss.drop (j + 1)) + 1 else 0 := by rw [hdr]; rfl
        clear hf hsb hdr hrs
        obtain ⟨m, hm⟩ : ∃ m, m = body.length := ⟨_, rfl⟩
        rw [← hm] at hc HC
        clear hm
        obtain ⟨r, hr⟩ : ∃ r, r = ordT body t := ⟨_, rfl⟩
        rw [← hr] at HC h0
        clear hr hus
        by_cases hneg : r < 0
        · have HJ2 := Lib.hid (show skN t ss = (j + 1) + skN t (ss.drop (j + 1)) by rw [HJ.out, h0, if_pos hneg]; omega)
          have d : decide (r < 0) = true := decide_eq_true hneg
          clear h0
          go_wp2_with fail
          refine (HC.out _ (Ext.of_drewN _ q)).mono ?_
          rintro e w2 ⟨rfl, rfl⟩
          go_wp2_with fail
          go_roundw
          case rel => exact ⟨j + 1, _, by omega, by go_num, by first | rfl | exact World.drewN_drewN .. | fail, HJ2.out⟩
          case measure => simp [intOf]; omega
        · have HJ2 := Lib.hid (show seekR bs t = ((j : Int), 0) by rw [HR.out, HJ.out, h0, if_neg hneg, Nat.add_zero])
          have d : decide (r < 0) = false := decide_eq_false hneg
          clear h0
          go_wp2_with fail
          refine (HC.out _ (Ext.of_drewN _ q)).mono ?_
          rintro e w2 ⟨rfl, rfl⟩
          go_wp2_with fail
          go_ret2
          exact ⟨by rw [HJ2.out]; rfl, by first | exact He.out.drewN _ | exact (He.out.drewN _).drewN _ | fail⟩
      · obtain rfl : j = N := by omega
        have HJ2 := Lib.hid (show seekR bs t = ((j : Int), 0) by rw [HR.out, HJ.out, List.drop_of_length_le (by rw [← Hb.out, bodies_len, ← HN.out]; exact Nat.le_refl _)]; rfl)
        go_wp2_with fail
        go_ret2
        exact ⟨by rw [HJ2.out]; rfl, He.out.drewN _⟩
  · have HR := Lib.hid (show seekR bs t = (0, E) by unfold seekR; rw [hd]; exact if_pos hE)
    have hb1 : (E != 0) = true := by rw [bne_iff_ne]; exact hE
    clear hd hx hu hy hu2
    go_enter Try.func33, Try.ntmps33
    go_wp2_with fail
    refine HD.out.mono ?_
    rintro e w1 ⟨A', c', ts, rfl, hb, hrow, htx, he⟩
    have He := Lib.hid he
    clear hb hrow htx he
    go_wp2_with fail
    go_ret2
    exact ⟨by rw [HR.out]; rfl, He.out⟩

set_option maxHeartbeats 800000 in
theorem refSeek_any (A : Option Addr) (n c : Nat) (A2 : Option Addr) (n2 c2 : Nat) (bs t : List Nat) (w : World) (hx : Rd .u8 w A n bs) (hu : U8 bs) (hn : n ≤ 140737488355328) (hy : Rd .u8 w A2 n2 t) (hu2 : U8 t) (hn2 : n2 ≤ 140737488355328) :
    Calls Try.prog 34 #[.slice A n c, .slice A2 n2 c2] w fun e w' => e = .returned (.tuple #[.int .i64 (seekR bs t).1, .int .i64 (seekR bs t).2]) ∧ Ext w w' := by
  rcases hd : pdec bs with ⟨ss, E⟩
  have HD := Lib.hid (refDecode11_any A n c bs w hx hu hn)
  rw [hd] at HD
  by_cases hE : E = 0
  · subst hE
    have HR := Lib.hid (show seekR bs t = (((skN t ss : Nat) : Int), 0) by unfold seekR; rw [hd]; rfl)
    have hok := pdec_ok hu hd
    have Hall := Lib.hid hok.2.2
    have hl4 := hok.2.1
    have Hy := Lib.hid hy
    have Hu2 := Lib.hid hu2
    clear hd hok hx hu hy hu2
    go_enter Try.func34, Try.ntmps34
    go_wp2_with fail
    refine HD.out.mono ?_
    rintro e w1 ⟨A', c', ts, rfl, hb, hrow, htx, he⟩
    simp only at hb
    have hlen : ts.length ≤ 4096 := by rw [← bodies_len, hb]; exact hl4
    obtain ⟨N, hN⟩ : ∃ N, N = ts.length := ⟨_, rfl⟩
    have hrd := hrow.rdL
    rw [← hN] at hlen hrd ⊢
    have HN := Lib.hid hN
    have Hb := Lib.hid hb
    have Htx := Lib.hid htx
    have He := Lib.hid he
    clear hN hb hrow htx
    go_wp2_with fail
    go_loopw [8] (fun i wr => ∃ j q : Nat, j ≤ N ∧ i = .int .i64 j ∧ wr = w1.drewN q ∧ Hid (skN t ss = j + skN t (ss.drop j))) (fun i _ => N - (intOf i).toNat)
    case atStart => exact ⟨0, 0, Nat.zero_le _, rfl, rfl, by rw [List.drop_zero, Nat.zero_add]; rfl⟩
    case round =>
      obtain ⟨j, q, hj, rfl, rfl, HJ⟩ := hrel
      by_cases hlt : j < N
      · obtain ⟨b, o, s, rfl, hf, hc⟩ := hrd.at_ hlt
        have hsb : ss[j]? = some s.body := by rw [← Hb.out]; exact bodies_at hf
        have hdr : ss.drop j = s.body :: ss.drop (j + 1) := by
          obtain ⟨h1, h2⟩ := List.getElem?_eq_some_iff.1 hsb
          rw [List.drop_eq_getElem_cons h1, h2]
        have hrs := Htx.out.rd s (List.mem_of_getElem? hf)
        have hus := Hall.out _ (List.mem_of_getElem? hsb)
        obtain ⟨sA, sc, body⟩ := s
        simp only at hc hrs hus hdr
        have HC := Lib.hid (fun (W : World) (hW : Ext w1 W) => order_any sA A2 body.length sc n2 c2 body t W (hrs.ext hW) ((Hy.out.ext he).ext hW) (by have := hus.1; omega) hn2)
        have h0 : skN t (ss.drop j) = if ordT body t < 0 then skN t (ss.drop (j + 1)) + 1 else 0 := by rw [hdr]; rfl
        clear hf hsb hdr hrs
        obtain ⟨m, hm⟩ : ∃ m, m = body.length := ⟨_, rfl⟩
        rw [← hm] at hc HC
        clear hm
        obtain ⟨r, hr⟩ : ∃ r, r = ordT body t := ⟨_, rfl⟩
        rw [← hr] at HC h0
        clear hr hus
        by_cases hneg : r < 0
        · have HJ2 := Lib.hid (show skN t ss = (j + 1) + skN t (ss.drop (j + 1)) by rw [HJ.out, h0, if_pos hneg]; omega)
          have d : decide (r < 0) = true := decide_eq_true hneg
          clear h0
          go_wp2_with fail
          refine (HC.out _ (Ext.of_drewN _ q)).mono ?_
          rintro e w2 ⟨rfl, q2, rfl⟩
          go_wp2_with fail
          go_roundw
          case rel => exact ⟨j + 1, _, by omega, by go_num, by first | rfl | exact World.drewN_drewN .. | fail, HJ2.out⟩
          case measure => simp [intOf]; omega
        · have HJ2 := Lib.hid (show seekR bs t = ((j : Int), 0) by rw [HR.out, HJ.out, h0, if_neg hneg, Nat.add_zero])
          have d : decide (r < 0) = false := decide_eq_false hneg
          clear h0
          go_wp2_with fail
          refine (HC.out _ (Ext.of_drewN _ q)).mono ?_
          rintro e w2 ⟨rfl, q2, rfl⟩
          go_wp2_with fail
          go_ret2
          exact ⟨by rw [HJ2.out]; rfl, by first | exact He.out.drewN _ | exact (He.out.drewN _).drewN _ | fail⟩
      · obtain rfl : j = N := by omega
        have HJ2 := Lib.hid (show seekR bs t = ((j : Int), 0) by rw [HR.out, HJ.out, List.drop_of_length_le (by rw [← Hb.out, bodies_len, ← HN.out]; exact Nat.le_refl _)]; rfl)
        go_wp2_with fail
        go_ret2
        exact ⟨by rw [HJ2.out]; rfl, He.out.drewN _⟩
  · have HR := Lib.hid (show seekR bs t = (0, E) by unfold seekR; rw [hd]; exact if_pos hE)
    have hb1 : (E != 0) = true := by rw [bne_iff_ne]; exact hE
    clear hd hx hu hy hu2
    go_enter Try.func34, Try.ntmps34
    go_wp2_with fail
    refine HD.out.mono ?_
    rintro e w1 ⟨A', c', ts, rfl, hb, hrow, htx, he⟩
    have He := Lib.hid he
    clear hb hrow htx he
    go_wp2_with fail
    go_ret2
    exact ⟨by rw [HR.out]; rfl, He.out⟩

end Go.Proofs.Ytpdppldkebfikaa
