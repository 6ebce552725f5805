import Derived.Test.YtdndhogpcdhamaaC1
namespace Go.Proofs.Ytdndhogpcdhamaa
open Go.RowKit

set_option maxHeartbeats 1600000 in
theorem walk_BitsAt (A : Option Addr) (n c : Nat) (bs : List Nat) (wd i : Int) (w : World) (hx : Rd .u8 w A n bs) (hu : U8 bs) (hz : n * 1 ≤ 140737488351232) (_h1 : -9223372036854775808 ≤ wd) (_h2 : wd ≤ 9223372036854775807) (_h3 : -9223372036854775808 ≤ i) (h4 : i ≤ 9223372036854775807) :
    Calls Try.prog 7 #[.slice A n c, .int .i64 wd, .int .i64 i] w fun e w' => e = .returned (.bool true) ∧ Ext w w' := by
  go_enter Try.func7, Try.ntmps7
  go_wp2_with fail
  refine (alive1 _).mono ?_
  rintro e w1 ⟨rfl, he1⟩
  go_wp2_with fail
  refine (wide_any _ _ _ _ _ (hx.ext he1) (by omega)).mono ?_
  rintro e w2 ⟨A2, c2, rfl, hown2, he2⟩
  have hr2 := hown2.rd_take (n := n) (by rw [List.length_append, hx.len]; omega)
  rw [List.take_left' hx.len] at hr2
  have hri := hown2.rd' (n := n + 64) (by rw [List.length_append, hx.len]; rfl)
  obtain ⟨b, rfl, _, hb, hcap, hcm⟩ := hown2.form (by rw [List.length_append, marks_len]; omega)
  rw [List.length_append, hx.len, marks_len] at hcap
  have hx2 := (hx.ext he1).ext he2
  go_wp2_with fail
  refine (at_any _ _ _ _ _ bs _ hr2 hu (by omega) (by omega)).mono ?_
  rintro e w3 ⟨rfl, rfl⟩
  obtain ⟨x, hxx⟩ : ∃ x, x = atS (pk 8 bs) n wd i := ⟨_, rfl⟩
  rw [← hxx]
  go_wp2_with fail
  refine (refAt_any _ _ _ _ _ bs _ hx2 hu (by omega)).mono ?_
  rintro e w3 ⟨rfl, q, rfl⟩
  rw [← hxx]
  have t1 : (((x.1 : Nat) : Int) == ((x.1 : Nat) : Int)) = true := by simp
  have t2 : (x.2 == x.2) = true := by simp
  clear hxx
  go_wp2_with fail
  refine (intact_yes (hri.drewN q) (hx2.drewN q) (by omega) (by omega)).mono ?_
  rintro e w3 ⟨rfl, q2, rfl⟩
  go_wp2_with fail
  go_ret
  exact ⟨rfl, (he1.trans he2).drewN _⟩

end Go.Proofs.Ytdndhogpcdhamaa
