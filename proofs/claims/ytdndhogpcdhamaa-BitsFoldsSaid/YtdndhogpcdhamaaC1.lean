import Derived.Test.YtdndhogpcdhamaaB10
namespace Go.Proofs.Ytdndhogpcdhamaa
open Go.RowKit

set_option maxHeartbeats 1600000 in
/-- The document's examples hold. -/
theorem alive1 (w : World) :
    Calls Try.prog 14 #[] w fun e w' => e = .returned (.bool true) ∧ Ext w w' := by
  go_enter Try.func14, Try.ntmps14
  go_wp2_with fail
  have r1 : Rd .u64 _ _ 3 _ := Rd.lit .u64 41 w [5, 2, 7]
  refine (pack_any _ _ _ _ [5, 2, 7] _ r1 (by decide) (by decide)).mono ?_
  rintro e w1 ⟨A1, c1, rfl, hown1, he1⟩
  rw [show packL 3 [5, 2, 7] = [213, 1] from by decide] at hown1 ⊢
  rw [show packE 3 [5, 2, 7] = 0 from by decide]
  go_wp2_with fail
  have r2 : Rd .u8 _ _ 2 _ := Rd.lit .u8 5 w1 [213, 1]
  refine (unpack_any _ _ _ _ _ [213, 1] _ r2 (by decide) (by decide)).mono ?_
  rintro e w2 ⟨A2, c2, rfl, hown2, he2⟩
  rw [show unpL (pk 8 [213, 1]) 2 3 3 = [5, 2, 7] from by decide] at hown2 ⊢
  rw [show unpE (pk 8 [213, 1]) 2 3 3 = 0 from by decide]
  go_wp2_with fail
  have r3 : Rd .u8 _ _ 2 _ := Rd.lit .u8 5 w2 [213, 1]
  refine (at_any _ _ _ _ _ [213, 1] _ r3 (by decide) (by decide) (by decide)).mono ?_
  rintro e w3 ⟨rfl, rfl⟩
  rw [show atS (pk 8 [213, 1]) 2 3 2 = (7, true) from by decide]
  go_wp2_with fail
  refine (narrow_any _ _ _ (by decide) (by decide)).mono ?_
  rintro e w3 ⟨rfl, rfl⟩
  rw [show narV 200 1 = -56 from by decide, show narB 200 1 = false from by decide]
  have hr1 := hown1.rd.ext (((Ext.refl w1).alloc _).trans (he2.trans ((Ext.refl w2).alloc (.cells ([213, 1].map fun x : Nat => Value.int .u8 (x : Int)).toArray 5))))
  obtain ⟨b, o, rfl, hlt, hc⟩ := (hown2.rd.ext ((Ext.refl w2).alloc (.cells ([213, 1].map fun x : Nat => Value.int .u8 (x : Int)).toArray 5))).at_ (show 0 < 3 by decide)
  have hc0 : (w2.alloc (.cells #[.int .u8 213, .int .u8 1] 5)).cell? ⟨b, o, none⟩ = some (.int .u64 5) := hc
  clear hc
  go_wp2_with fail
  have r4 := Rd.lit_at .u8 5 (w2.alloc (.cells #[.int .u8 213, .int .u8 1] 5)) [213, 1] (b := w2.heap.size + 1) (n := 2) (by simp) rfl
  refine (same_yes (hr1.ext ((Ext.refl _).alloc _)) r4 (by decide)).mono ?_
  rintro e w3 ⟨rfl, q, rfl⟩
  go_wp2_with fail
  refine (width_any _ _ _ [5, 2] _ (Rd.lit_at .u64 41 _ [5, 2] (by simp) rfl) (by decide) (by decide)).mono ?_
  rintro e w3 ⟨rfl, rfl⟩
  rw [show wdt [5, 2] = 3 from by decide]
  go_wp2_with fail
  refine (fold_any _ _ (by decide) (by decide)).mono ?_
  rintro e w3 ⟨rfl, rfl⟩
  rw [show foldS (-3) = 5 from by decide]
  go_wp2_with fail
  refine (unfold_any _ _ (by decide) (by decide)).mono ?_
  rintro e w3 ⟨rfl, rfl⟩
  rw [show unfS 5 = -3 from by decide]
  go_wp2_with fail
  refine (flip_any _ _ (by decide) (by decide)).mono ?_
  rintro e w3 ⟨rfl, rfl⟩
  rw [show flipS 0 = 9223372036854775808 from by decide]
  go_wp2_with fail
  refine (unflip_any _ _ (by decide) (by decide)).mono ?_
  rintro e w3 ⟨rfl, rfl⟩
  rw [show unflS 0 = -9223372036854775808 from by decide]
  go_wp2_with fail
  go_ret
  have hE := (((((Ext.refl w).alloc _).trans he1).trans ((Ext.refl w1).alloc _)).trans he2)
  exact ⟨rfl, (((hE.alloc _).alloc _).drewN _).alloc _⟩

end Go.Proofs.Ytdndhogpcdhamaa
