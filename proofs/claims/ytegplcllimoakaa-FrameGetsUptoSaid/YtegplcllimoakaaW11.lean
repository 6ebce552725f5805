/-
  Layer 4: the law of frames read.
-/
import Derived.Test.YtegplcllimoakaaW11h
namespace Go.Proofs.Ytegplcllimoakaa
open Go.RowKit

set_option maxHeartbeats 3200000 in
theorem walk_FrameGets (A : Option Addr) (n c : Nat) (bs : List Nat) (at_ : Int) (w : World) (hx : Rd .u8 w A n bs) (hu : U8 bs) (hn : n ≤ 1048576) (_h1 : -9223372036854775808 ≤ at_) (h2 : at_ ≤ 9223372036854775807) :
    Calls Try.prog 9 #[.slice A n c, .int .i64 at_] w fun e w' => e = .returned (.bool true) ∧ Ext w w' := by
  have hlx := hx.len
  have Hl := Lib.hid hx.len
  obtain ⟨hs1, hs2, hs3⟩ := scn_facts hu (bs.length + 1) 0 (Nat.zero_le _)
  have hgl := fget_len hu at_
  obtain ⟨L, last, K, hS⟩ : ∃ L last K, fscan bs = (L, last, K) := ⟨_, _, _, rfl⟩
  have hbs1 : (fscan bs).1.length ≤ 1048576 := by unfold fscan; omega
  have hbs3 : ∀ p ∈ (fscan bs).1, p.2.length ≤ 65536 ∧ U8 p.2 := hs3
  rw [hS] at hbs1 hbs3
  simp only at hbs1 hbs3
  have HS := Lib.hid hS
  clear hs1 hs2 hs3 hlx hS
  go_enter Try.func9, Try.ntmps9
  go_wp2_with fail
  refine (alive4 _).mono ?_
  rintro e w1 ⟨rfl, he1⟩
  go_wp2_with fail
  refine (wide_any _ _ _ _ _ (hx.ext he1) (by omega)).mono ?_
  rintro e w2 ⟨A2, c2, rfl, hown2, he2⟩
  have hr2 := hown2.rd_take (n := n) (by rw [List.length_append, Hl.out]; omega)
  rw [List.take_left' Hl.out] at hr2
  have hri := hown2.rd' (n := n + 64) (by rw [List.length_append, Hl.out]; rfl)
  obtain ⟨b, rfl, _, hb, hcap, hcm⟩ := hown2.form (by rw [List.length_append, marks_len]; omega)
  rw [List.length_append, Hl.out, marks_len] at hcap
  have hx2 := (hx.ext he1).ext he2
  have hE2 := he1.trans he2
  clear hown2
  go_wp2_with fail
  refine (fget_any _ _ _ at_ bs _ hr2 hu (.inl ⟨_, _, rfl⟩) (by omega) (by omega) (by omega)).mono ?_
  rintro e w3 ⟨A3, c3, rfl, hown3, he3⟩
  obtain ⟨k, body, nx, r, hg⟩ : ∃ k body nx r, fget bs at_ = (k, body, nx, r) := ⟨_, _, _, _, rfl⟩
  rw [hg] at hown3 hgl ⊢
  simp only at hown3 hgl ⊢
  have Hg := Lib.hid hg
  clear hg
  have hX3 := (Ext.refl w3).alloc (.cells #[.int .i64 (k : Int), .slice A3 body.length c3] 45)
  go_wp2_with fail
  refine (refFGet_any _ _ _ at_ bs _ ((hx2.ext he3).ext hX3) hu (by omega) h2).mono ?_
  rintro e w4 ⟨A4, c4, rfl, hown4, he4⟩
  rw [Hg.out] at hown4 ⊢
  simp only at hown4 ⊢
  have hX4 := (Ext.refl w4).alloc (.cells #[.int .i64 (k : Int), .slice A4 body.length c4] 45)
  have hk := Ext.kept (he4.trans hX4)
  have k0 := cell_of_row _ w3.heap.size 0 _ _ (0, 0) hk
  have k1 := cell_of_row _ w3.heap.size 1 _ _ (0, 0) hk
  have hk2 := heap_alloc_new w4 (.cells #[.int .i64 (k : Int), .slice A4 body.length c4] 45)
  have k2 := cell_of_row _ w4.heap.size 0 _ _ (0, 0) hk2
  have k3 := cell_of_row _ w4.heap.size 1 _ _ (0, 0) hk2
  have k0' : (w4.alloc (.cells #[.int .i64 (k : Int), .slice A4 body.length c4] 45)).cell? ⟨w3.heap.size, 0, none⟩ = some (.int .i64 (k : Int)) := k0
  have k1' : (w4.alloc (.cells #[.int .i64 (k : Int), .slice A4 body.length c4] 45)).cell? ⟨w3.heap.size, 1, none⟩ = some (.slice A3 body.length c3) := k1
  have k2' : (w4.alloc (.cells #[.int .i64 (k : Int), .slice A4 body.length c4] 45)).cell? ⟨w4.heap.size, 0, none⟩ = some (.int .i64 (k : Int)) := k2
  have k3' : (w4.alloc (.cells #[.int .i64 (k : Int), .slice A4 body.length c4] 45)).cell? ⟨w4.heap.size, 1, none⟩ = some (.slice A4 body.length c4) := k3
  have hB3 := ((hown3.rd.ext hX3).ext he4).ext hX4
  have hB4 := hown4.rd.ext hX4
  have hE24 := ((he3.trans hX3).trans he4).trans hX4
  have hx5 := hx2.ext hE24
  have hr5 := hr2.ext hE24
  have hri5 := hri.ext hE24
  have hE5 := hE2.trans hE24
  have hz2 := hE2.size
  have hz5 := hE24.size
  clear k0 k1 k2 k3 hk hk2 hown3 hown4 hX3 hX4 he3 he4 hx2 hr2 hri hE24
  go_wp2_with fail
  refine (same_yes hB3 hB4 (by omega)).mono ?_
  rintro e w5 ⟨rfl, q5, rfl⟩
  obtain ⟨W5, hW5⟩ : ∃ W5, W5 = World.drewN (w4.alloc (.cells #[.int .i64 (k : Int), .slice A4 body.length c4] 45)) q5 := ⟨_, rfl⟩
  have hr6 := hr5.drewN q5
  have hx6 := hx5.drewN q5
  have hri6 := hri5.drewN q5
  have hE6 := hE5.drewN q5
  have hz6 : w2.heap.size ≤ W5.heap.size := by rw [hW5]; simpa using hz5
  rw [← hW5] at hr6 hx6 hri6 hE6
  go_wp2_with fail
  rw [← hW5]
  clear hW5 hr5 hx5 hri5 hE5 hz5 hB3 hB4 k0' k1' k2' k3'
  refine (fscan_any _ _ _ bs _ hr6 hu (.inl ⟨_, _, rfl⟩) hn (by omega) (by omega)).mono ?_
  rintro e w6 ⟨xs, A6, c6, rfl, hkv6, hown6, hbods6, he6⟩
  rw [HS.out] at hkv6 ⊢
  simp only at hkv6 ⊢
  have hl6 : xs.length = L.length := by rw [← hkv6, List.length_map]
  rw [hl6]
  go_wp2_with fail
  refine (fscan_any _ _ _ bs _ (hr6.ext he6) hu (.inl ⟨_, _, rfl⟩) hn (by omega) (by omega)).mono ?_
  rintro e w7 ⟨ys, A7, c7, rfl, hkv7, hown7, hbods7, he7⟩
  rw [HS.out] at hkv7 ⊢
  simp only at hkv7 ⊢
  have hl7 : ys.length = L.length := by rw [← hkv7, List.length_map]
  rw [hl7]
  go_wp2_with fail
  refine (refFScan_any _ _ _ bs _ ((hx6.ext he6).ext he7) hu hn).mono ?_
  rintro e w8 ⟨zs, A8, c8, rfl, hkv8, hown8, hbods8, he8⟩
  rw [HS.out] at hkv8 ⊢
  simp only at hkv8 ⊢
  have hl8 : zs.length = L.length := by rw [← hkv8, List.length_map]
  rw [hl8]
  have hrX := (hown6.rdF hbods6).ext (he7.trans he8)
  have hrY := (hown7.rdF hbods7).ext he8
  have hrZ := hown8.rdF hbods8
  rw [hl6] at hrX
  rw [hl7] at hrY
  rw [hl8] at hrZ
  have hBX : ∀ s ∈ xs.map Fr.sl, Own .u8 5 w8 0 s.A s.c s.body := fun s hs => by
    obtain ⟨f, hf, rfl⟩ := List.mem_map.1 hs
    exact ((hbods6.1 f hf).ext (he7.trans he8)).zero
  have hBZ : ∀ s ∈ zs.map Fr.sl, Rd .u8 w8 s.A s.body.length s.body := fun s hs => by
    obtain ⟨f, hf, rfl⟩ := List.mem_map.1 hs
    exact (hbods8.1 f hf).rd
  have hin := hbods6.within
  have hun := hbods6.unlike
  have hlen : ∀ s ∈ xs.map Fr.sl, s.body.length ≤ 65536 ∧ U8 s.body := fun s hs => by
    obtain ⟨f, hf, rfl⟩ := List.mem_map.1 hs
    exact hbs3 _ (kv_mem hkv6 hf)
  have hl6' : ∀ f ∈ xs, f.body.length ≤ 281474976710656 := fun f hf => by have := (hbs3 _ (kv_mem hkv6 hf)).1; simp only at this; omega
  have hl7' : ∀ f ∈ ys, f.body.length ≤ 281474976710656 := fun f hf => by have := (hbs3 _ (kv_mem hkv7 hf)).1; simp only at this; omega
  have hfY : Far (xs.map Fr.sl) A7 := hin.far_hi fun a ha => (hown7.block a ha).1
  have hfYb : ∀ f ∈ ys, 0 < f.body.length → Far (xs.map Fr.sl) f.A := fun f hf _ => hin.far_hi fun a ha => ((hbods7.1 f hf).block a ha).1
  have z7 := he7.size
  have z8 := he8.size
  have hfZ : Far (xs.map Fr.sl) A8 := hin.far_hi fun a ha => Nat.le_trans z7 (hown8.block a ha).1
  have hfZb : ∀ f ∈ zs, 0 < f.body.length → Far (xs.map Fr.sl) f.A := fun f hf _ => hin.far_hi fun a ha => Nat.le_trans z7 ((hbods8.1 f hf).block a ha).1
  have hfW : Far (xs.map Fr.sl) (some ⟨b, 0, none⟩) := hin.far_lo fun a ha => by injection ha with ha; subst ha; simp only; omega
  have hfA : 0 < n → Far (xs.map Fr.sl) A := fun h0 => hin.far_lo fun a ha => by have := hx.lt h0 a ha; omega
  have hx8 := ((hx6.ext he6).ext he7).ext he8
  have hri8 := ((hri6.ext he6).ext he7).ext he8
  have hE8 := ((hE6.trans he6).trans he7).trans he8
  have hlo : ∀ s ∈ xs.map Fr.sl, ∀ p, s.A = some p → w.heap.size ≤ p.block := fun s hs p hp => by have := hin s hs p hp; omega
  have e67 : xs.map Fr.kv = zs.map Fr.kv := hkv6.trans hkv8.symm
  have e78 : ys.map Fr.kv = zs.map Fr.kv := hkv7.trans hkv8.symm
  have z78 := Nat.le_trans z7 z8
  obtain ⟨N, hN⟩ : ∃ N, N = L.length := ⟨_, rfl⟩
  rw [← hN] at hrX hrY hrZ hbs1 hl6 hl7 hl8 ⊢
  have Hn6 := Lib.hid hl6
  have Hn8 := Lib.hid hl8
  have He67 := Lib.hid e67
  have He78 := Lib.hid e78
  clear hN hl6 hl7 hl8 e67 e78 hown6 hown7 hown8 hbods6 hbods7 hbods8 hkv6 hkv7 hkv8 hr6 hx6 hri6 hE6 he6 he7 he8 z7 z8 hbs3
  go_wp2_with fail
  refine (alike_yes _ _ N _ _ xs zs _ hrX hrZ He67.out hbs1 hl6').mono ?_
  rintro e w9 ⟨rfl, q9, rfl⟩
  go_wp2_with fail
  refine (alike_yes _ _ N _ _ ys zs _ (hrY.ext ((Ext.refl _).drewN _)) (hrZ.ext ((Ext.refl _).drewN _)) He78.out hbs1 hl7').mono ?_
  rintro e w9 ⟨rfl, qa, rfl⟩
  go_wp2_with fail
  refine (bodies_any _ N _ xs _ (hrX.ext ((Ext.refl _).drewN _)) hbs1).mono ?_
  rintro e w10 ⟨A10, c10, rfl, hown10, he10⟩
  go_wp2_with fail
  refine (bodies_any _ N _ zs _ ((hrZ.ext ((Ext.refl _).drewN _)).ext he10) hbs1).mono ?_
  rintro e w11 ⟨A11, c11, rfl, hown11, he11⟩
  have hE89 : Ext w8 w10 := ((Ext.refl w8).drewN _).trans he10
  have hE811 := hE89.trans he11
  have z10 := he10.size
  simp at z10
  have y10 : ∀ a, A10 = some a → w6.heap.size ≤ a.block := fun a ha => by
    have h1 := (hown10.block a ha).1
    simp at h1
    omega
  have y11 : ∀ a, A11 = some a → w6.heap.size ≤ a.block := fun a ha => by
    have h1 := (hown11.block a ha).1
    omega
  have hrl10 : RdL w11 A10 N (xs.map Fr.sl) := by
    have := (hown10.ext he11).rdL
    rw [List.length_map, Hn6.out] at this
    exact this
  have hrl11 : RdL w11 A11 N (zs.map Fr.sl) := by
    have := hown11.rdL
    rw [List.length_map, Hn8.out] at this
    exact this
  have hrY11 := hrY.ext hE811
  have hrZ11 := hrZ.ext hE811
  have hx11 := hx8.ext hE811
  have hri11 := hri8.ext hE811
  have hE11 := hE8.trans hE811
  have hBX11 : ∀ s ∈ xs.map Fr.sl, Own .u8 5 w11 0 s.A s.c s.body := fun s hs => (hBX s hs).ext hE811
  have hBZ11 : ∀ s ∈ zs.map Fr.sl, Rd .u8 w11 s.A s.body.length s.body := fun s hs => (hBZ s hs).ext hE811
  have hfZs : ∀ t ∈ zs.map Fr.sl, 0 < t.body.length → Far (xs.map Fr.sl) t.A := fun t ht h0 => by
    obtain ⟨f, hf, rfl⟩ := List.mem_map.1 ht
    exact hfZb f hf h0
  have hsl := Lib.hid (kv_sl He67.out)
  have hfx := fun _ : 0 < N => hin.far_hi y10
  have hfy := fun _ : 0 < N => hin.far_hi y11
  clear hown10 hown11 he10 he11 hE89 hE811 hrX hrY hrZ hx8 hri8 hE8 hBX hBZ y10 y11 z10
  go_wp2_with fail
  refine (apartAll_any _ _ N _ _ (xs.map Fr.sl) (zs.map Fr.sl) _ hrl10 hrl11 hsl.out hbs1 hBX11 (fun s hs => (hlen s hs).2) (fun s hs => Nat.le_trans (hlen s hs).1 (by omega)) hBZ11 hun hfx hfy hfZs).mono ?_
  rintro e w12 ⟨rfl, hK⟩
  have hrY12 := hrY11.kept hK (fun _ => hfY) hfYb
  have hrZ12 := hrZ11.kept hK (fun _ => hfZ) hfZb
  have hx12 := hx11.kept hK hfA
  have hri12 := hri11.kept hK (fun _ => hfW)
  have hE12 := hK.toExt hE11 hlo
  clear hK hrl10 hrl11 hBX11 hBZ11 hrY11 hrZ11 hx11 hri11 hE11 hlen hun hfx hfy hfZs
  go_wp2_with fail
  refine (alike_yes _ _ N _ _ ys zs _ hrY12 hrZ12 He78.out hbs1 hl7').mono ?_
  rintro e w13 ⟨rfl, qb, rfl⟩
  go_wp2_with fail
  refine (intact_yes (hri12.drewN _) (hx12.drewN _) (by omega) (by omega)).mono ?_
  rintro e w13 ⟨rfl, qc, rfl⟩
  go_wp2_with fail
  go_ret
  exact ⟨rfl, hE12.drewN _⟩

end Go.Proofs.Ytegplcllimoakaa
