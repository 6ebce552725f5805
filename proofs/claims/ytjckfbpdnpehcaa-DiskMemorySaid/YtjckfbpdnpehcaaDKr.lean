/-
  Layer 14: the document's example: true.
-/
import Derived.Test.YtjckfbpdnpehcaaDKq
namespace Go.Proofs.Ytjckfbpdnpehcaa
open Go.RowKit Go.Maps Go.WideMaps
set_option maxRecDepth 100000

theorem ss4 : sstr [120, 121, 122, 117] = { data := #[120, 121, 122, 117] } := rfl
theorem ss1 : sstr [119] = { data := #[119] } := rfl
theorem Rd.pfr {P : Nat → Prop} {w w' : World} {A : Option Addr} {n : Nat} {xs : List Nat} (h : Rd .u8 w A n xs) (k : PFr P w w') (hA : 0 < n → ∀ a, A = some a → P a.block) : Rd .u8 w' A n xs := by
  refine ⟨h.1, fun hn => ?_⟩
  obtain ⟨b, o, he, hb, hc⟩ := h.2 hn
  refine ⟨b, o, he, Nat.lt_of_lt_of_le hb k.size, fun j hj => ?_⟩
  rw [← hc j hj]
  exact World.cell?_of_block (a := ⟨b, o + j, none⟩) (k.block b (hA hn _ he))

set_option maxHeartbeats 8000000 in
theorem alive14 (w : World) : Calls Try.prog 8 #[] w fun e w' => e = .returned (.bool true) ∧ Ext w w' := by
  go_enter Try.func8, Try.ntmps8
  go_wp2_with fail
  refine (begun_any _).mono ?_
  rintro e w1 ⟨dp, q, rfl, h1, hE1⟩
  have H1 := Lib.hid h1
  have E1 := Lib.hid (show Below w.heap.size w w1 from hE1)
  have Hq := Lib.hid (h1.lt (q := q) (f := ⟨[120, 121, 122, 117], 4⟩) (by simp [mkS]))
  clear h1 hE1
  go_wp2_with fail
  have HR := read_Dk H1.out nA 0 4 (by show (1 : Nat) ≤ 140737488355328; decide) (fit_mkS _ _ _ _ _ (by intro q f hf; simp only [List.mem_cons, Prod.mk.injEq, List.not_mem_nil, or_false] at hf; obtain ⟨_, rfl⟩ := hf; (show _ ≤ _; decide)))
  rw [bg7] at HR
  refine HR.mono ?_
  rintro e w2 ⟨Ar, cr, rfl, ho, hE2⟩
  have HO2 := Lib.hid ho.rd
  have HB2 := Lib.hid ho.block
  have H2 := Lib.hid (H1.out.more hE2)
  have E2 := Lib.hid (below_ext E1.out hE2)
  have Z2 := Lib.hid hE2.size
  clear ho hE2 HR
  go_wp2_with fail
  refine (create_Dk H2.out (by show (0 : Int) ≤ 5 ∧ (5 : Int) < 1000000000000000; decide) (by show 0 < 10000000000000; decide) nB (by show (1 : Nat) ≤ 140737488355328; decide)).mono ?_
  rintro e w3 hL
  obtain ⟨rfl, q2, hk3, h3, hB3⟩ := hL.well (plain_mkS ..) (fun k hk => bg8 q k) H2.out
  have H3 := Lib.hid h3
  have E3 := Lib.hid (hB3.below E2.out (fun i hi => .inl hi))
  have Z3 := Lib.hid hB3.size
  have B3 := Lib.hid hB3
  clear hL h3 hB3
  have Hne : q ≠ q2 := by have := Hq.out; have := Z2.out; omega
  have HNE := Lib.hid Hne
  clear Hne
  have cv := conv_const w3 w3.heap.size #[.int .u8 119] 1 1 rfl
  simp only [List.size_toArray, List.length_cons, List.length_nil, Nat.zero_add, Nat.reduceAdd] at cv
  go_wp2_with fail
  refine (append_Dk (ys := [119]) (H3.out.more (ext_mark _ _ _)) (by show (0 : Int) ≤ 6 ∧ (6 : Int) < 1000000000000000; decide) nB (by show (1 : Nat) ≤ 140737488355328; decide) (fit_mkS _ _ _ _ _ (by intro q f hf; simp only [List.mem_cons, Prod.mk.injEq, List.not_mem_nil, or_false] at hf; rcases hf with ⟨_, rfl⟩ | ⟨_, rfl⟩ <;> (show _ ≤ _; decide))) (Nat.le_refl _) (Rd.mark_at .u8 5 _ w3 [119] rfl rfl) (by intro x hx; simp at hx; omega) (fun _ a ha => .inr (by injection ha with ha; rw [← ha]; simp))).mono ?_
  rintro e w4 hL
  obtain ⟨rfl, k4, hk4, h4, hB4⟩ := hL.well (plain_mkS ..) (fun k hk => bg9 q q2 HNE.out) (H3.out.more (ext_mark _ _ _))
  have H4 := Lib.hid (h4.less (fun b hb => .inl hb))
  have E4 := Lib.hid ((hB4.less (fun b hb => .inl hb)).below (below_ext E3.out (ext_mark _ _ _)) (fun i hi => .inl hi))
  have Z4 := Lib.hid (Nat.le_trans (ext_mark (w := w3) #[.int .u8 119] 5 (1, 1 + 1)).size hB4.size)
  have B4 := Lib.hid ((H3.out.pfr (ext_mark _ _ _)).trans (hB4.less (fun b hb => .inl hb)))
  clear hL h4 hB4 cv
  go_wp2_with fail
  refine (sync_Dk H4.out (by show (0 : Int) ≤ 7 ∧ (7 : Int) < 1000000000000000; decide) (by show 1 < 10000000000000; decide) nB (by show (1 : Nat) ≤ 140737488355328; decide)).mono ?_
  rintro e w5 hL
  obtain ⟨rfl, k5, hk5, h5, hB5⟩ := hL.well (plain_mkS ..) (fun k hk => bg10 q q2 HNE.out) H4.out
  have H5 := Lib.hid h5
  have E5 := Lib.hid (hB5.below E4.out (fun i hi => .inl hi))
  have Z5 := Lib.hid hB5.size
  have B5 := Lib.hid hB5
  clear hL h5 hB5
  go_wp2_with fail
  refine (rename_Dk H5.out (by show (0 : Int) ≤ 8 ∧ (8 : Int) < 1000000000000000; decide) (by show 1 < 10000000000000; decide) nB nA (by show (1 : Nat) ≤ 140737488355328; decide) (by show (1 : Nat) ≤ 140737488355328; decide)).mono ?_
  rintro e w6 hL
  obtain ⟨rfl, k6, hk6, h6, hB6⟩ := hL.well (plain_mkS ..) (fun k hk => bg11 q q2) H5.out
  have H6 := Lib.hid h6
  have E6 := Lib.hid (hB6.below E5.out (fun i hi => .inl hi))
  have Z6 := Lib.hid hB6.size
  have B6 := Lib.hid hB6
  clear hL h6 hB6
  go_wp2_with fail
  refine (on_Dk (ks := [2]) (H6.out.more (ext_mark _ _ _)) (RdG.lit shZ 3 w6 [2] rfl rfl) (fit_mkS _ _ _ _ _ (by intro q f hf; simp only [List.mem_cons, Prod.mk.injEq, List.not_mem_nil, or_false] at hf; rcases hf with ⟨_, rfl⟩ | ⟨_, rfl⟩ <;> (show _ ≤ _; decide))) (by decide) (fun _ a ha => .inr (by injection ha with ha; rw [← ha]; simp))).mono ?_
  rintro e w7 ⟨rfl, h7, hB7⟩
  rw [bg12 q q2 HNE.out] at h7
  have H7 := Lib.hid (h7.less (fun b hb => .inl hb))
  have E7 := Lib.hid ((hB7.less (fun b hb => .inl hb)).below (below_ext E6.out (ext_mark _ _ _)) (fun i hi => .inl hi))
  have B7 := Lib.hid ((H6.out.pfr (ext_mark _ _ _)).trans (hB7.less (fun b hb => .inl hb)))
  clear h7 hB7
  go_wp2_with fail
  have HR := read_Dk H7.out nA 0 1 (by show (1 : Nat) ≤ 140737488355328; decide) (fit_mkS _ _ _ _ _ (by intro q f hf; simp only [List.mem_cons, Prod.mk.injEq, List.not_mem_nil, or_false] at hf; rcases hf with ⟨_, rfl⟩ | ⟨_, rfl⟩ <;> (show _ ≤ _; decide)))
  rw [bg13 q q2 HNE.out] at HR
  refine HR.mono ?_
  rintro e w8 ⟨As, cs, rfl, ho, hE8⟩
  have hB28 := ((((B3.out.trans B4.out).trans B5.out).trans B6.out).trans B7.out).trans (H7.out.pfr hE8)
  have hs4 := conv_str (c := cr) (HO2.out.pfr hB28 (fun _ a ha => .inr (HB2.out a ha)))
  have hs1 := conv_str (c := cs) ho.rd
  rw [ss4] at hs4
  rw [ss1] at hs1
  simp only [List.length_cons, List.length_nil, Nat.zero_add, Nat.reduceAdd] at hs4 hs1
  have H8 := Lib.hid (H7.out.ext hE8)
  have E8 := Lib.hid (below_ext E7.out hE8)
  have HF := Lib.hid (files_Dk H8.out (fit_mkS _ _ _ _ _ (by intro q f hf; simp only [List.mem_cons, Prod.mk.injEq, List.not_mem_nil, or_false] at hf; rcases hf with ⟨_, rfl⟩ | ⟨_, rfl⟩ <;> (show _ ≤ _; decide))))
  have hL : (filesC (mkS 10 [(nA, q2)] [(nA, q2)] [] [(q, ⟨[120, 121, 122, 117], 4⟩), (q2, ⟨[119], 1⟩)] 9)).length = 1 := by simp [filesC, mkS]
  unfold FilesPost at HF
  rw [hL] at HF
  clear ho hE8 HR hB28 hL
  go_wp2_with fail
  refine HF.out.mono ?_
  rintro e w9 ⟨Af, cf, R, rfl, _, _, _, hE9⟩
  have HS := Lib.hid (steps_Dk (H8.out.ext hE9))
  have E9 := Lib.hid (below_ext E8.out hE9)
  rw [show (mkS 10 [(nA, q2)] [(nA, q2)] [] [(q, ⟨[120, 121, 122, 117], 4⟩), (q2, ⟨[119], 1⟩)] 9).steps = 9 from rfl] at HS
  clear hE9 hs4 hs1
  go_wp2_with fail
  refine HS.out.mono ?_
  rintro e w10 ⟨rfl, rfl⟩
  go_wp2
  go_ret
  exact ⟨rfl, E9.out⟩

end Go.Proofs.Ytjckfbpdnpehcaa
