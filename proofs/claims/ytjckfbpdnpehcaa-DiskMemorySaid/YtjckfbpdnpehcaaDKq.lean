/-
  Layer 14: the document's example, walked.
-/
import Derived.Test.YtjckfbpdnpehcaaDKp
namespace Go.Proofs.Ytjckfbpdnpehcaa
open Go.RowKit Go.Maps Go.WideMaps
set_option maxRecDepth 100000

theorem new10 : newS 10 = mkS 10 [] [] [] [] 0 := rfl
theorem ext_mark {w : World} (C : Array Value) (t : TypeId) (z : Nat × Nat) : Ext w (w.alloc (.cells C t z)) := (Ext.refl w).alloc _
theorem below_ext {a b c : World} (h : Below a.heap.size a b) (k : Ext b c) : Below a.heap.size a c := h.trans (Below.mono k h.size)

set_option maxHeartbeats 4000000 in
theorem begun_any (w : World) : Calls Try.prog 43 #[] w fun e w' => ∃ dp q, e = .returned (.pointer (some ⟨dp, 0, none⟩)) ∧ DkR w' (fun b => b < w.heap.size) dp (mkS 10 [(nA, q)] [(nA, q)] [] [(q, ⟨[120, 121, 122, 117], 4⟩)] 5) ∧ Ext w w' := by
  go_enter Try.func43, Try.ntmps43
  go_wp2_with fail
  refine (new_Dk 10 _).mono ?_
  rintro e w1 ⟨dp, rfl, h1, hE1⟩
  rw [new10] at h1
  have H1 := Lib.hid h1
  have E1 := Lib.hid (show Below w.heap.size w w1 from hE1)
  clear h1 hE1
  go_wp2_with fail
  refine (create_Dk H1.out (by show (0 : Int) ≤ 0 ∧ (0 : Int) < 1000000000000000; decide) (by show 0 < 10000000000000; decide) nA (by show (1 : Nat) ≤ 140737488355328; decide)).mono ?_
  rintro e w2 hL
  obtain ⟨rfl, q, hq0, h2, hB2⟩ := hL.well (plain_mkS ..) (fun k hk => bg1 k) H1.out
  have H2 := Lib.hid h2
  have E2 := Lib.hid (hB2.below E1.out (fun i hi => hi))
  have Z2 := Lib.hid hB2.size
  have B2 := Lib.hid hB2
  clear hL h2 hB2
  have cv := conv_const w2 w2.heap.size #[.int .u8 120, .int .u8 121, .int .u8 122] 3 3 rfl
  simp only [List.size_toArray, List.length_cons, List.length_nil, Nat.zero_add, Nat.reduceAdd] at cv
  go_wp2_with fail
  refine (append_Dk (ys := [120, 121, 122]) (H2.out.more (ext_mark _ _ _)) (by show (0 : Int) ≤ 1 ∧ (1 : Int) < 1000000000000000; decide) nA (by show (1 : Nat) ≤ 140737488355328; decide) (fit_mkS _ _ _ _ _ (by intro q f hf; simp only [List.mem_cons, Prod.mk.injEq, List.not_mem_nil, or_false] at hf; obtain ⟨_, rfl⟩ := hf; (show _ ≤ _; decide))) (Nat.le_refl _) (Rd.mark_at .u8 5 _ w2 [120, 121, 122] rfl rfl) (by intro x hx; simp at hx; omega) (fun _ a ha => .inr (by injection ha with ha; rw [← ha]; simp))).mono ?_
  rintro e w3 hL
  obtain ⟨rfl, k3, hk3, h3, hB3⟩ := hL.well (plain_mkS ..) (fun k hk => bg2 q) (H2.out.more (ext_mark _ _ _))
  have H3 := Lib.hid (h3.less (fun b hb => .inl hb))
  have E3 := Lib.hid ((hB3.less (fun b hb => .inl hb)).below (below_ext E2.out (ext_mark _ _ _)) (fun i hi => hi))
  have Z3 := Lib.hid (Nat.le_trans (ext_mark (w := w2) #[.int .u8 120, .int .u8 121, .int .u8 122] 5 (3, 3 + 1)).size hB3.size)
  have B3 := Lib.hid ((H2.out.pfr (ext_mark _ _ _)).trans (hB3.less (fun b hb => .inl hb)))
  clear hL h3 hB3 cv
  go_wp2_with fail
  refine (sync_Dk H3.out (by show (0 : Int) ≤ 2 ∧ (2 : Int) < 1000000000000000; decide) (by show 1 < 10000000000000; decide) nA (by show (1 : Nat) ≤ 140737488355328; decide)).mono ?_
  rintro e w4 hL
  obtain ⟨rfl, k4, hk4, h4, hB4⟩ := hL.well (plain_mkS ..) (fun k hk => bg3 q) H3.out
  have H4 := Lib.hid h4
  have E4 := Lib.hid (hB4.below E3.out (fun i hi => hi))
  have Z4 := Lib.hid hB4.size
  have B4 := Lib.hid hB4
  clear hL h4 hB4
  go_wp2_with fail
  refine (syncdir_Dk H4.out (by show (0 : Int) ≤ 3 ∧ (3 : Int) < 1000000000000000; decide)).mono ?_
  rintro e w5 hL
  obtain ⟨rfl, k5, hk5, h5, hB5⟩ := hL.well (plain_mkS ..) (fun k hk => bg4 q) H4.out
  have H5 := Lib.hid h5
  have E5 := Lib.hid (hB5.below E4.out (fun i hi => hi))
  have Z5 := Lib.hid hB5.size
  have B5 := Lib.hid hB5
  clear hL h5 hB5
  have cv := conv_const w5 w5.heap.size #[.int .u8 117, .int .u8 118] 2 2 rfl
  simp only [List.size_toArray, List.length_cons, List.length_nil, Nat.zero_add, Nat.reduceAdd] at cv
  go_wp2_with fail
  refine (append_Dk (ys := [117, 118]) (H5.out.more (ext_mark _ _ _)) (by show (0 : Int) ≤ 4 ∧ (4 : Int) < 1000000000000000; decide) nA (by show (1 : Nat) ≤ 140737488355328; decide) (fit_mkS _ _ _ _ _ (by intro q f hf; simp only [List.mem_cons, Prod.mk.injEq, List.not_mem_nil, or_false] at hf; obtain ⟨_, rfl⟩ := hf; (show _ ≤ _; decide))) (Nat.le_refl _) (Rd.mark_at .u8 5 _ w5 [117, 118] rfl rfl) (by intro x hx; simp at hx; omega) (fun _ a ha => .inr (by injection ha with ha; rw [← ha]; simp))).mono ?_
  rintro e w6 hL
  obtain ⟨rfl, k6, hk6, h6, hB6⟩ := hL.well (plain_mkS ..) (fun k hk => bg5 q) (H5.out.more (ext_mark _ _ _))
  have H6 := Lib.hid (h6.less (fun b hb => .inl hb))
  have E6 := Lib.hid ((hB6.less (fun b hb => .inl hb)).below (below_ext E5.out (ext_mark _ _ _)) (fun i hi => hi))
  have Z6 := Lib.hid (Nat.le_trans (ext_mark (w := w5) #[.int .u8 117, .int .u8 118] 5 (2, 2 + 1)).size hB6.size)
  have B6 := Lib.hid ((H5.out.pfr (ext_mark _ _ _)).trans (hB6.less (fun b hb => .inl hb)))
  clear hL h6 hB6 cv
  go_wp2_with fail
  refine (on_Dk (ks := [0, 1]) (H6.out.more (ext_mark _ _ _)) (RdG.lit shZ 3 w6 [0, 1] rfl rfl) (fit_mkS _ _ _ _ _ (by intro q f hf; simp only [List.mem_cons, Prod.mk.injEq, List.not_mem_nil, or_false] at hf; obtain ⟨_, rfl⟩ := hf; (show _ ≤ _; decide))) (by decide) (fun _ a ha => .inr (by injection ha with ha; rw [← ha]; simp))).mono ?_
  rintro e w7 ⟨rfl, h7, hB7⟩
  rw [bg6] at h7
  have H7 := Lib.hid (h7.less (fun b hb => .inl hb))
  have E7 := Lib.hid ((hB7.less (fun b hb => .inl hb)).below (below_ext E6.out (ext_mark _ _ _)) (fun i hi => hi))
  have B7 := Lib.hid ((H6.out.pfr (ext_mark _ _ _)).trans (hB7.less (fun b hb => .inl hb)))
  clear h7 hB7
  go_wp2
  go_ret
  exact ⟨dp, q, rfl, H7.out, E7.out⟩

end Go.Proofs.Ytjckfbpdnpehcaa
