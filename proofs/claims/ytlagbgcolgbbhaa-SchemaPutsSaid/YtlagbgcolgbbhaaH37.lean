/-
  Layer 6: the statement SchemaPuts, walked.
-/
import Derived.Test.YtlagbgcolgbbhaaZ12
namespace Go.Proofs.Ytlagbgcolgbbhaa
open Go.RowKit

set_option maxHeartbeats 12800000 in
set_option maxRecDepth 100000 in
theorem walk_SchemaPuts (A : Option Addr) (n c : Nat) (keys : Int) (cs : List Col) (A2 : Option Addr) (n2 c2 : Nat) (xs : List Ci) (A3 : Option Addr) (n3 c3 : Nat) (ts : List Si) (w : World) (hs : SchIn w A n c cs) (hx : RdX w A2 n2 xs) (hz2 : n2 * 40 ≤ 140737488351232) (ht : RdT w A3 n3 ts) (hz3 : n3 * 48 ≤ 140737488351232) :
    Calls Try.prog 5 #[.agg #[.slice A n c, .int .i64 keys], .slice A2 n2 c2, .slice A3 n3 c3] w fun e w' => e = .returned (.bool true) ∧ Ext w w' := by
  have hE : Ext w (w.alloc (.cells #[.slice A n c, .int .i64 keys] 24)) := (Ext.refl w).alloc _
  have sb := AtS.box w A n c keys
  obtain ⟨hLu, hLl⟩ := prowL_facts (keys := keys) (cs := cs) hx
  obtain ⟨hMu, hMl⟩ := psetsL_facts (keys := keys) (cs := cs) ht
  have hpv := fun (fs : List Ci) (h : fs.map Ci.val = xs.map Ci.val) => prowL_val (keys := keys) (cs := cs) h
  have hsv := fun (fs : List Si) (h : fs.map Si.val = ts.map Si.val) => psetsL_val (keys := keys) (cs := cs) h
  obtain ⟨L, hL⟩ : ∃ L, L = prowL keys cs xs := ⟨_, rfl⟩
  obtain ⟨E, hE0⟩ : ∃ E, E = rowS keys cs xs := ⟨_, rfl⟩
  obtain ⟨M, hM⟩ : ∃ M, M = psetsL keys cs ts := ⟨_, rfl⟩
  obtain ⟨D, hD⟩ : ∃ D, D = setsS keys cs ts := ⟨_, rfl⟩
  rw [← hL] at hLu hLl
  rw [← hM] at hMu hMl
  have HP1 : Hid (∀ W B m d fs, SchIn W A n c cs → RdX W B m fs → m ≤ 140737488355328 → fs.map Ci.val = xs.map Ci.val → Calls Try.prog 35 #[.agg #[.slice A n c, .int .i64 keys], .slice B m d] W (CPutPost L E W)) := Lib.hid (fun W B m d fs h1 h2 h3 h4 => by
    have h := sputRow_any A n c keys cs B m d fs W h1 h2 h3
    rw [(hpv fs h4).1, (hpv fs h4).2, ← hL, ← hE0] at h
    exact h)
  have HP2 : Hid (∀ W, SchIn W A n c cs → RdX W A2 n2 xs → Calls Try.prog 34 #[.agg #[.slice A n c, .int .i64 keys], .slice A2 n2 c2] W (CPutPost L E W)) := Lib.hid (fun W h1 h2 => by
    rw [hL, hE0]
    exact refPutRow_any A n c keys cs A2 n2 c2 xs W h1 h2 (by omega))
  have HQ1 : Hid (∀ W B m d fs, SchIn W A n c cs → RdT W B m fs → m ≤ 140737488355328 → fs.map Si.val = ts.map Si.val → Calls Try.prog 37 #[.agg #[.slice A n c, .int .i64 keys], .slice B m d] W (CPutPost M D W)) := Lib.hid (fun W B m d fs h1 h2 h3 h4 => by
    have h := sputSets_any A n c keys cs B m d fs W h1 h2 h3
    rw [(hsv fs h4).1, (hsv fs h4).2, ← hM, ← hD] at h
    exact h)
  have HQ2 : Hid (∀ W, SchIn W A n c cs → RdT W A3 n3 ts → Calls Try.prog 36 #[.agg #[.slice A n c, .int .i64 keys], .slice A3 n3 c3] W (CPutPost M D W)) := Lib.hid (fun W h1 h2 => by
    rw [hM, hD]
    exact refPutSets_any A n c keys cs A3 n3 c3 ts W h1 h2 (by omega))
  have HF1 := Lib.hid (vals_full hx)
  have HF2 := Lib.hid (tvals_full ht)
  have HC1 := Lib.hid (rd_cap hx)
  have HC2 := Lib.hid (rdT_cap ht)
  obtain ⟨l, hl⟩ : ∃ l, L.length = l := ⟨_, rfl⟩
  obtain ⟨m, hm⟩ : ∃ m, M.length = m := ⟨_, rfl⟩
  have Hl := Lib.hid hl
  have Hm := Lib.hid hm
  rw [hl] at hLl
  rw [hm] at hMl
  have hEE : (E != E) = false := by simp
  have hDD : (D != D) = false := by simp
  clear hL hE0 hM hD hpv hsv hl hm
  go_enter Try.func5, Try.ntmps5
  go_wp2_with fail
  refine (alive6 _).mono ?_
  rintro e w1 ⟨rfl, he1⟩
  have hE1 := hE.trans he1
  obtain ⟨k0, k1, kz⟩ := sb.ext he1
  go_wp2_with fail
  refine (twinRow_any A2 n2 c2 xs _ (hx.ext hE1) (by omega)).mono ?_
  rintro e w2 ⟨fs, B2, d2, rfl, hv2, ho2, htx2, he2⟩
  have hE2 := hE1.trans he2
  go_wp2_with fail
  refine (twinSets_any A3 n3 c3 ts _ (ht.ext hE2) (by omega)).mono ?_
  rintro e w3 ⟨gs, B3, d3, rfl, hv3, ho3, htx3, he3⟩
  have hE3 := hE2.trans he3
  have hmine := (res_rd hv2 HC1.out HF1.out ho2 htx2.1).ext he3
  have hmy := res_rdT hv3 HC2.out HF2.out ho3 htx3.1
  have Hv2 := Lib.hid hv2
  have Hv3 := Lib.hid hv3
  obtain ⟨k0, k1, kz⟩ := (AtS.mk k0 k1 kz).ext (he2.trans he3)
  clear ho2 htx2 ho3 htx3 hv2 hv3 he1 he2 he3 hE1 hE2
  go_wp2_with fail
  refine (HP2.out _ (hs.ext hE3) (hx.ext hE3)).mono ?_
  rintro e w4 ⟨A4, c4, rfl, hown4, he4⟩
  rw [Hl.out]
  obtain ⟨k0, k1, kz⟩ := (AtS.mk k0 k1 kz).ext he4
  have hE34 := he4
  go_wp2_with fail
  refine (HP1.out _ B2 n2 d2 fs (hs.ext (hE3.trans hE34)) (hmine.ext hE34) (by omega) Hv2.out).mono ?_
  rintro e w5 ⟨A5, c5, rfl, hown5, he5⟩
  rw [Hl.out]
  obtain ⟨k0, k1, kz⟩ := (AtS.mk k0 k1 kz).ext he5
  have hE35 := hE34.trans he5
  go_wp2_with fail
  refine (HP1.out _ B2 n2 d2 fs (hs.ext (hE3.trans hE35)) (hmine.ext hE35) (by omega) Hv2.out).mono ?_
  rintro e w6 ⟨A6, c6, rfl, hown6, he6⟩
  rw [Hl.out]
  obtain ⟨k0, k1, kz⟩ := (AtS.mk k0 k1 kz).ext he6
  have hE36 := hE35.trans he6
  go_wp2_with fail
  refine (HQ2.out _ (hs.ext (hE3.trans hE36)) (ht.ext (hE3.trans hE36))).mono ?_
  rintro e w7 ⟨A7, c7, rfl, hown7, he7⟩
  rw [Hm.out]
  obtain ⟨k0, k1, kz⟩ := (AtS.mk k0 k1 kz).ext he7
  have hE37 := hE36.trans he7
  go_wp2_with fail
  refine (HQ1.out _ B3 n3 d3 gs (hs.ext (hE3.trans hE37)) (hmy.ext hE37) (by omega) Hv3.out).mono ?_
  rintro e w8 ⟨A8, c8, rfl, hown8, he8⟩
  rw [Hm.out]
  obtain ⟨k0, k1, kz⟩ := (AtS.mk k0 k1 kz).ext he8
  have hE38 := hE37.trans he8
  go_wp2_with fail
  refine (HQ1.out _ B3 n3 d3 gs (hs.ext (hE3.trans hE38)) (hmy.ext hE38) (by omega) Hv3.out).mono ?_
  rintro e w9 ⟨A9, c9, rfl, hown9, he9⟩
  rw [Hm.out]
  have hE39 := hE38.trans he9
  have z4 := he4.size
  have z5 := he5.size
  have z6 := he6.size
  have z7 := he7.size
  have z8 := he8.size
  have z9 := he9.size
  have e59 := ((he6.trans he7).trans he8).trans he9
  have e69 := (he7.trans he8).trans he9
  have e79 := he8.trans he9
  have e49 := he5.trans e59
  have x9 := hown5.ext e59
  have y9 := (hown6.ext e69).rd' Hl.out
  have v9 := (hown4.ext e49).rd' Hl.out
  have p9 := hown8.ext he9
  have q9 := hown9
  have u9 := hown7.ext e79
  have hn1 : ∀ a a2, A5 = some a → A6 = some a2 → a2.block ≠ a.block := fun a a2 ha ha2 => by have := (hown5.block a ha).2; have := (hown6.block a2 ha2).1; omega
  have hn2 : ∀ a a2, A5 = some a → A4 = some a2 → a2.block ≠ a.block := fun a a2 ha ha2 => by have := (hown5.block a ha).1; have := (hown4.block a2 ha2).2; omega
  have hn3 : ∀ a a2, A8 = some a → A9 = some a2 → a2.block ≠ a.block := fun a a2 ha ha2 => by have := (hown8.block a ha).2; have := (hown9.block a2 ha2).1; omega
  have hn4 : ∀ a a2, A8 = some a → A7 = some a2 → a2.block ≠ a.block := fun a a2 ha ha2 => by have := (hown8.block a ha).1; have := (hown7.block a2 ha2).2; omega
  have hi5 := within1 hown5
  have hlow5 : w3.heap.size ≤ w4.heap.size := z4
  have hf8 : ∀ a, A8 = some a → some a.block ≠ A5.map (·.block) := fun a ha e => by
    cases h5 : A5 with
    | none => rw [h5] at e; simp at e
    | some b => rw [h5] at e; simp at e; have := (hown8.block a ha).1; have := (hown5.block b h5).2; omega
  have hf9 : ∀ a, A9 = some a → some a.block ≠ A5.map (·.block) := fun a ha e => by
    cases h5 : A5 with
    | none => rw [h5] at e; simp at e
    | some b => rw [h5] at e; simp at e; have := (hown9.block a ha).1; have := (hown5.block b h5).2; omega
  have hf7 : ∀ a, A7 = some a → some a.block ≠ A5.map (·.block) := fun a ha e => by
    cases h5 : A5 with
    | none => rw [h5] at e; simp at e
    | some b => rw [h5] at e; simp at e; have := (hown7.block a ha).1; have := (hown5.block b h5).2; omega
  have hi8 := within1 hown8
  have hbase8 : w7.heap.size ≤ w9.heap.size := by omega
  have hbase5 : w4.heap.size ≤ w9.heap.size := by omega
  have hlow8 : w3.heap.size ≤ w7.heap.size := by omega
  have hx3 := hx.ext hE3
  have ht3 := ht.ext hE3
  have hmine9 := hmine.ext hE39
  have hmy9 := hmy.ext hE39
  have hx9 := hx3.ext hE39
  have ht9 := ht3.ext hE39
  clear he4 he5 he6 he7 he8 he9 hE34 hE35 hE36 hE37 hE38 e59 e69 e79 e49 hown4 hown5 hown6 hown7 hown8 hown9 k0 k1 kz z4 z5 z6 z7 z8 z9
  go_wp2_with fail
  refine (apart_kept A5 A6 A4 l c5 c6 c4 w4.heap.size L w9 x9 Hl.out hLu y9 v9 hn1 hn2 hbase5 (by omega)).mono ?_
  rintro e wa ⟨rfl, hK1⟩
  have g1 := hK1.grown1
  have pa := p9.grown g1 hf8
  have qa := q9.grown g1 hf9
  have ua := u9.grown g1 hf7
  have mia := hmine.keptOld hmine9 hK1 hi5 hlow5
  have mya := hmy.keptOld hmy9 hK1 hi5 hlow5
  have xa := hx3.keptOld hx9 hK1 hi5 hlow5
  have ta := ht3.keptOld ht9 hK1 hi5 hlow5
  have hEa := hK1.toExt hE39 (fun s hs p hp => Nat.le_trans hlow5 (hi5 s hs p hp).1)
  have hza := g1.size
  clear hK1 g1 p9 q9 u9 hmine9 hmy9 hx9 ht9 x9 y9 v9 hE39
  go_wp2_with fail
  refine (apart_kept A8 A9 A7 m c8 c9 c7 w7.heap.size M wa pa Hm.out hMu (qa.rd' Hm.out) (ua.rd' Hm.out) hn3 hn4 (by omega) (by omega)).mono ?_
  rintro e wb ⟨rfl, hK2⟩
  have mib := hmine.keptOld mia hK2 hi8 hlow8
  have myb := hmy.keptOld mya hK2 hi8 hlow8
  have xb := hx3.keptOld xa hK2 hi8 hlow8
  have tb := ht3.keptOld ta hK2 hi8 hlow8
  have hEb := hK2.toExt hEa (fun s hs p hp => Nat.le_trans hlow8 (hi8 s hs p hp).1)
  clear hK2 mia mya xa ta hEa pa qa ua
  go_wp2_with fail
  refine (alikeRow_any B2 n2 d2 fs A2 n2 c2 xs _ mib xb (by omega) (by omega)).mono ?_
  rintro e wc ⟨rfl, hec⟩
  rw [alkR_iff.2 Hv2.out]
  go_wp2_with fail
  refine (alikeSets_any B3 n3 d3 gs A3 n3 c3 ts _ (myb.ext hec) (tb.ext hec) (by omega) (by omega)).mono ?_
  rintro e wd ⟨rfl, hed⟩
  rw [alkTs_iff.2 Hv3.out]
  go_wp2
  go_ret
  exact ⟨rfl, ((hE3.trans hEb).trans hec).trans hed⟩

end Go.Proofs.Ytlagbgcolgbbhaa
