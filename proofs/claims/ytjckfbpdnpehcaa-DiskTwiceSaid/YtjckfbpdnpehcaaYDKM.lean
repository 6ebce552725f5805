import Derived.Test.YtjckfbpdnpehcaaYDKG
import Derived.Test.YtjckfbpdnpehcaaKB
import Derived.Test.YtjckfbpdnpehcaaDKr

/-
  Layer 14: DiskTwice, walked.
-/
namespace Go.Proofs.Ytjckfbpdnpehcaa
open Go.RowKit Go.Maps Go.WideMaps
set_option maxRecDepth 100000

theorem rows_keep {W W1 W' : World} {P : Nat → Prop} {base c n : Nat} {A : Option Addr} {R : List (List UInt8 × Sl)} (ho : OwnG shF 47 W base A c R) (ht : Txts W base (R.map fun r => r.2)) (hn : R.length = n) (he : Ext W W1) (hp : PFr P W1 W') (hP : ∀ b, base ≤ b → b < W.heap.size → P b) :
    RdG shF W' A n R ∧ ∀ r ∈ R, Rd .u8 W' r.2.A r.2.body.length r.2.body := by
  refine ⟨((ho.ext he).rd' hn).fr hp.size (fun a ha _ => hp.block _ (by obtain ⟨h1, h2⟩ := ho.block a ha; exact hP _ h1 h2)), fun r hr => ?_⟩
  have h1 := ht.own r.2 (List.mem_map.2 ⟨r, hr, rfl⟩)
  exact (h1.rd.ext he).pfr hp (fun _ a ha => by obtain ⟨h2, h3⟩ := h1.block a ha; exact hP _ h2 h3)
theorem filesC_le {S : DS} (h : Fit S 140737488355328) : ∀ x ∈ filesC S, x.2.length ≤ 140737488355328 := by
  intro x hx
  obtain ⟨e, he, rfl⟩ := List.mem_map.1 hx
  show (fileD S e.2).data.length ≤ _
  unfold fileD
  cases hq : S.fl.find? fun x => decide (x.1 = e.2) with
  | none => exact Nat.zero_le _
  | some y => exact h.len y.1 y.2 (List.mem_of_find?_eq_some hq)
theorem body_le {S : DS} (h : Fit S 140737488355328) {R : List (List UInt8 × Sl)} (hR : (R.map fun r : List UInt8 × Sl => (r.1, r.2.body)) = filesC S) : ∀ r ∈ R, r.2.body.length ≤ 140737488355328 := fun r hr =>
  filesC_le h (r.1, r.2.body) (by rw [← hR]; exact List.mem_map.2 ⟨r, hr, rfl⟩)

set_option maxHeartbeats 25600000 in
theorem walk_DiskTwice (A1 : Option Addr) (n1 c1 : Nat) (R : List (List UInt8 × Sl)) (A2 : Option Addr) (n2 c2 : Nat) (os : List OpL) (A3 : Option Addr) (n3 c3 : Nat) (ks : List Int) (A4 : Option Addr) (n4 c4 : Nat) (ks2 : List Int) (w : World)
    (r1 : RdG shF w A1 n1 R) (b1 : ∀ r ∈ R, r.1.length ≤ 140737488355328 ∧ Rd .u8 w r.2.A r.2.body.length r.2.body ∧ U8 r.2.body ∧ r.2.body.length ≤ 140737488355328) (z1 : n1 ≤ 3518437208883) (r2 : RdG shOp w A2 n2 os) (b2 : ∀ o ∈ os, OpOk w o) (z2 : n2 ≤ 1099511627776) (r3 : RdG shZ w A3 n3 ks) (z3 : n3 ≤ 140737488355328) (r4 : RdG shZ w A4 n4 ks2) (z4 : n4 ≤ 140737488355328) :
    Calls Try.prog 7 #[.slice A1 n1 c1, .slice A2 n2 c2, .slice A3 n3 c3, .slice A4 n4 c4] w fun e w' => e = .returned (.bool true) ∧ Ext w w' := by
  have R1 := Lib.hid r1
  have R2 := Lib.hid r2
  have R3 := Lib.hid r3
  have R4 := Lib.hid r4
  have B1 := Lib.hid b1
  have B2 := Lib.hid b2
  obtain ⟨F, hF⟩ : ∃ F, F = R.map fun r => (r.1, r.2.body) := ⟨_, rfl⟩
  have hFl : F.length = n1 := by rw [hF, List.length_map]; exact r1.len
  have HF := Lib.hid hF
  have HFl := Lib.hid hFl
  clear r1 r2 r3 r4 b1 b2 hF hFl
  go_enter Try.func7, Try.ntmps7
  go_wp2_with fail
  refine (alive14 _).mono ?_
  rintro e wa ⟨rfl, hea⟩
  have HEA := Lib.hid hea
  clear hea
  have CT := rtwinF_any (c := c1) (R1.out.ext HEA.out) (fun r hr => ⟨(B1.out r hr).2.1.ext HEA.out, (B1.out r hr).2.2.2⟩) z1
  rw [← HF.out] at CT
  have CT := Lib.hid CT
  go_wp2_with fail
  refine CT.out.mono ?_
  rintro e wb ⟨Ab, cb, Rb, rfl, hRb, hob, htb, hxb⟩
  have hbl : F.length = n1 := HFl.out
  rw [hbl]
  have hlb : Rb.length = n1 := by rw [← HFl.out, ← hRb, List.length_map]
  have HL := load_any 16777216 (c := cb) (hob.rd' hlb) (fun r hr => by
    have hm : (r.1, r.2.body) ∈ F := by rw [← hRb]; exact List.mem_map.2 ⟨r, hr, rfl⟩
    rw [HF.out] at hm
    obtain ⟨r0, hr0, h0⟩ := List.mem_map.1 hm
    obtain ⟨k1, k2, k3, k4⟩ := B1.out r0 hr0
    injection h0 with e1 e2
    exact ⟨by rw [← e1]; exact k1, (htb.own r.2 (List.mem_map.2 ⟨r, hr, rfl⟩)).rd, by rw [← e2]; exact k3, by rw [← e2]; exact k4⟩) (by omega)
  rw [hRb] at HL
  have HL := Lib.hid HL
  have HEB := Lib.hid (show Ext w wb from HEA.out.trans hxb)
  have HFb : Hid (∀ x ∈ F, x.2.length ≤ 140737488355328) := Lib.hid (fun x hx => by
    rw [HF.out] at hx
    obtain ⟨r0, hr0, rfl⟩ := List.mem_map.1 hx
    exact (B1.out r0 hr0).2.2.2)
  clear hRb hob htb hxb hbl hlb CT
  go_wp2_with fail
  refine HL.out.mono ?_
  rintro e w0 hpost
  rcases hpost with ⟨dp, ids, rfl, hlaid, h0, hx0⟩ | ⟨ids, j, x, hj, rfl, hFj, hlaid, hbad, hx0⟩
  · have hSI := SI.loaded (ids := ids) (j := F.length) HFb.out
    obtain ⟨S0, hS0⟩ : ∃ S0, S0 = { ldS (newS 16777216) F ids F.length with safe := (ldS (newS 16777216) F ids F.length).files, chs := [] } := ⟨_, rfl⟩
    rw [← hS0] at hSI h0
    have H0 := Lib.hid h0
    have I0 := Lib.hid hSI
    have E0 := Lib.hid (show Below w.heap.size w w0 from HEB.out.trans hx0)
    clear hlaid h0 hx0 hSI hS0 HL
    go_wp2_with fail
    go_loopw [14, 46] (fun _ i wr => ∃ (j : Nat) (S : DS), j ≤ n2 ∧ i = .int .i64 (j : Int) ∧ Hid (SI j S) ∧ Hid (DkR wr (fun b => b < wb.heap.size) dp S) ∧ Hid (Below w.heap.size w wr)) (fun _ i _ => n2 - (intOf i).toNat)
    case atStart => exact ⟨0, S0, Nat.zero_le _, rfl, I0, H0, E0⟩
    case round =>
      obtain ⟨j, S, hj, rfl, HI, HD, HE⟩ := hrel
      by_cases hlt : j < n2
      · obtain ⟨b, o, p, hA, hbl, hx, hcx⟩ := (R2.out.ext (show Ext w wr from HE.out)).at_ hlt
        have q0 : wr.cell? ⟨b, o + j * 8, none⟩ = some (.int .i64 p.k) := by simpa [shOp] using hcx 0 _ rfl
        have q1 : wr.cell? ⟨b, o + j * 8 + 1, none⟩ = some (nm p.x) := by simpa [shOp] using hcx 1 _ rfl
        have q2 : wr.cell? ⟨b, o + j * 8 + 2, none⟩ = some (nm p.y) := by simpa [shOp] using hcx 2 _ rfl
        have q3 : wr.cell? ⟨b, o + j * 8 + 3, none⟩ = some (.int .i64 p.N) := by simpa [shOp] using hcx 3 _ rfl
        have q4 : wr.cell? ⟨b, o + j * 8 + 4, none⟩ = some (.int .i64 p.M) := by simpa [shOp] using hcx 4 _ rfl
        have q5 : wr.cell? ⟨b, o + j * 8 + 5, none⟩ = some (.slice p.d.A p.d.body.length p.d.c) := by simpa [shOp, Sl.v] using hcx 5 _ rfl
        have q6 : wr.cell? ⟨b, o + j * 8 + 6, none⟩ = some (.slice p.fa p.fn p.fc) := by simpa [shOp] using hcx 6 _ rfl
        have q7 : wr.cell? ⟨b, o + j * 8 + 7, none⟩ = some (.slice p.ka p.kn p.kc) := by simpa [shOp] using hcx 7 _ rfl
        rw [hA]
        have hok := B2.out p (List.mem_of_getElem? hx)
        have CS : Hid (∀ W, Ext wr W → Calls Try.prog 28 #[.pointer (some ⟨dp, 0, none⟩), .agg #[.int .i64 p.k, nm p.x, nm p.y, .int .i64 p.N, .int .i64 p.M, .slice p.d.A p.d.body.length p.d.c, .slice p.fa p.fn p.fc, .slice p.ka p.kn p.kc]] W (Leaves W (fun b => b < wb.heap.size) dp S (stepF p.k p.x p.y p.d.body) (stepG p.k p.x p.d.body))) := Lib.hid (fun W hW =>
          step_Dk (HD.out.ext hW) (by have := HI.out.st; omega) (by have := HI.out.cnt; omega) HI.out.fit p.k p.x p.y hok.hx hok.hy p.N p.M p.d.A _ p.d.c p.d.body (hok.rd.ext ((show Ext w wr from HE.out).trans hW)) hok.u8 hok.hd _ _)
        have Hlt := Lib.hid hlt
        have Hnd := Lib.hid HD.out.nd
        obtain ⟨md, hmd⟩ : ∃ m, m = p.d.body.length := ⟨_, rfl⟩
        rw [← hmd] at q5 CS
        have Hmd := Lib.hid hmd
        clear hA hbl hx hcx hok hlt hmd
        by_cases hk : 1 ≤ p.k ∧ p.k ≤ 6
        · obtain ⟨hk1, hk6⟩ := hk
          go_wp2_with fail
          refine (CS.out _ ((Ext.refl wr).alloc _)).mono ?_
          rintro e w9 ⟨r, S', q, rfl, hD9, hE9, _, hB9⟩
          have HI9 : Hid (SI (j + 1) S') := Lib.hid (by
            have := HI.out.step Hnd.out p.k p.x p.y p.d.body q
            rw [← hE9] at this
            exact this)
          have HD9 := Lib.hid hD9
          have HB9 := Lib.hid (hB9.below ((show Ext w wr from HE.out).alloc (.cells #[.int .i64 p.k, nm p.x, nm p.y, .int .i64 p.N, .int .i64 p.M, .slice p.d.A md p.d.c, .slice p.fa p.fn p.fc, .slice p.ka p.kn p.kc] 53)) (fun i hi => Nat.lt_of_lt_of_le hi HEB.out.size))
          clear hD9 hE9 hB9
          go_wp2_with fail
          go_roundw
          case rel => exact ⟨j + 1, S', by have := Hlt.out; omega, by go_num, HI9, HD9, HB9⟩
          case measure => simp [intOf]; have := Hlt.out; omega
        · have HI9 := Lib.hid (HI.out.le (Nat.le_succ j))
          by_cases hk1 : 1 ≤ p.k
          · have hk6 : ¬ p.k ≤ 6 := fun h => hk ⟨hk1, h⟩
            clear hk
            go_wp2_with fail
            go_roundw
            case rel => exact ⟨j + 1, S, by have := Hlt.out; omega, by go_num, HI9, Lib.hid (HD.out.ext ((Ext.refl wr).alloc _)), Lib.hid ((show Ext w wr from HE.out).alloc _)⟩
            case measure => simp [intOf]; have := Hlt.out; omega
          · clear hk
            go_wp2_with fail
            go_roundw
            case rel => exact ⟨j + 1, S, by have := Hlt.out; omega, by go_num, HI9, Lib.hid (HD.out.ext ((Ext.refl wr).alloc _)), Lib.hid ((show Ext w wr from HE.out).alloc _)⟩
            case measure => simp [intOf]; have := Hlt.out; omega
      · obtain rfl : j = n2 := by omega
        have HO := Lib.hid (on_Dk (c := c3) HD.out (R3.out.ext (show Ext w wr from HE.out)) HI.out.fit z3 (fun h0 a ha => by have h5 := R3.out.lt h0 a ha; have h6 := HEB.out.size; show a.block < wb.heap.size; omega))
        obtain ⟨S1, hS1⟩ : ∃ S1, S1 = doOn ks S := ⟨_, rfl⟩
        have hle : ∀ q f, (q, f) ∈ S.fl → f.safe ≤ f.data.length := fun q f hf => (HD.out.le hf).1
        have H2 : Hid (doOn ks2 S1 = S1) := Lib.hid (by rw [hS1]; exact doOn_twice ks ks2 S hle)
        have HSF : Hid (safeC S1 = filesC S1) := Lib.hid (by rw [hS1]; exact safe_on ks S hle)
        have HFit : Hid (Fit S1 140737488355328) := Lib.hid (by rw [hS1]; exact HI.out.on ks)
        have Hon : Hid (S1.on = true) := Lib.hid (by rw [hS1]; rfl)
        have Hch : Hid (S1.chs.length = 0) := Lib.hid (by rw [hS1]; rfl)
        rw [← hS1] at HO
        clear hlt hS1 hle
        go_wp2_with fail
        refine HO.out.mono ?_
        rintro e w3 ⟨rfl, hD3, hB3⟩
        have HD3 := Lib.hid hD3
        have HE3 := Lib.hid (show Ext w w3 from hB3.below HE.out (fun i hi => Nat.lt_of_lt_of_le hi HEB.out.size))
        clear hD3 hB3 HO
        go_wp2_with fail
        refine (files_Dk HD3.out HFit.out).mono ?_
        rintro e w4 ⟨A5, c5, R5, rfl, hR5, ho5, ht5, hx5⟩
        obtain ⟨n5, hn5⟩ : ∃ n, n = (filesC S1).length := ⟨_, rfl⟩
        rw [← hn5]
        have HN5 := Lib.hid hn5
        have HR5 := Lib.hid hR5
        have HO5 := Lib.hid ho5
        have HT5 := Lib.hid ht5
        have HX5 := Lib.hid hx5
        have HD4 := Lib.hid (HD3.out.more hx5)
        have HE4 := Lib.hid (below_ext HE3.out hx5)
        clear hR5 ho5 ht5 hx5 hn5
        go_wp2_with fail
        refine (steps_Dk HD4.out).mono ?_
        rintro e w4' ⟨rfl, rfl⟩
        go_wp2_with fail
        refine (safe_Dk HD4.out HFit.out).mono ?_
        rintro e w5 ⟨A6, c6, R6, rfl, hR6, ho6, ht6, hx6⟩
        rw [HSF.out]
        rw [HSF.out] at hR6
        rw [← HN5.out]
        have HR6 := Lib.hid hR6
        have HO6 := Lib.hid ho6
        have HT6 := Lib.hid ht6
        have HX6 := Lib.hid hx6
        have HD5 := Lib.hid (HD4.out.more hx6)
        have HE5 := Lib.hid (below_ext HE4.out hx6)
        clear hR6 ho6 ht6 hx6
        have HO2 := Lib.hid (on_Dk (c := c4) HD5.out (R4.out.ext (show Ext w w5 from HE5.out)) HFit.out z4 (fun h0 a ha => .inl (.inl (by have h5 := R4.out.lt h0 a ha; have h6 := HEB.out.size; show a.block < wb.heap.size; omega))))
        rw [H2.out] at HO2
        go_wp2_with fail
        refine HO2.out.mono ?_
        rintro e w6 ⟨rfl, hD6, hB6⟩
        have HD6 := Lib.hid hD6
        have HB6 := Lib.hid hB6
        have HE6 := Lib.hid (show Ext w w6 from (hB6.less (fun b hb => .inl (.inl hb))).below HE5.out (fun i hi => Nat.lt_of_lt_of_le hi HEB.out.size))
        clear hD6 hB6 HO2
        go_wp2_with fail
        have hk5 := rows_keep (n := n5) HO5.out HT5.out (by rw [HN5.out, ← HR5.out, List.length_map]) HX6.out HB6.out (fun b h1 h2 => .inl (.inr ⟨h1, h2⟩))
        have hk6 := rows_keep (n := n5) HO6.out HT6.out (by rw [HN5.out, ← HR6.out, List.length_map]) (Ext.refl _) HB6.out (fun b h1 h2 => .inr ⟨h1, h2⟩)
        have HK5 := Lib.hid hk5
        have HK6 := Lib.hid hk6
        have hn4 : n5 ≤ 400 := by rw [HN5.out]; unfold filesC; rw [List.length_map]; exact HD6.out.sure.few
        clear hk5 hk6
        refine (files_Dk HD6.out HFit.out).mono ?_
        rintro e w7 ⟨A7, c7, R7, rfl, hR7, ho7, ht7, hx7⟩
        rw [← HN5.out]
        have HD7 := Lib.hid (HD6.out.ext hx7)
        have HE7 := Lib.hid (HE6.out.trans hx7)
        have CA := ralike_any (n := n5) (m := n5) (c := c7) (d := c5) (ho7.rd' (by rw [HN5.out, ← hR7, List.length_map])) (HK5.out.1.ext hx7) (fun r hr => ⟨(ht7.own r.2 (List.mem_map.2 ⟨r, hr, rfl⟩)).rd, body_le HFit.out hR7 r hr⟩) (fun r hr => ⟨(HK5.out.2 r hr).ext hx7, body_le HFit.out HR5.out r hr⟩) (by omega)
        rw [show decide (flL R7 = flL R5) = true from decide_eq_true (hR7.trans HR5.out.symm)] at CA
        have CA := Lib.hid CA
        have HX7 := Lib.hid hx7
        clear hR7 ho7 ht7 hx7
        go_wp2_with fail
        refine CA.out.mono ?_
        rintro e w8 ⟨rfl, hx8⟩
        have hx68 := HX7.out.trans hx8
        have CB := ralike_any (n := n5) (m := n5) (c := c6) (d := c5) (HK6.out.1.ext hx68) (HK5.out.1.ext hx68) (fun r hr => ⟨(HK6.out.2 r hr).ext hx68, body_le HFit.out HR6.out r hr⟩) (fun r hr => ⟨(HK5.out.2 r hr).ext hx68, body_le HFit.out HR5.out r hr⟩) (by omega)
        rw [show decide (flL R6 = flL R5) = true from decide_eq_true (HR6.out.trans HR5.out.symm)] at CB
        have CB := Lib.hid CB
        have HD8 := Lib.hid (HD7.out.ext hx8)
        have HE8 := Lib.hid (HE7.out.trans hx8)
        clear hx8 hx68 CA
        go_wp2_with fail
        refine CB.out.mono ?_
        rintro e w9 ⟨rfl, hx9⟩
        have HD9 := Lib.hid (HD8.out.ext hx9)
        have HE9 := Lib.hid (HE8.out.trans hx9)
        clear hx9 CB
        go_wp2_with fail
        refine (steps_Dk HD9.out).mono ?_
        rintro e wx ⟨rfl, rfl⟩
        have CLo := loose_Dk HD9.out
        rw [Hch.out] at CLo
        have CPo := power_Dk HD9.out
        rw [Hon.out] at CPo
        have CLo := Lib.hid CLo
        have CPo := Lib.hid CPo
        go_wp2_with fail
        refine CLo.out.mono ?_
        rintro e wx ⟨rfl, rfl⟩
        go_wp2_with fail
        refine CPo.out.mono ?_
        rintro e wx ⟨rfl, rfl⟩
        go_wp2_with fail
        go_ret
        exact ⟨rfl, HE9.out⟩
  · have CL := rload_any 16777216 (by decide) (by decide) (c := c1) (R1.out.ext (HEB.out.trans hx0)) (fun r hr => ⟨(B1.out r hr).1, (B1.out r hr).2.1.ext (HEB.out.trans hx0), (B1.out r hr).2.2⟩) (by omega)
    rw [← HF.out] at CL
    have CL := CL.mono (fun e w' q => rload_err hlaid hFj hbad q)
    obtain ⟨E, hE⟩ : ∃ E, E = refC (ldS (newS 16777216) F ids j) x.1 := ⟨_, rfl⟩
    rw [← hE] at CL hbad
    have CL := Lib.hid CL
    have HE0 := Lib.hid (HEB.out.trans hx0)
    have e1 : (E == 0) = false := by simpa using hbad
    rw [← hE]
    clear hlaid hx0 hFj hj hE HL
    go_wp2_with fail
    refine CL.out.mono ?_
    rintro e w2 ⟨rfl, hx2⟩
    have HX2 := Lib.hid (HE0.out.trans hx2)
    have HN := Lib.hid (heap_alloc_new w2 (.cells #[.slice none 0 0, .slice none 0 0, .slice none 0 0, .int .i64 0, .slice none 0 0, .int .i64 0, .bool false] 59))
    clear hx2 CL
    go_wp2_with (first
      | (refine wpList_store_row rfl 59 _ _ rfl w2.heap.size #[.slice none 0 0, .slice none 0 0, .slice none 0 0, .int .i64 0, .slice none 0 0, .int .i64 0, .bool false] rfl rfl 59 _ HN.out (by kernel_rfl) rfl (by simp [Value.oneCell']) ?_)
      | fail)
    go_ret
    exact ⟨rfl, (HX2.out.alloc _).setRow HX2.out.size _⟩

end Go.Proofs.Ytjckfbpdnpehcaa
