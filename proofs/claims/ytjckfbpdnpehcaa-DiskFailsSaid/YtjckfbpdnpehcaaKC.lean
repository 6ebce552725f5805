import Derived.Test.YtjckfbpdnpehcaaYDKG
import Derived.Test.YtjckfbpdnpehcaaKB
import Derived.Test.YtjckfbpdnpehcaaDKr
import Derived.Test.YtjckfbpdnpehcaaKD

/-
  Layer 14: DiskTwice, walked.
-/
namespace Go.Proofs.Ytjckfbpdnpehcaa
open Go.RowKit Go.Maps Go.WideMaps
set_option maxRecDepth 100000

theorem rows_keep {W W1 W' : World} {P : Nat → Prop} {base c n : Nat} {A : Option Addr} {R : List (List UInt8 × Sl)} (ho : OwnG shF 47 W base A c R) (ht : Txts W base (R.map fun r => r.2)) (hn : R.length = n) (he : Ext W W1) (hp : PFr P W1 W') (hP : ∀ b, base ≤ b → b < W.heap.size → P b) :
    RdG shF W' A n R ∧ ∀ r ∈ R, Rd .u8 W' r.2.A r.2.body.length r.2.body := by
  refine ⟨((ho.ext he).rd' hn).fr hp.size (fun a ha _ => hp.block _ (by obtain ⟨h1, h2⟩ := ho.block a ha; exact hP _ h1 h2)), fun r hr => ?_⟩
  have h1 := ht.own r.2 (List.mem_map.2 ⟨r, hr, rfl⟩)
  exact (h1.rd.ext he).pfr hp (fun _ a ha => by obtain ⟨h2, h3⟩ := h1.block a ha; exact hP _ h2 h3)
theorem filesC_le {S : DS} (h : Fit S 140737488355328) : ∀ x ∈ filesC S, x.2.length ≤ 140737488355328 := by
  intro x hx
  obtain ⟨e, he, rfl⟩ := List.mem_map.1 hx
  show (fileD S e.2).data.length ≤ _
  unfold fileD
  cases hq : S.fl.find? fun x => decide (x.1 = e.2) with
  | none => exact Nat.zero_le _
  | some y => exact h.len y.1 y.2 (List.mem_of_find?_eq_some hq)
theorem body_le {S : DS} (h : Fit S 140737488355328) {R : List (List UInt8 × Sl)} (hR : (R.map fun r : List UInt8 × Sl => (r.1, r.2.body)) = filesC S) : ∀ r ∈ R, r.2.body.length ≤ 140737488355328 := fun r hr =>
  filesC_le h (r.1, r.2.body) (by rw [← hR]; exact List.mem_map.2 ⟨r, hr, rfl⟩)

set_option maxHeartbeats 25600000 in
theorem walk_DiskTwice (A1 : Option Addr) (n1 c1 : Nat) (R : List (List UInt8 × Sl)) (A2 : Option Addr) (n2 c2 : Nat) (os : List OpL) (A3 : Option Addr) (n3 c3 : Nat) (ks : List Int) (A4 : Option Addr) (n4 c4 : Nat) (ks2 : List Int) (w : World)
    (r1 : RdG shF w A1 n1 R) (b1 : ∀ r ∈ R, r.1.length ≤ 140737488355328 ∧ Rd .u8 w r.2.A r.2.body.length r.2.body ∧ U8 r.2.body ∧ r.2.body.length ≤ 140737488355328) (z1 : n1 ≤ 3518437208883) (r2 : RdG shOp w A2 n2 os) (b2 : ∀ o ∈ os, OpOk w o) (z2 : n2 ≤ 1099511627776) (r3 : RdG shZ w A3 n3 ks) (z3 : n3 ≤ 140737488355328) (r4 : RdG shZ w A4 n4 ks2) (z4 : n4 ≤ 140737488355328) :
    Calls Try.prog 7 #[.slice A1 n1 c1, .slice A2 n2 c2, .slice A3 n3 c3, .slice A4 n4 c4] w fun e w' => e = .returned (.bool true) ∧ Ext w w' := by
  have R1 := Lib.hid r1
  have R2 := Lib.hid r2
  have R3 := Lib.hid r3
  have R4 := Lib.hid r4
  have B1 := Lib.hid b1
  have B2 := Lib.hid b2
  obtain ⟨F, hF⟩ : ∃ F, F = R.map fun r => (r.1, r.2.body) := ⟨_, rfl⟩
  have hFl : F.length = n1 := by rw [hF, List.length_map]; exact r1.len
  have HF := Lib.hid hF
  have HFl := Lib.hid hFl
  clear r1 r2 r3 r4 b1 b2 hF hFl
  go_enter Try.func7, Try.ntmps7
  go_wp2_with fail
  refine (alive14 _).mono ?_
  rintro e wa ⟨rfl, hea⟩
  have HEA := Lib.hid hea
  clear hea
  have CT := rtwinF_any (c := c1) (R1.out.ext HEA.out) (fun r hr => ⟨(B1.out r hr).2.1.ext HEA.out, (B1.out r hr).2.2.2⟩) z1
  rw [← HF.out] at CT
  have CT := Lib.hid CT
  go_wp2_with fail
  refine CT.out.mono ?_
  rintro e wb ⟨Ab, cb, Rb, rfl, hRb, hob, htb, hxb⟩
  have hbl : F.length = n1 := HFl.out
  rw [hbl]
  have hlb : Rb.length = n1 := by rw [← HFl.out, ← hRb, List.length_map]
  have HL := load_any 16777216 (c := cb) (hob.rd' hlb) (fun r hr => by
    have hm : (r.1, r.2.body) ∈ F := by rw [← hRb]; exact List.mem_map.2 ⟨r, hr, rfl⟩
    rw [HF.out] at hm
    obtain ⟨r0, hr0, h0⟩ := List.mem_map.1 hm
    obtain ⟨k1, k2, k3, k4⟩ := B1.out r0 hr0
    injection h0 with e1 e2
    exact ⟨by rw [← e1]; exact k1, (htb.own r.2 (List.mem_map.2 ⟨r, hr, rfl⟩)).rd, by rw [← e2]; exact k3, by rw [← e2]; exact k4⟩) (by omega)
  rw [hRb] at HL
  have HL := Lib.hid HL
  have HEB := Lib.hid (show Ext w wb from HEA.out.trans hxb)
  have HFb : Hid (∀ x ∈ F, x.2.length ≤ 140737488355328) := Lib.hid (fun x hx => by
    rw [HF.out] at hx
    obtain ⟨r0, hr0, rfl⟩ := List.mem_map.1 hx
    exact (B1.out r0 hr0).2.2.2)
  clear hRb hob htb hxb hbl hlb CT
  go_wp2_with fail
  refine HL.out.mono ?_
  rintro e w0 hpost
  rcases hpost with ⟨dp, ids, rfl, hlaid, h0, hx0⟩ | ⟨ids, j, x, hj, rfl, hFj, hlaid, hbad, hx0⟩
  · have hSI := SI.loaded (ids := ids) (j := F.length) HFb.out
    obtain ⟨S0, hS0⟩ : ∃ S0, S0 = { ldS (newS 16777216) F ids F.length with safe := (ldS (newS 16777216) F ids F.length).files, chs := [] } := ⟨_, rfl⟩
    rw [← hS0] at hSI h0
    have H0 := Lib.hid h0
    have I0 := Lib.hid hSI
    have E0 := Lib.hid (show Below w.heap.size w w0 from HEB.out.trans hx0)
    clear hlaid h0 hx0 hSI hS0 HL
    go_wp2_with fail
    go_loopw [14, 46] (fun _ i wr => ∃ (j : Nat) (S : DS), j ≤ n2 ∧ i = .int .i64 (j : Int) ∧ Hid (SI j S) ∧ Hid (DkR wr (fun b => b < wb.heap.size) dp S) ∧ Hid (Below w.heap.size w wr)) (fun _ i _ => n2 - (intOf i).toNat)
    case atStart => exact ⟨0, S0, Nat.zero_le _, rfl, I0, H0, E0⟩
    case round =>
      obtain ⟨j, S, hj, rfl, HI, HD, HE⟩ := hrel
      by_cases hlt : j < n2
      · obtain ⟨b, o, p, hA, hbl, hx, hcx⟩ := (R2.out.ext (show Ext w wr from HE.out)).at_ hlt
        have q0 : wr.cell? ⟨b, o + j * 8, none⟩ = some (.int .i64 p.k) := by simpa [shOp] using hcx 0 _ rfl
        have q1 : wr.cell? ⟨b, o + j * 8 + 1, none⟩ = some (nm p.x) := by simpa [shOp] using hcx 1 _ rfl
        have q2 : wr.cell? ⟨b, o + j * 8 + 2, none⟩ = some (nm p.y) := by simpa [shOp] using hcx 2 _ rfl
        have q3 : wr.cell? ⟨b, o + j * 8 + 3, none⟩ = some (.int .i64 p.N) := by simpa [shOp] using hcx 3 _ rfl
        have q4 : wr.cell? ⟨b, o + j * 8 + 4, none⟩ = some (.int .i64 p.M) := by simpa [shOp] using hcx 4 _ rfl
        have q5 : wr.cell? ⟨b, o + j * 8 + 5, none⟩ = some (.slice p.d.A p.d.body.length p.d.c) := by simpa [shOp, Sl.v] using hcx 5 _ rfl
        have q6 : wr.cell? ⟨b, o + j * 8 + 6, none⟩ = some (.slice p.fa p.fn p.fc) := by simpa [shOp] using hcx 6 _ rfl
        have q7 : wr.cell? ⟨b, o + j * 8 + 7, none⟩ = some (.slice p.ka p.kn p.kc) := by simpa [shOp] using hcx 7 _ rfl
        rw [hA]
        have hok := B2.out p (List.mem_of_getElem? hx)
        have CS : Hid (∀ W, Ext wr W → Calls Try.prog 28 #[.pointer (some ⟨dp, 0, none⟩), .agg #[.int .i64 p.k, nm p.x, nm p.y, .int .i64 p.N, .int .i64 p.M, .slice p.d.A p.d.body.length p.d.c, .slice p.fa p.fn p.fc, .slice p.ka p.kn p.kc]] W (Leaves W (fun b => b < wb.heap.size) dp S (stepF p.k p.x p.y p.d.body) (stepG p.k p.x p.d.body))) := Lib.hid (fun W hW =>
          step_Dk (HD.out.ext hW) (by have := HI.out.st; omega) (by have := HI.out.cnt; omega) HI.out.fit p.k p.x p.y hok.hx hok.hy p.N p.M p.d.A _ p.d.c p.d.body (hok.rd.ext ((show Ext w wr from HE.out).trans hW)) hok.u8 hok.hd _ _)
        have Hlt := Lib.hid hlt
        have Hnd := Lib.hid HD.out.nd
        obtain ⟨md, hmd⟩ : ∃ m, m = p.d.body.length := ⟨_, rfl⟩
        rw [← hmd] at q5 CS
        have Hmd := Lib.hid hmd
        clear hA hbl hx hcx hok hlt hmd
        by_cases hk : 1 ≤ p.k ∧ p.k ≤ 6
        · obtain ⟨hk1, hk6⟩ := hk
          go_wp2_with fail
          refine (CS.out _ ((Ext.refl wr).alloc _)).mono ?_
          rintro e w9 ⟨r, S', q, rfl, hD9, hE9, _, hB9⟩
          have HI9 : Hid (SI (j + 1) S') := Lib.hid (by
            have := HI.out.step Hnd.out p.k p.x p.y p.d.body q
            rw [← hE9] at this
            exact this)
          have HD9 := Lib.hid hD9
          have HB9 := Lib.hid (hB9.below ((show Ext w wr from HE.out).alloc (.cells #[.int .i64 p.k, nm p.x, nm p.y, .int .i64 p.N, .int .i64 p.M, .slice p.d.A md p.d.c, .slice p.fa p.fn p.fc, .slice p.ka p.kn p.kc] 53)) (fun i hi => Nat.lt_of_lt_of_le hi HEB.out.size))
          clear hD9 hE9 hB9
          go_wp2_with fail
          go_roundw
          case rel => exact ⟨j + 1, S', by have := Hlt.out; omega, by go_num, HI9, HD9, HB9⟩
          case measure => simp [intOf]; have := Hlt.out; omega
        · have HI9 := Lib.hid (HI.out.le (Nat.le_succ j))
          by_cases hk1 : 1 ≤ p.k
          · have hk6 : ¬ p.k ≤ 6 := fun h => hk ⟨hk1, h⟩
            clear hk
            go_wp2_with fail
            go_roundw
            case rel => exact ⟨j + 1, S, by have := Hlt.out; omega, by go_num, HI9, Lib.hid (HD.out.ext ((Ext.refl wr).alloc _)), Lib.hid ((show Ext w wr from HE.out).alloc _)⟩
            case measure => simp [intOf]; have := Hlt.out; omega
          · clear hk
            go_wp2_with fail
            go_roundw
            case rel => exact ⟨j + 1, S, by have := Hlt.out; omega, by go_num, HI9, Lib.hid (HD.out.ext ((Ext.refl wr).alloc _)), Lib.hid ((show Ext w wr from HE.out).alloc _)⟩
            case measure => simp [intOf]; have := Hlt.out; omega
      · obtain rfl : j = n2 := by omega
        have HO := Lib.hid (on_Dk (c := c3) HD.out (R3.out.ext (show Ext w wr from HE.out)) HI.out.fit z3 (fun h0 a ha => by have h5 := R3.out.lt h0 a ha; have h6 := HEB.out.size; show a.block < wb.heap.size; omega))
        obtain ⟨S1, hS1⟩ : ∃ S1, S1 = doOn ks S := ⟨_, rfl⟩
        have hle : ∀ q f, (q, f) ∈ S.fl → f.safe ≤ f.data.length := fun q f hf => (HD.out.le hf).1
        have H2 : Hid (doOn ks2 S1 = S1) := Lib.hid (by rw [hS1]; exact doOn_twice ks ks2 S hle)
        have HSF : Hid (safeC S1 = filesC S1) := Lib.hid (by rw [hS1]; exact safe_on ks S hle)
        have HFit : Hid (Fit S1 140737488355328) := Lib.hid (by rw [hS1]; exact HI.out.on ks)
        have Hon : Hid (S1.on = true) := Lib.hid (by rw [hS1]; rfl)
        have Hch : Hid (S1.chs.length = 0) := Lib.hid (by rw [hS1]; rfl)
        rw [← hS1] at HO
        clear hlt hS1 hle
        go_wp2_with fail
        refine HO.out.mono ?_
        rintro e w3 ⟨rfl, hD3, hB3⟩
        have HD3 := Lib.hid hD3
        have HE3 := Lib.hid (show Ext w w3 from hB3.below HE.out (fun i hi => Nat.lt_of_lt_of_le hi HEB.out.size))
        clear hD3 hB3 HO
        go_wp2_with fail
        refine (files_Dk HD3.out HFit.out).mono ?_
        rintro e w4 ⟨A5, c5, R5, rfl, hR5, ho5, ht5, hx5⟩
        obtain ⟨n5, hn5⟩ : ∃ n, n = (filesC S1).length := ⟨_, rfl⟩
        rw [← hn5]
        have HN5 := Lib.hid hn5
        have HR5 := Lib.hid hR5
        have HO5 := Lib.hid ho5
        have HT5 := Lib.hid ht5
        have HX5 := Lib.hid hx5
        have HD4 := Lib.hid (HD3.out.more hx5)
        have HE4 := Lib.hid (below_ext HE3.out hx5)
        clear hR5 ho5 ht5 hx5 hn5
        go_wp2_with fail
        refine (steps_Dk HD4.out).mono ?_
        rintro e w4' ⟨rfl, rfl⟩
        go_wp2_with fail
        refine (safe_Dk HD4.out HFit.out).mono ?_
        rintro e w5 ⟨A6, c6, R6, rfl, hR6, ho6, ht6, hx6⟩
        rw [HSF.out]
        rw [HSF.out] at hR6
        rw [← HN5.out]
        have HR6 := Lib.hid hR6
        have HO6 := Lib.hid ho6
        have HT6 := Lib.hid ht6
        have HX6 := Lib.hid hx6
        have HD5 := Lib.hid (HD4.out.more hx6)
        have HE5 := Lib.hid (below_ext HE4.out hx6)
        clear hR6 ho6 ht6 hx6
        have HO2 := Lib.hid (on_Dk (c := c4) HD5.out (R4.out.ext (show Ext w w5 from HE5.out)) HFit.out z4 (fun h0 a ha => .inl (.inl (by have h5 := R4.out.lt h0 a ha; have h6 := HEB.out.size; show a.block < wb.heap.size; omega))))
        rw [H2.out] at HO2
        go_wp2_with fail
        refine HO2.out.mono ?_
        rintro e w6 ⟨rfl, hD6, hB6⟩
        have HD6 := Lib.hid hD6
        have HB6 := Lib.hid hB6
        have HE6 := Lib.hid (show Ext w w6 from (hB6.less (fun b hb => .inl (.inl hb))).below HE5.out (fun i hi => Nat.lt_of_lt_of_le hi HEB.out.size))
        clear hD6 hB6 HO2
        go_wp2_with fail
        have hk5 := rows_keep (n := n5) HO5.out HT5.out (by rw [HN5.out, ← HR5.out, List.length_map]) HX6.out HB6.out (fun b h1 h2 => .inl (.inr ⟨h1, h2⟩))
        have hk6 := rows_keep (n := n5) HO6.out HT6.out (by rw [HN5.out, ← HR6.out, List.length_map]) (Ext.refl _) HB6.out (fun b h1 h2 => .inr ⟨h1, h2⟩)
        have HK5 := Lib.hid hk5
        have HK6 := Lib.hid hk6
        have hn4 : n5 ≤ 400 := by rw [HN5.out]; unfold filesC; rw [List.length_map]; exact HD6.out.sure.few
        clear hk5 hk6
        refine (files_Dk HD6.out HFit.out).mono ?_
        rintro e w7 ⟨A7, c7, R7, rfl, hR7, ho7, ht7, hx7⟩
        rw [← HN5.out]
        have HD7 := Lib.hid (HD6.out.ext hx7)
        have HE7 := Lib.hid (HE6.out.trans hx7)
        have CA := ralike_any (n := n5) (m := n5) (c := c7) (d := c5) (ho7.rd' (by rw [HN5.out, ← hR7, List.length_map])) (HK5.out.1.ext hx7) (fun r hr => ⟨(ht7.own r.2 (List.mem_map.2 ⟨r, hr, rfl⟩)).rd, body_le HFit.out hR7 r hr⟩) (fun r hr => ⟨(HK5.out.2 r hr).ext hx7, body_le HFit.out HR5.out r hr⟩) (by omega)
        rw [show decide (flL R7 = flL R5) = true from decide_eq_true (hR7.trans HR5.out.symm)] at CA
        have CA := Lib.hid CA
        have HX7 := Lib.hid hx7
        clear hR7 ho7 ht7 hx7
        go_wp2_with fail
        refine CA.out.mono ?_
        rintro e w8 ⟨rfl, hx8⟩
        have hx68 := HX7.out.trans hx8
        have CB := ralike_any (n := n5) (m := n5) (c := c6) (d := c5) (HK6.out.1.ext hx68) (HK5.out.1.ext hx68) (fun r hr => ⟨(HK6.out.2 r hr).ext hx68, body_le HFit.out HR6.out r hr⟩) (fun r hr => ⟨(HK5.out.2 r hr).ext hx68, body_le HFit.out HR5.out r hr⟩) (by omega)
        rw [show decide (flL R6 = flL R5) = true from decide_eq_true (HR6.out.trans HR5.out.symm)] at CB
        have CB := Lib.hid CB
        have HD8 := Lib.hid (HD7.out.ext hx8)
        have HE8 := Lib.hid (HE7.out.trans hx8)
        clear hx8 hx68 CA
        go_wp2_with fail
        refine CB.out.mono ?_
        rintro e w9 ⟨rfl, hx9⟩
        have HD9 := Lib.hid (HD8.out.ext hx9)
        have HE9 := Lib.hid (HE8.out.trans hx9)
        clear hx9 CB
        go_wp2_with fail
        refine (steps_Dk HD9.out).mono ?_
        rintro e wx ⟨rfl, rfl⟩
        have CLo := loose_Dk HD9.out
        rw [Hch.out] at CLo
        have CPo := power_Dk HD9.out
        rw [Hon.out] at CPo
        have CLo := Lib.hid CLo
        have CPo := Lib.hid CPo
        go_wp2_with fail
        refine CLo.out.mono ?_
        rintro e wx ⟨rfl, rfl⟩
        go_wp2_with fail
        refine CPo.out.mono ?_
        rintro e wx ⟨rfl, rfl⟩
        go_wp2_with fail
        go_ret
        exact ⟨rfl, HE9.out⟩
  · have CL := rload_any 16777216 (by decide) (by decide) (c := c1) (R1.out.ext (HEB.out.trans hx0)) (fun r hr => ⟨(B1.out r hr).1, (B1.out r hr).2.1.ext (HEB.out.trans hx0), (B1.out r hr).2.2⟩) (by omega)
    rw [← HF.out] at CL
    have CL := CL.mono (fun e w' q => rload_err hlaid hFj hbad q)
    obtain ⟨E, hE⟩ : ∃ E, E = refC (ldS (newS 16777216) F ids j) x.1 := ⟨_, rfl⟩
    rw [← hE] at CL hbad
    have CL := Lib.hid CL
    have HE0 := Lib.hid (HEB.out.trans hx0)
    have e1 : (E == 0) = false := by simpa using hbad
    rw [← hE]
    clear hlaid hx0 hFj hj hE HL
    go_wp2_with fail
    refine CL.out.mono ?_
    rintro e w2 ⟨rfl, hx2⟩
    have HX2 := Lib.hid (HE0.out.trans hx2)
    have HN := Lib.hid (heap_alloc_new w2 (.cells #[.slice none 0 0, .slice none 0 0, .slice none 0 0, .int .i64 0, .slice none 0 0, .int .i64 0, .bool false] 59))
    clear hx2 CL
    go_wp2_with (first
      | (refine wpList_store_row rfl 59 _ _ rfl w2.heap.size #[.slice none 0 0, .slice none 0 0, .slice none 0 0, .int .i64 0, .slice none 0 0, .int .i64 0, .bool false] rfl rfl 59 _ HN.out (by kernel_rfl) rfl (by simp [Value.oneCell']) ?_)
      | fail)
    go_ret
    exact ⟨rfl, (HX2.out.alloc _).setRow HX2.out.size _⟩

end Go.Proofs.Ytjckfbpdnpehcaa

/-
  Layer 14: a step that fails: the states.
-/
namespace Go.Proofs.Ytjckfbpdnpehcaa
open Go.RowKit Go.Maps Go.WideMaps
set_option maxRecDepth 100000

theorem stepF_no {S : DS} (k : Int) (x y : List UInt8) (ys : List Nat) (q : Nat) (h : (stepF k x y ys q S).1 ≠ 0) : (stepF k x y ys q S).2 = S := by
  revert h
  unfold stepF
  split
  · unfold doCreate
    split
    · intro h; exact absurd rfl h
    · intro _; rfl
  split
  · unfold doAppend
    split
    · intro _; rfl
    · split
      · intro _; rfl
      · intro h; exact absurd rfl h
  split
  · unfold doSync
    split
    · intro h; exact absurd rfl h
    · intro _; rfl
  split
  · unfold doRename
    cases lkp S.files x with
    | none => intro _; rfl
    | some p =>
      simp only
      split
      · intro _; rfl
      · split
        · intro _; rfl
        · intro h; exact absurd rfl h
  split
  · unfold doRemove
    split
    · intro h; exact absurd rfl h
    · intro _; rfl
  · intro h; exact absurd rfl h
theorem ldS_whole {F : List (List UInt8 × List Nat)} {ids : Nat → Nat} {room : Int} : ∀ j, ∀ q f, (q, f) ∈ (ldS (newS room) F ids j).fl → Whole f
  | 0 => fun q f hf => by cases hf
  | j + 1 => by
    have ih := ldS_whole (ids := ids) (room := room) (F := F) j
    show ∀ q f, (q, f) ∈ (match F[j]? with | some e => ldStep e (ids j) (ldS (newS room) F ids j) | none => ldS (newS room) F ids j).fl → _
    cases hx : F[j]? with
    | none => exact ih
    | some e =>
      intro q f hf
      rcases List.mem_append.1 (show (q, f) ∈ (ldS (newS room) F ids j).fl ++ [(ids j, (⟨e.2, e.2.length⟩ : FS))] from hf) with hf | hf
      · exact ih q f hf
      · rw [List.mem_singleton] at hf
        injection hf with _ hf
        rw [hf]
        rfl
/-- A disk with nothing loose: all files are safe, and so are the names. -/
structure Calm (S : DS) : Prop where
  chs : S.chs = []
  safe : S.safe = S.files
  whole : ∀ q f, (q, f) ∈ S.fl → Whole f
theorem Calm.loaded {F : List (List UInt8 × List Nat)} {ids : Nat → Nat} {j : Nat} : Calm { ldS (newS 16777216) F ids j with safe := (ldS (newS 16777216) F ids j).files, chs := [] } := ⟨rfl, rfl, fun q f hf => ldS_whole j q f hf⟩
theorem Calm.on {S : DS} (h : Calm S) (ks : List Int) : doOn ks S = { S with on := true } := by
  have hk := keptC_le ks 0 0
  have e2 : (keptC ks 0 ((S.chs.length : Nat) : Int)).toNat = 0 := by
    rw [h.chs, List.length_nil]; omega
  have hD : preD S (keptC ks 0 ((S.chs.length : Nat) : Int)).toNat = S.files := by rw [e2, preD_zero, h.safe]
  have hfl : onFl ks S.files S.fl S.files.length = S.fl := onFl_id _ (fun i e hi he f hf => h.whole _ f hf)
  show ({ S with files := preD S (keptC ks 0 ((S.chs.length : Nat) : Int)).toNat, safe := preD S (keptC ks 0 ((S.chs.length : Nat) : Int)).toNat, chs := [], fl := onFl ks (preD S (keptC ks 0 ((S.chs.length : Nat) : Int)).toNat) S.fl (preD S (keptC ks 0 ((S.chs.length : Nat) : Int)).toNat).length, on := true } : DS) = _
  rw [hD, hfl]
  obtain ⟨h1, h2, _⟩ := h
  cases S
  simp only at h1 h2
  subst h1 h2
  rfl
theorem planL_one (k n : Int) : planL [(1, k, n)] 1 = (1, k, n) := rfl
/-- A step that fails, or ahead of which the power goes. -/
theorem fated_fail {S : DS} {n : Int} (f : DS → Int × DS) (g : DS → Int → DS) (h1 : S.on = true) (h2 : S.steps = 0) (h3 : S.plan = planL [(1, 1, n)]) : fated S f g = (141, { S with steps := 1 }) := by
  unfold fated
  rw [if_neg (by rw [h1]; decide), if_pos (by rw [h2, h3]; rfl), h2]
  rfl
theorem fated_before {S : DS} {n : Int} (f : DS → Int × DS) (g : DS → Int → DS) (h1 : S.on = true) (h2 : S.steps = 0) (h3 : S.plan = planL [(1, 3, n)]) : fated S f g = (140, { S with steps := 1, on := false }) := by
  unfold fated
  have e : (planL [(1, 3, n)] 1).2.1 = 3 := rfl
  have z : ((0 : Int) + 1) = 1 := rfl
  rw [if_neg (by rw [h1]; decide), h2, h3, z, e, if_neg (by decide), if_neg (by decide), if_pos rfl]

end Go.Proofs.Ytjckfbpdnpehcaa

/-
  Layer 14: DiskFails, walked.
-/
namespace Go.Proofs.Ytjckfbpdnpehcaa
open Go.RowKit Go.Maps Go.WideMaps
set_option maxRecDepth 100000

theorem cells8 {w : World} (b : Nat) (v0 v1 v2 v3 v4 v5 v6 v7 : Value) (t : TypeId) (h : w.heap[b]? = some (.cells #[v0, v1, v2, v3, v4, v5, v6, v7] t (0, 0))) : w.cell? ⟨b, 0, none⟩ = some v0 ∧ w.cell? ⟨b, 1, none⟩ = some v1 ∧ w.cell? ⟨b, 2, none⟩ = some v2 ∧ w.cell? ⟨b, 3, none⟩ = some v3 ∧ w.cell? ⟨b, 4, none⟩ = some v4 ∧ w.cell? ⟨b, 5, none⟩ = some v5 ∧ w.cell? ⟨b, 6, none⟩ = some v6 ∧ w.cell? ⟨b, 7, none⟩ = some v7 :=
  ⟨cell_of_row w b 0 _ _ (0, 0) h, cell_of_row w b 1 _ _ (0, 0) h, cell_of_row w b 2 _ _ (0, 0) h, cell_of_row w b 3 _ _ (0, 0) h, cell_of_row w b 4 _ _ (0, 0) h, cell_of_row w b 5 _ _ (0, 0) h, cell_of_row w b 6 _ _ (0, 0) h, cell_of_row w b 7 _ _ (0, 0) h⟩

set_option maxHeartbeats 25600000 in
theorem walk_DiskFails (A1 : Option Addr) (n1 c1 : Nat) (R : List (List UInt8 × Sl)) (p : OpL) (kind : Int) (w : World)
    (r1 : RdG shF w A1 n1 R) (b1 : ∀ r ∈ R, r.1.length ≤ 140737488355328 ∧ Rd .u8 w r.2.A r.2.body.length r.2.body ∧ U8 r.2.body ∧ r.2.body.length ≤ 140737488355328) (z1 : n1 ≤ 3518437208883) (po : OpOk w p) (kwf : (Lit.int .i64 kind).wf = true) :
    Calls Try.prog 5 #[.slice A1 n1 c1, .agg #[.int .i64 p.k, nm p.x, nm p.y, .int .i64 p.N, .int .i64 p.M, p.d.v, .slice p.fa p.fn p.fc, .slice p.ka p.kn p.kc], .int .i64 kind] w fun e w' => e = .returned (.bool true) ∧ Ext w w' := by
  obtain ⟨wV, hV⟩ : ∃ W, W = w.alloc (.cells #[.int .i64 p.k, nm p.x, nm p.y, .int .i64 p.N, .int .i64 p.M, p.d.v, .slice p.fa p.fn p.fc, .slice p.ka p.kn p.kc] 53) := ⟨_, rfl⟩
  have HVE : Hid (Ext w wV) := Lib.hid (by rw [hV]; exact (Ext.refl w).alloc _)
  have hrow : wV.heap[w.heap.size]? = some (.cells #[.int .i64 p.k, nm p.x, nm p.y, .int .i64 p.N, .int .i64 p.M, p.d.v, .slice p.fa p.fn p.fc, .slice p.ka p.kn p.kc] 53 (0, 0)) := by rw [hV]; exact heap_alloc_new w _
  have hlt : w.heap.size < wV.heap.size := (Array.getElem?_eq_some_iff.1 hrow).1
  obtain ⟨md, hmd⟩ : ∃ m, m = p.d.body.length := ⟨_, rfl⟩
  have hdv : p.d.v = .slice p.d.A md p.d.c := by rw [hmd]; rfl
  rw [hdv] at hrow hV ⊢
  have HC : Hid (∀ W : World, W.heap[w.heap.size]? = wV.heap[w.heap.size]? → W.cell? ⟨w.heap.size, 0, none⟩ = some (.int .i64 p.k) ∧ W.cell? ⟨w.heap.size, 1, none⟩ = some (nm p.x) ∧ W.cell? ⟨w.heap.size, 2, none⟩ = some (nm p.y) ∧ W.cell? ⟨w.heap.size, 3, none⟩ = some (.int .i64 p.N) ∧ W.cell? ⟨w.heap.size, 4, none⟩ = some (.int .i64 p.M) ∧ W.cell? ⟨w.heap.size, 5, none⟩ = some (.slice p.d.A md p.d.c) ∧ W.cell? ⟨w.heap.size, 6, none⟩ = some (.slice p.fa p.fn p.fc) ∧ W.cell? ⟨w.heap.size, 7, none⟩ = some (.slice p.ka p.kn p.kc)) := Lib.hid (fun W hW => cells8 _ _ _ _ _ _ _ _ _ _ (hW.trans hrow))
  have Hlt := Lib.hid hlt
  have R1 := Lib.hid (r1.ext HVE.out)
  have B1 : Hid (∀ r ∈ R, r.1.length ≤ 140737488355328 ∧ Rd .u8 wV r.2.A r.2.body.length r.2.body ∧ U8 r.2.body ∧ r.2.body.length ≤ 140737488355328) := Lib.hid (fun r hr => ⟨(b1 r hr).1, (b1 r hr).2.1.ext HVE.out, (b1 r hr).2.2⟩)
  have PR := Lib.hid ((show Rd .u8 w p.d.A md p.d.body by rw [hmd]; exact po.rd).ext HVE.out)
  have PU := Lib.hid po.u8
  have PX := Lib.hid po.hx
  have PY := Lib.hid po.hy
  have PD : Hid (md ≤ 140737488355328) := Lib.hid (by rw [hmd]; exact po.hd)
  have KW := Lib.hid kwf
  obtain ⟨F, hF⟩ : ∃ F, F = R.map fun r => (r.1, r.2.body) := ⟨_, rfl⟩
  have hFl : F.length = n1 := by rw [hF, List.length_map]; exact r1.len
  have HF := Lib.hid hF
  have HFl := Lib.hid hFl
  have HV := Lib.hid hV
  have CA := Lib.hid (alive14 wV)
  clear r1 b1 hF hFl hrow hlt po hmd hdv kwf
  go_enter Try.func5, Try.ntmps5
  go_wp2_with fail
  rw [← hV]
  clear hV
  refine CA.out.mono ?_
  rintro e wa ⟨rfl, hea⟩
  have HEA := Lib.hid hea
  clear hea CA
  have CT := rtwinF_any (c := c1) (R1.out.ext HEA.out) (fun r hr => ⟨(B1.out r hr).2.1.ext HEA.out, (B1.out r hr).2.2.2⟩) z1
  rw [← HF.out] at CT
  have CT := Lib.hid CT
  go_wp2_with fail
  refine CT.out.mono ?_
  rintro e wb ⟨Ab, cb, Rb, rfl, hRb, hob, htb, hxb⟩
  have hbl : F.length = n1 := HFl.out
  rw [hbl]
  have hlb : Rb.length = n1 := by rw [← HFl.out, ← hRb, List.length_map]
  have HL := load_any 16777216 (c := cb) (hob.rd' hlb) (fun r hr => by
    have hm : (r.1, r.2.body) ∈ F := by rw [← hRb]; exact List.mem_map.2 ⟨r, hr, rfl⟩
    rw [HF.out] at hm
    obtain ⟨r0, hr0, h0⟩ := List.mem_map.1 hm
    obtain ⟨k1, k2, k3, k4⟩ := B1.out r0 hr0
    injection h0 with e1 e2
    exact ⟨by rw [← e1]; exact k1, (htb.own r.2 (List.mem_map.2 ⟨r, hr, rfl⟩)).rd, by rw [← e2]; exact k3, by rw [← e2]; exact k4⟩) (by omega)
  rw [hRb] at HL
  have HL := Lib.hid HL
  have HEB := Lib.hid (show Ext wV wb from HEA.out.trans hxb)
  have HFb : Hid (∀ x ∈ F, x.2.length ≤ 140737488355328) := Lib.hid (fun x hx => by
    rw [HF.out] at hx
    obtain ⟨r0, hr0, rfl⟩ := List.mem_map.1 hx
    exact (B1.out r0 hr0).2.2.2)
  clear hRb hob htb hxb hbl hlb CT
  go_wp2_with fail
  refine HL.out.mono ?_
  rintro e w0 hpost
  rcases hpost with ⟨dp, ids, rfl, hlaid, h0, hx0⟩ | ⟨ids, j, x, hj, rfl, hFj, hlaid, hbad, hx0⟩
  · have hSI := SI.loaded (ids := ids) (j := F.length) HFb.out
    have hCa := Calm.loaded (F := F) (ids := ids) (j := F.length)
    obtain ⟨S, hS⟩ : ∃ S, S = { ldS (newS 16777216) F ids F.length with safe := (ldS (newS 16777216) F ids F.length).files, chs := [] } := ⟨_, rfl⟩
    rw [← hS] at hSI h0 hCa
    have H0 := Lib.hid h0
    have I0 := Lib.hid hSI
    have K0 := Lib.hid hCa
    have Hon : Hid (S.on = true) := Lib.hid hSI.pl.on
    have Hst : Hid (S.steps = 0) := Lib.hid (by have := hSI.st; omega)
    have Hch : Hid (S.chs = []) := Lib.hid hCa.chs
    have HFit := Lib.hid hSI.fit
    have E0 := Lib.hid (show Ext wV w0 from HEB.out.trans hx0)
    have Hb : Hid (w.heap.size < wb.heap.size) := Lib.hid (Nat.lt_of_lt_of_le Hlt.out HEB.out.size)
    clear hlaid h0 hx0 hSI hS HL hCa
    obtain ⟨q0, q1, q2, q3, q4, q5, q6, q7⟩ := HC.out w0 (E0.out.block _ Hlt.out)
    by_cases hk : 1 ≤ p.k ∧ p.k ≤ 6
    · obtain ⟨hk1, hk6⟩ := hk
      go_wp2_with fail
      refine (files_Dk H0.out HFit.out).mono ?_
      rintro e w4 ⟨A5, c5, R5, rfl, hR5, ho5, ht5, hx5⟩
      obtain ⟨n5, hn5⟩ : ∃ n, n = (filesC S).length := ⟨_, rfl⟩
      rw [← hn5]
      have HN5 := Lib.hid hn5
      have HR5 := Lib.hid hR5
      have HO5 := Lib.hid ho5
      have HT5 := Lib.hid ht5
      have HX5 := Lib.hid hx5
      have HD4 := Lib.hid (H0.out.more hx5)
      have HE4 := Lib.hid (show Ext wV w4 from E0.out.trans hx5)
      have Hn5 : Hid (n5 ≤ 140737488355328) := Lib.hid (by have := H0.out.sure.few; rw [hn5]; unfold filesC; rw [List.length_map]; omega)
      have Hl5 : Hid (R5.length = n5) := Lib.hid (by rw [hn5, ← hR5, List.length_map])
      clear hR5 ho5 ht5 hx5 hn5 q0 q1 q2 q3 q4 q5 q6 q7
      -- what the files before are, in any later world
      have HK : Hid (∀ W : World, PFr (fun b => b < wb.heap.size ∨ (w0.heap.size ≤ b ∧ b < w4.heap.size)) w4 W → RdG shF W A5 n5 R5 ∧ ∀ r ∈ R5, Rd .u8 W r.2.A r.2.body.length r.2.body ∧ r.2.body.length ≤ 140737488355328) := Lib.hid (fun W hW => by
        obtain ⟨k1, k2⟩ := rows_keep (n := n5) HO5.out HT5.out Hl5.out (Ext.refl _) hW (fun b h1 h2 => .inr ⟨Nat.le_trans (Nat.le_refl _) h1, h2⟩)
        exact ⟨k1, fun r hr => ⟨k2 r hr, body_le HFit.out HR5.out r hr⟩⟩)
      have HP4 : Hid (∀ W : World, PFr (fun b => b < wb.heap.size ∨ (w0.heap.size ≤ b ∧ b < w4.heap.size)) w4 W → Ext wV W) := Lib.hid (fun W hW => hW.below HE4.out (fun i hi => .inl (Nat.lt_of_lt_of_le hi HEB.out.size)))
      -- comparing the files of a state with those before
      have HAL : Hid (∀ (W : World) (P : Nat → Prop) (S' : DS), DkR W P dp S' → Fit S' 140737488355328 → filesC S' = filesC S → PFr (fun b => b < wb.heap.size ∨ (w0.heap.size ≤ b ∧ b < w4.heap.size)) w4 W → ∀ (W1 : World) (A7 : Option Addr) (c7 : Nat) (R7 : List (List UInt8 × Sl)), (R7.map fun r : List UInt8 × Sl => (r.1, r.2.body)) = filesC S' → OwnG shF 47 W1 W.heap.size A7 c7 R7 → Txts W1 W.heap.size (R7.map fun r => r.2) → Ext W W1 → Calls Try.prog 30 #[.slice A7 n5 c7, .slice A5 n5 c5] W1 fun e w' => e = .returned (.bool true) ∧ Ext W1 w') := Lib.hid (fun W P S' _ hf' hfc hW W1 A7 c7 R7 hR7 ho7 ht7 hx7 => by
        obtain ⟨k1, k2⟩ := HK.out W hW
        have CA := ralike_any (n := n5) (m := n5) (c := c7) (d := c5) (ho7.rd' (by rw [HN5.out, ← hfc, ← hR7, List.length_map])) (k1.ext hx7) (fun r hr => ⟨(ht7.own r.2 (List.mem_map.2 ⟨r, hr, rfl⟩)).rd, body_le hf' hR7 r hr⟩) (fun r hr => ⟨(k2 r hr).1.ext hx7, (k2 r hr).2⟩) Hn5.out
        rw [show decide (flL R7 = flL R5) = true from decide_eq_true (hR7.trans (hfc.trans HR5.out.symm))] at CA
        exact CA)
      by_cases hk1' : kind = 1
      · subst hk1'
        go_wp2_with fail
        obtain ⟨wl, hwl⟩ : ∃ wl, wl = w4.alloc (.cells #[.int .i64 1, .int .i64 1, .int .i64 0] 64) := ⟨_, rfl⟩
        have hxl : Ext w4 wl := by rw [hwl]; exact (Ext.refl w4).alloc _
        have hrow : RdG shFt wl (some ⟨w4.heap.size, 0, none⟩) 1 [(1, 1, 0)] := by
          have q := RdG.lit shFt 64 w4 [(1, 1, 0)] (b := w4.heap.size) (n := 1) rfl rfl
          rw [hwl]
          exact q
        have HDl := Lib.hid (HD4.out.more hxl)
        have HPl := Lib.hid (show PFr (fun b => b < wb.heap.size ∨ (w0.heap.size ≤ b ∧ b < w4.heap.size)) w4 wl from HD4.out.pfr hxl)
        have CP := Lib.hid (plan_Dk (c := 1) HDl.out hrow (by intro p hp; simp only [List.mem_singleton] at hp; subst hp; decide) (by decide) (fun _ a ha => .inr (by injection ha with ha; rw [← ha]; exact ⟨Nat.le_refl _, by rw [hwl]; simp⟩)))
        rw [← hwl]
        clear hwl hxl hrow
        refine CP.out.mono ?_
        rintro e wp ⟨rfl, hDp, hBp⟩
        have HDp := Lib.hid (show DkR wp (fun b => b < wb.heap.size ∨ (w0.heap.size ≤ b ∧ b < w4.heap.size)) dp { S with plan := planL [(1, 1, 0)] } from hDp.less (fun b hb => .inl hb))
        have HPp := Lib.hid (HPl.out.trans (hBp.less (fun b hb => .inl hb)))
        have HEp := Lib.hid (HP4.out wp HPp.out)
        clear hDp hBp CP HDl HPl
        obtain ⟨q0, q1, q2, q3, q4, q5, q6, q7⟩ := HC.out wp (HEp.out.block _ Hlt.out)
        have CS := Lib.hid (step_Dk HDp.out (by show 0 ≤ S.steps ∧ S.steps < 1000000000000000; rw [Hst.out]; decide) (by show S.chs.length < 10000000000000; rw [Hch.out]; decide) ⟨HFit.out.1, HFit.out.2⟩ p.k p.x p.y PX.out PY.out p.N p.M p.d.A md p.d.c p.d.body (PR.out.ext HEp.out) PU.out PD.out (.slice p.fa p.fn p.fc) (.slice p.ka p.kn p.kc))
        go_wp2_with fail
        refine CS.out.mono ?_
        rintro e w5 ⟨r, S', q, rfl, hD5, hE5, _, hB5⟩
        rw [fated_fail (S := { S with plan := planL [(1, 1, 0)] }) (n := 0) _ _ Hon.out Hst.out rfl] at hE5
        injection hE5 with hr hS
        subst hr
        obtain ⟨S2, hS2⟩ : ∃ T : DS, T = S' := ⟨_, rfl⟩
        rw [← hS2] at hS hD5
        have Hfc : Hid (filesC S2 = filesC S) := Lib.hid (by rw [hS]; rfl)
        have Hf2 : Hid (Fit S2 140737488355328) := Lib.hid (by rw [hS]; exact ⟨HFit.out.1, HFit.out.2⟩)
        have Hc2 : Hid (S2.chs = []) := Lib.hid (by rw [hS]; exact Hch.out)
        have Hs2 : Hid (S2.steps = 1) := Lib.hid (by rw [hS])
        have Ho2 : Hid (S2.on = true) := Lib.hid (by rw [hS]; exact Hon.out)
        have Hk2 : Hid (Calm S2) := Lib.hid (by rw [hS]; exact ⟨K0.out.1, K0.out.2, K0.out.3⟩)
        have HD5 := Lib.hid hD5
        have HP5 := Lib.hid (HPp.out.trans hB5)
        have CPw := power_Dk HD5.out
        rw [Ho2.out] at CPw
        have CPw := Lib.hid CPw
        have HCF := files_Dk HD5.out Hf2.out
        unfold FilesPost at HCF
        rw [Hfc.out, ← HN5.out] at HCF
        have HCF := Lib.hid HCF
        clear hS hS2 hD5 hB5 CS q0 q1 q2 q3 q4 q5 q6 q7
        go_wp2_with fail
        refine HCF.out.mono ?_
        rintro e w6 ⟨A7, c7, R7, rfl, hR7, ho7, ht7, hx7⟩
        have CAl := Lib.hid (HAL.out w5 _ S2 HD5.out Hf2.out Hfc.out HP5.out w6 A7 c7 R7 (hR7.trans Hfc.out.symm) ho7 ht7 hx7)
        have HX7 := Lib.hid hx7
        clear hR7 ho7 ht7 hx7 HCF
        go_wp2_with fail
        refine CAl.out.mono ?_
        rintro e w7 ⟨rfl, hx8⟩
        have HX7 := Lib.hid (HX7.out.trans hx8)
        have HD7 := Lib.hid (HD5.out.ext HX7.out)
        have HP7 := Lib.hid (HP5.out.trans (HD5.out.pfr HX7.out))
        have CLo := loose_Dk HD7.out
        rw [Hc2.out] at CLo
        have CLo := Lib.hid CLo
        have CSt := steps_Dk HD7.out
        rw [Hs2.out] at CSt
        have CSt := Lib.hid CSt
        clear hx8 CAl
        go_wp2_with fail
        refine CLo.out.mono ?_
        rintro e wx ⟨rfl, rfl⟩
        go_wp2_with fail
        refine CSt.out.mono ?_
        rintro e wx ⟨rfl, rfl⟩
        go_wp2_with fail
        obtain ⟨wm, hwm⟩ : ∃ wl, wl = w7.alloc (.cells #[.int .i64 1099511627776, .int .i64 1099511627776] 3) := ⟨_, rfl⟩
        have hxm : Ext w7 wm := by rw [hwm]; exact (Ext.refl w7).alloc _
        have hrm : RdG shZ wm (some ⟨w7.heap.size, 0, none⟩) 2 [1099511627776, 1099511627776] := by
          have q := RdG.lit shZ 3 w7 [1099511627776, 1099511627776] (b := w7.heap.size) (n := 2) rfl rfl
          rw [hwm]
          exact q
        have HDm := Lib.hid (HD7.out.more hxm)
        have HPm := Lib.hid (HP7.out.trans (HD7.out.pfr hxm))
        have CO := on_Dk (c := 2) HDm.out hrm Hf2.out (by decide) (fun _ a ha => .inr (by injection ha with ha; rw [← ha]; exact ⟨Nat.le_refl _, by rw [hwm]; simp⟩))
        rw [Hk2.out.on] at CO
        have CO := Lib.hid CO
        rw [← hwm]
        clear hwm hxm hrm
        refine CO.out.mono ?_
        rintro e w8 ⟨rfl, hD8, hB8⟩
        have HD8 := Lib.hid hD8
        have HP8 := Lib.hid (HPm.out.trans (hB8.less (fun b hb => .inl hb)))
        have Hf8 : Hid (Fit { S2 with on := true } 140737488355328) := Lib.hid ⟨Hf2.out.1, Hf2.out.2⟩
        have HCG := files_Dk HD8.out Hf8.out
        unfold FilesPost at HCG
        rw [show filesC { S2 with on := true } = filesC S from Hfc.out, ← HN5.out] at HCG
        have HCG := Lib.hid HCG
        clear hD8 hB8 CO HDm HPm
        go_wp2_with fail
        refine HCG.out.mono ?_
        rintro e w9 ⟨A9, c9, R9, rfl, hR9, ho9, ht9, hx9⟩
        have CAl := Lib.hid (HAL.out w8 _ { S2 with on := true } HD8.out Hf8.out Hfc.out HP8.out w9 A9 c9 R9 (hR9.trans Hfc.out.symm) ho9 ht9 hx9)
        have HX9 := Lib.hid hx9
        clear hR9 ho9 ht9 hx9 HCG
        go_wp2_with fail
        refine CAl.out.mono ?_
        rintro e w10 ⟨rfl, hx10⟩
        have HX9 := Lib.hid (HX9.out.trans hx10)
        have HP9 := Lib.hid (HP8.out.trans ((HD8.out.pfr HX9.out).less (fun b hb => .inl hb)))
        have HE9 := Lib.hid (HVE.out.trans (HP4.out _ HP9.out))
        have CPz := Lib.hid (power_Dk (HD8.out.ext HX9.out))
        clear hx10 CAl
        go_wp2_with fail
        refine CPz.out.mono ?_
        rintro e wx ⟨rfl, rfl⟩
        go_wp2_with fail
        go_ret
        exact ⟨rfl, HE9.out⟩
      · by_cases hk3 : kind = 3
        · subst hk3
          clear hk1'
          go_wp2_with fail
          obtain ⟨wl, hwl⟩ : ∃ wl, wl = w4.alloc (.cells #[.int .i64 1, .int .i64 3, .int .i64 0] 64) := ⟨_, rfl⟩
          have hxl : Ext w4 wl := by rw [hwl]; exact (Ext.refl w4).alloc _
          have hrow : RdG shFt wl (some ⟨w4.heap.size, 0, none⟩) 1 [(1, 3, 0)] := by
            have q := RdG.lit shFt 64 w4 [(1, 3, 0)] (b := w4.heap.size) (n := 1) rfl rfl
            rw [hwl]
            exact q
          have HDl := Lib.hid (HD4.out.more hxl)
          have HPl := Lib.hid (show PFr (fun b => b < wb.heap.size ∨ (w0.heap.size ≤ b ∧ b < w4.heap.size)) w4 wl from HD4.out.pfr hxl)
          have CP := Lib.hid (plan_Dk (c := 1) HDl.out hrow (by intro p hp; simp only [List.mem_singleton] at hp; subst hp; decide) (by decide) (fun _ a ha => .inr (by injection ha with ha; rw [← ha]; exact ⟨Nat.le_refl _, by rw [hwl]; simp⟩)))
          rw [← hwl]
          clear hwl hxl hrow
          refine CP.out.mono ?_
          rintro e wp ⟨rfl, hDp, hBp⟩
          have HDp := Lib.hid (show DkR wp (fun b => b < wb.heap.size ∨ (w0.heap.size ≤ b ∧ b < w4.heap.size)) dp { S with plan := planL [(1, 3, 0)] } from hDp.less (fun b hb => .inl hb))
          have HPp := Lib.hid (HPl.out.trans (hBp.less (fun b hb => .inl hb)))
          have HEp := Lib.hid (HP4.out wp HPp.out)
          clear hDp hBp CP HDl HPl
          obtain ⟨q0, q1, q2, q3, q4, q5, q6, q7⟩ := HC.out wp (HEp.out.block _ Hlt.out)
          have CS := Lib.hid (step_Dk HDp.out (by show 0 ≤ S.steps ∧ S.steps < 1000000000000000; rw [Hst.out]; decide) (by show S.chs.length < 10000000000000; rw [Hch.out]; decide) ⟨HFit.out.1, HFit.out.2⟩ p.k p.x p.y PX.out PY.out p.N p.M p.d.A md p.d.c p.d.body (PR.out.ext HEp.out) PU.out PD.out (.slice p.fa p.fn p.fc) (.slice p.ka p.kn p.kc))
          go_wp2_with fail
          refine CS.out.mono ?_
          rintro e w5 ⟨r, S', q, rfl, hD5, hE5, _, hB5⟩
          rw [fated_before (S := { S with plan := planL [(1, 3, 0)] }) (n := 0) _ _ Hon.out Hst.out rfl] at hE5
          injection hE5 with hr hS
          subst hr
          obtain ⟨S2, hS2⟩ : ∃ T : DS, T = S' := ⟨_, rfl⟩
          rw [← hS2] at hS hD5
          have Hfc : Hid (filesC S2 = filesC S) := Lib.hid (by rw [hS]; rfl)
          have Hf2 : Hid (Fit S2 140737488355328) := Lib.hid (by rw [hS]; exact ⟨HFit.out.1, HFit.out.2⟩)
          have Hc2 : Hid (S2.chs = []) := Lib.hid (by rw [hS]; exact Hch.out)
          have Hs2 : Hid (S2.steps = 1) := Lib.hid (by rw [hS])
          have Ho2 : Hid (S2.on = false) := Lib.hid (by rw [hS])
          have Hk2 : Hid (Calm S2) := Lib.hid (by rw [hS]; exact ⟨K0.out.1, K0.out.2, K0.out.3⟩)
          have HD5 := Lib.hid hD5
          have HP5 := Lib.hid (HPp.out.trans hB5)
          have CPw := power_Dk HD5.out
          rw [Ho2.out] at CPw
          have CPw := Lib.hid CPw
          have HCF := files_Dk HD5.out Hf2.out
          unfold FilesPost at HCF
          rw [Hfc.out, ← HN5.out] at HCF
          have HCF := Lib.hid HCF
          clear hS hS2 hD5 hB5 CS q0 q1 q2 q3 q4 q5 q6 q7
          go_wp2_with fail
          refine CPw.out.mono ?_
          rintro e wx ⟨rfl, rfl⟩
          go_wp2_with fail
          refine HCF.out.mono ?_
          rintro e w6 ⟨A7, c7, R7, rfl, hR7, ho7, ht7, hx7⟩
          have CAl := Lib.hid (HAL.out w5 _ S2 HD5.out Hf2.out Hfc.out HP5.out w6 A7 c7 R7 (hR7.trans Hfc.out.symm) ho7 ht7 hx7)
          have HX7 := Lib.hid hx7
          clear hR7 ho7 ht7 hx7 HCF
          go_wp2_with fail
          refine CAl.out.mono ?_
          rintro e w7 ⟨rfl, hx8⟩
          have HX7 := Lib.hid (HX7.out.trans hx8)
          have HD7 := Lib.hid (HD5.out.ext HX7.out)
          have HP7 := Lib.hid (HP5.out.trans (HD5.out.pfr HX7.out))
          have CLo := loose_Dk HD7.out
          rw [Hc2.out] at CLo
          have CLo := Lib.hid CLo
          have CSt := steps_Dk HD7.out
          rw [Hs2.out] at CSt
          have CSt := Lib.hid CSt
          clear hx8 CAl
          go_wp2_with fail
          refine CLo.out.mono ?_
          rintro e wx ⟨rfl, rfl⟩
          go_wp2_with fail
          refine CSt.out.mono ?_
          rintro e wx ⟨rfl, rfl⟩
          go_wp2_with fail
          obtain ⟨wm, hwm⟩ : ∃ wl, wl = w7.alloc (.cells #[.int .i64 1099511627776, .int .i64 1099511627776] 3) := ⟨_, rfl⟩
          have hxm : Ext w7 wm := by rw [hwm]; exact (Ext.refl w7).alloc _
          have hrm : RdG shZ wm (some ⟨w7.heap.size, 0, none⟩) 2 [1099511627776, 1099511627776] := by
            have q := RdG.lit shZ 3 w7 [1099511627776, 1099511627776] (b := w7.heap.size) (n := 2) rfl rfl
            rw [hwm]
            exact q
          have HDm := Lib.hid (HD7.out.more hxm)
          have HPm := Lib.hid (HP7.out.trans (HD7.out.pfr hxm))
          have CO := on_Dk (c := 2) HDm.out hrm Hf2.out (by decide) (fun _ a ha => .inr (by injection ha with ha; rw [← ha]; exact ⟨Nat.le_refl _, by rw [hwm]; simp⟩))
          rw [Hk2.out.on] at CO
          have CO := Lib.hid CO
          rw [← hwm]
          clear hwm hxm hrm
          refine CO.out.mono ?_
          rintro e w8 ⟨rfl, hD8, hB8⟩
          have HD8 := Lib.hid hD8
          have HP8 := Lib.hid (HPm.out.trans (hB8.less (fun b hb => .inl hb)))
          have Hf8 : Hid (Fit { S2 with on := true } 140737488355328) := Lib.hid ⟨Hf2.out.1, Hf2.out.2⟩
          have HCG := files_Dk HD8.out Hf8.out
          unfold FilesPost at HCG
          rw [show filesC { S2 with on := true } = filesC S from Hfc.out, ← HN5.out] at HCG
          have HCG := Lib.hid HCG
          clear hD8 hB8 CO HDm HPm
          go_wp2_with fail
          refine HCG.out.mono ?_
          rintro e w9 ⟨A9, c9, R9, rfl, hR9, ho9, ht9, hx9⟩
          have CAl := Lib.hid (HAL.out w8 _ { S2 with on := true } HD8.out Hf8.out Hfc.out HP8.out w9 A9 c9 R9 (hR9.trans Hfc.out.symm) ho9 ht9 hx9)
          have HX9 := Lib.hid hx9
          clear hR9 ho9 ht9 hx9 HCG
          go_wp2_with fail
          refine CAl.out.mono ?_
          rintro e w10 ⟨rfl, hx10⟩
          have HX9 := Lib.hid (HX9.out.trans hx10)
          have HP9 := Lib.hid (HP8.out.trans ((HD8.out.pfr HX9.out).less (fun b hb => .inl hb)))
          have HE9 := Lib.hid (HVE.out.trans (HP4.out _ HP9.out))
          have CPz := Lib.hid (power_Dk (HD8.out.ext HX9.out))
          clear hx10 CAl
          go_wp2_with fail
          refine CPz.out.mono ?_
          rintro e wx ⟨rfl, rfl⟩
          go_wp2_with fail
          go_ret
          exact ⟨rfl, HE9.out⟩
        · have e1 : (kind == 1) = false := by simpa using hk1'
          have e3 : (kind == 3) = false := by simpa using hk3
          clear hk1' hk3
          obtain ⟨q0, q1, q2, q3, q4, q5, q6, q7⟩ := HC.out w4 (HE4.out.block _ Hlt.out)
          have CS := Lib.hid (step_Dk HD4.out (by rw [Hst.out]; decide) (by rw [Hch.out]; decide) HFit.out p.k p.x p.y PX.out PY.out p.N p.M p.d.A md p.d.c p.d.body (PR.out.ext HE4.out) PU.out PD.out (.slice p.fa p.fn p.fc) (.slice p.ka p.kn p.kc))
          go_wp2_with fail
          refine CS.out.mono ?_
          rintro e w5 ⟨r, S', q, rfl, hD5, hE5, _, hB5⟩
          rw [fated_plain I0.out.pl] at hE5
          have HD5 := Lib.hid hD5
          have HP5 := Lib.hid hB5
          have HE5 := Lib.hid hE5
          clear hD5 hB5 hE5 CS q0 q1 q2 q3 q4 q5 q6 q7 e1 e3
          by_cases hr : r = 0
          · subst hr
            have HEz := Lib.hid (HVE.out.trans (HP4.out _ HP5.out))
            go_wp2_with fail
            go_ret
            exact ⟨rfl, HEz.out⟩
          · have hS : S' = { S with steps := S.steps + 1 } := by
              have h1 := stepF_no p.k p.x p.y p.d.body q (S := { S with steps := S.steps + 1 }) (by rw [← HE5.out]; exact hr)
              rw [← HE5.out] at h1
              exact h1
            have e1 : (r == 0) = false := by simpa using hr
            have Hfc : Hid (filesC S' = filesC S) := Lib.hid (by rw [hS]; rfl)
            have Hf2 : Hid (Fit S' 140737488355328) := Lib.hid (by rw [hS]; exact ⟨HFit.out.1, HFit.out.2⟩)
            have Hc2 : Hid (S'.chs = []) := Lib.hid (by rw [hS]; exact Hch.out)
            have HCF := files_Dk HD5.out Hf2.out
            unfold FilesPost at HCF
            rw [Hfc.out, ← HN5.out] at HCF
            have HCF := Lib.hid HCF
            clear hS hr HE5
            go_wp2_with fail
            refine HCF.out.mono ?_
            rintro e w6 ⟨A7, c7, R7, rfl, hR7, ho7, ht7, hx7⟩
            have CAl := Lib.hid (HAL.out w5 _ S' HD5.out Hf2.out Hfc.out HP5.out w6 A7 c7 R7 (hR7.trans Hfc.out.symm) ho7 ht7 hx7)
            have HX7 := Lib.hid hx7
            clear hR7 ho7 ht7 hx7 HCF
            go_wp2_with fail
            refine CAl.out.mono ?_
            rintro e w7 ⟨rfl, hx8⟩
            have HX7 := Lib.hid (HX7.out.trans hx8)
            have HP7 := Lib.hid (HP5.out.trans (HD5.out.pfr HX7.out))
            have HE7 := Lib.hid (HVE.out.trans (HP4.out _ HP7.out))
            have CLo := loose_Dk (HD5.out.ext HX7.out)
            rw [Hc2.out] at CLo
            have CLo := Lib.hid CLo
            clear hx8 CAl
            go_wp2_with fail
            refine CLo.out.mono ?_
            rintro e wx ⟨rfl, rfl⟩
            go_wp2_with fail
            go_ret
            exact ⟨rfl, HE7.out⟩
    · by_cases hk1 : 1 ≤ p.k
      · have hk6 : ¬ p.k ≤ 6 := fun h => hk ⟨hk1, h⟩
        clear hk
        go_wp2_with fail
        go_ret
        exact ⟨rfl, HVE.out.trans E0.out⟩
      · clear hk
        go_wp2_with fail
        go_ret
        exact ⟨rfl, HVE.out.trans E0.out⟩
  · have CL := rload_any 16777216 (by decide) (by decide) (c := c1) (R1.out.ext (HEB.out.trans hx0)) (fun r hr => ⟨(B1.out r hr).1, (B1.out r hr).2.1.ext (HEB.out.trans hx0), (B1.out r hr).2.2⟩) (by omega)
    rw [← HF.out] at CL
    have CL := CL.mono (fun e w' q => rload_err hlaid hFj hbad q)
    obtain ⟨E, hE⟩ : ∃ E, E = refC (ldS (newS 16777216) F ids j) x.1 := ⟨_, rfl⟩
    rw [← hE] at CL hbad
    have CL := Lib.hid CL
    have HE0 := Lib.hid (HEB.out.trans hx0)
    have e1 : (E == 0) = false := by simpa using hbad
    rw [← hE]
    clear hlaid hx0 hFj hj hE HL
    go_wp2_with fail
    refine CL.out.mono ?_
    rintro e w2 ⟨rfl, hx2⟩
    have HX2 := Lib.hid (HVE.out.trans (HE0.out.trans hx2))
    have HN := Lib.hid (heap_alloc_new w2 (.cells #[.slice none 0 0, .slice none 0 0, .slice none 0 0, .int .i64 0, .slice none 0 0, .int .i64 0, .bool false] 59))
    clear hx2 CL
    go_wp2_with (first
      | (refine wpList_store_row rfl 59 _ _ rfl w2.heap.size #[.slice none 0 0, .slice none 0 0, .slice none 0 0, .int .i64 0, .slice none 0 0, .int .i64 0, .bool false] rfl rfl 59 _ HN.out (by kernel_rfl) rfl (by simp [Value.oneCell']) ?_)
      | fail)
    go_ret
    exact ⟨rfl, (HX2.out.alloc _).setRow HX2.out.size _⟩

end Go.Proofs.Ytjckfbpdnpehcaa
