import Derived.Test.YtjckfbpdnpehcaaYDKE
import Derived.Test.YtjckfbpdnpehcaaKB
import Derived.Test.YtjckfbpdnpehcaaDKr
import Derived.Test.YtjckfbpdnpehcaaKM
import Derived.Test.YtjckfbpdnpehcaaYDMb

/-
  Layer 14: the document's Load fails where the disk's does, with the same error.
-/
namespace Go.Proofs.Ytjckfbpdnpehcaa
open Go.RowKit Go.Maps Go.WideMaps
set_option maxRecDepth 100000

theorem names_ld {F : List (List UInt8 × List Nat)} {ids : Nat → Nat} {room : Int} : ∀ j, j ≤ F.length → (∀ i e, i < j → F[i]? = some e → refC (ldS (newS room) F ids i) e.1 = 0) → (dirF F j).map (·.1) = (ldS (newS room) F ids j).files.map (·.1) ∧ AscD (ldS (newS room) F ids j).files
  | 0, _, _ => ⟨rfl, List.Pairwise.nil⟩
  | j + 1, hj, h => by
    obtain ⟨h1, h2⟩ := names_ld j (by omega) (fun i e hi => h i e (by omega))
    have hx : F[j]? = some F[j] := List.getElem?_eq_getElem (by omega)
    have hr := h j _ (by omega) hx
    obtain ⟨_, hl, _⟩ := refC_ok hr
    have hd : dirF F (j + 1) = withL F[j].1 (j : Int) (dirF F j) := by
      show (match F[j]? with | some e => withL e.1 (j : Int) (dirF F j) | none => dirF F j) = _
      rw [hx]
    have hs : ldS (newS room) F ids (j + 1) = ldStep F[j] (ids j) (ldS (newS room) F ids j) := by
      show (match F[j]? with | some e => ldStep e (ids j) (ldS (newS room) F ids j) | none => ldS (newS room) F ids j) = _
      rw [hx]
    rw [hd, hs]
    have hn : F[j].1 ∉ (dirF F j).map (·.1) := fun q => by
      rw [h1] at q
      have := lkp_iff.2 q
      rw [hl] at this
      cases this
    exact ⟨names_put h2 h1 hn, asc_put h2 _ _⟩
theorem refE_ld {F : List (List UInt8 × List Nat)} {ids : Nat → Nat} {room : Int} {j : Nat} (hj : j ≤ F.length) (hL : Laid (newS room) F ids j) (x : List UInt8) : refE x (dirF F j) = refC (ldS (newS room) F ids j) x :=
  refE_refC (dirF_ids F j) (names_ld j hj (fun i e hi he => hL.ok i e hi he)).1
theorem Laid.less {S0 : DS} {F : List (List UInt8 × List Nat)} {ids : Nat → Nat} {j : Nat} (h : Laid S0 F ids j) {i : Nat} (hi : i ≤ j) : Laid S0 F ids i := ⟨fun k e hk => h.ok k e (by omega), fun k f hk => h.new k f (by omega)⟩

theorem rload_err {room : Int} {F : List (List UInt8 × List Nat)} {ids : Nat → Nat} {j : Nat} {x : List UInt8 × List Nat} {w w' : World} {e : Ending} (hL : Laid (newS room) F ids j) (hx : F[j]? = some x) (hr : refC (ldS (newS room) F ids j) x.1 ≠ 0) (h : RLoadPost room F w e w') :
    e = .returned (.tuple #[rZero, .int .i64 (refC (ldS (newS room) F ids j) x.1)]) ∧ Ext w w' := by
  have hj : j < F.length := (List.getElem?_eq_some_iff.1 hx).1
  have he := refE_ld (Nat.le_of_lt hj) hL x.1
  rcases h with ⟨_, _, _, _, _, _, h2, _⟩ | ⟨k, y, h1, h2, h3, h4, h5⟩
  · exact absurd (he.symm.trans (h2 j x hj hx)) hr
  · have hk : k < F.length := (List.getElem?_eq_some_iff.1 h1).1
    rcases Nat.lt_trichotomy k j with q | q | q
    · have h6 := refE_ld (Nat.le_of_lt hk) (hL.less (Nat.le_of_lt q)) y.1
      rw [hL.ok k y q h1] at h6
      exact absurd h6 h3
    · subst q
      rw [hx] at h1
      injection h1 with h1
      subst h1
      rw [he] at h4
      exact ⟨h4, h5⟩
    · exact absurd (he.symm.trans (h2 j x q hx)) hr

end Go.Proofs.Ytjckfbpdnpehcaa

/-
  Layer 14: DiskTwice, walked.
-/
namespace Go.Proofs.Ytjckfbpdnpehcaa
open Go.RowKit Go.Maps Go.WideMaps
set_option maxRecDepth 100000

theorem rows_keep {W W1 W' : World} {P : Nat → Prop} {base c n : Nat} {A : Option Addr} {R : List (List UInt8 × Sl)} (ho : OwnG shF 47 W base A c R) (ht : Txts W base (R.map fun r => r.2)) (hn : R.length = n) (he : Ext W W1) (hp : PFr P W1 W') (hP : ∀ b, base ≤ b → b < W.heap.size → P b) :
    RdG shF W' A n R ∧ ∀ r ∈ R, Rd .u8 W' r.2.A r.2.body.length r.2.body := by
  refine ⟨((ho.ext he).rd' hn).fr hp.size (fun a ha _ => hp.block _ (by obtain ⟨h1, h2⟩ := ho.block a ha; exact hP _ h1 h2)), fun r hr => ?_⟩
  have h1 := ht.own r.2 (List.mem_map.2 ⟨r, hr, rfl⟩)
  exact (h1.rd.ext he).pfr hp (fun _ a ha => by obtain ⟨h2, h3⟩ := h1.block a ha; exact hP _ h2 h3)
theorem filesC_le {S : DS} (h : Fit S 140737488355328) : ∀ x ∈ filesC S, x.2.length ≤ 140737488355328 := by
  intro x hx
  obtain ⟨e, he, rfl⟩ := List.mem_map.1 hx
  show (fileD S e.2).data.length ≤ _
  unfold fileD
  cases hq : S.fl.find? fun x => decide (x.1 = e.2) with
  | none => exact Nat.zero_le _
  | some y => exact h.len y.1 y.2 (List.mem_of_find?_eq_some hq)
theorem body_le {S : DS} (h : Fit S 140737488355328) {R : List (List UInt8 × Sl)} (hR : (R.map fun r : List UInt8 × Sl => (r.1, r.2.body)) = filesC S) : ∀ r ∈ R, r.2.body.length ≤ 140737488355328 := fun r hr =>
  filesC_le h (r.1, r.2.body) (by rw [← hR]; exact List.mem_map.2 ⟨r, hr, rfl⟩)

set_option maxHeartbeats 25600000 in
theorem walk_DiskTwice (A1 : Option Addr) (n1 c1 : Nat) (R : List (List UInt8 × Sl)) (A2 : Option Addr) (n2 c2 : Nat) (os : List OpL) (A3 : Option Addr) (n3 c3 : Nat) (ks : List Int) (A4 : Option Addr) (n4 c4 : Nat) (ks2 : List Int) (w : World)
    (r1 : RdG shF w A1 n1 R) (b1 : ∀ r ∈ R, r.1.length ≤ 140737488355328 ∧ Rd .u8 w r.2.A r.2.body.length r.2.body ∧ U8 r.2.body ∧ r.2.body.length ≤ 140737488355328) (z1 : n1 ≤ 3518437208883) (r2 : RdG shOp w A2 n2 os) (b2 : ∀ o ∈ os, OpOk w o) (z2 : n2 ≤ 1099511627776) (r3 : RdG shZ w A3 n3 ks) (z3 : n3 ≤ 140737488355328) (r4 : RdG shZ w A4 n4 ks2) (z4 : n4 ≤ 140737488355328) :
    Calls Try.prog 7 #[.slice A1 n1 c1, .slice A2 n2 c2, .slice A3 n3 c3, .slice A4 n4 c4] w fun e w' => e = .returned (.bool true) ∧ Ext w w' := by
  have R1 := Lib.hid r1
  have R2 := Lib.hid r2
  have R3 := Lib.hid r3
  have R4 := Lib.hid r4
  have B1 := Lib.hid b1
  have B2 := Lib.hid b2
  obtain ⟨F, hF⟩ : ∃ F, F = R.map fun r => (r.1, r.2.body) := ⟨_, rfl⟩
  have hFl : F.length = n1 := by rw [hF, List.length_map]; exact r1.len
  have HF := Lib.hid hF
  have HFl := Lib.hid hFl
  clear r1 r2 r3 r4 b1 b2 hF hFl
  go_enter Try.func7, Try.ntmps7
  go_wp2_with fail
  refine (alive14 _).mono ?_
  rintro e wa ⟨rfl, hea⟩
  have HEA := Lib.hid hea
  clear hea
  have CT := rtwinF_any (c := c1) (R1.out.ext HEA.out) (fun r hr => ⟨(B1.out r hr).2.1.ext HEA.out, (B1.out r hr).2.2.2⟩) z1
  rw [← HF.out] at CT
  have CT := Lib.hid CT
  go_wp2_with fail
  refine CT.out.mono ?_
  rintro e wb ⟨Ab, cb, Rb, rfl, hRb, hob, htb, hxb⟩
  have hbl : F.length = n1 := HFl.out
  rw [hbl]
  have hlb : Rb.length = n1 := by rw [← HFl.out, ← hRb, List.length_map]
  have HL := load_any 16777216 (c := cb) (hob.rd' hlb) (fun r hr => by
    have hm : (r.1, r.2.body) ∈ F := by rw [← hRb]; exact List.mem_map.2 ⟨r, hr, rfl⟩
    rw [HF.out] at hm
    obtain ⟨r0, hr0, h0⟩ := List.mem_map.1 hm
    obtain ⟨k1, k2, k3, k4⟩ := B1.out r0 hr0
    injection h0 with e1 e2
    exact ⟨by rw [← e1]; exact k1, (htb.own r.2 (List.mem_map.2 ⟨r, hr, rfl⟩)).rd, by rw [← e2]; exact k3, by rw [← e2]; exact k4⟩) (by omega)
  rw [hRb] at HL
  have HL := Lib.hid HL
  have HEB := Lib.hid (show Ext w wb from HEA.out.trans hxb)
  have HFb : Hid (∀ x ∈ F, x.2.length ≤ 140737488355328) := Lib.hid (fun x hx => by
    rw [HF.out] at hx
    obtain ⟨r0, hr0, rfl⟩ := List.mem_map.1 hx
    exact (B1.out r0 hr0).2.2.2)
  clear hRb hob htb hxb hbl hlb CT
  go_wp2_with fail
  refine HL.out.mono ?_
  rintro e w0 hpost
  rcases hpost with ⟨dp, ids, rfl, hlaid, h0, hx0⟩ | ⟨ids, j, x, hj, rfl, hFj, hlaid, hbad, hx0⟩
  · have hSI := SI.loaded (ids := ids) (j := F.length) HFb.out
    obtain ⟨S0, hS0⟩ : ∃ S0, S0 = { ldS (newS 16777216) F ids F.length with safe := (ldS (newS 16777216) F ids F.length).files, chs := [] } := ⟨_, rfl⟩
    rw [← hS0] at hSI h0
    have H0 := Lib.hid h0
    have I0 := Lib.hid hSI
    have E0 := Lib.hid (show Below w.heap.size w w0 from HEB.out.trans hx0)
    clear hlaid h0 hx0 hSI hS0 HL
    go_wp2_with fail
    go_loopw [14, 46] (fun _ i wr => ∃ (j : Nat) (S : DS), j ≤ n2 ∧ i = .int .i64 (j : Int) ∧ Hid (SI j S) ∧ Hid (DkR wr (fun b => b < wb.heap.size) dp S) ∧ Hid (Below w.heap.size w wr)) (fun _ i _ => n2 - (intOf i).toNat)
    case atStart => exact ⟨0, S0, Nat.zero_le _, rfl, I0, H0, E0⟩
    case round =>
      obtain ⟨j, S, hj, rfl, HI, HD, HE⟩ := hrel
      by_cases hlt : j < n2
      · obtain ⟨b, o, p, hA, hbl, hx, hcx⟩ := (R2.out.ext (show Ext w wr from HE.out)).at_ hlt
        have q0 : wr.cell? ⟨b, o + j * 8, none⟩ = some (.int .i64 p.k) := by simpa [shOp] using hcx 0 _ rfl
        have q1 : wr.cell? ⟨b, o + j * 8 + 1, none⟩ = some (nm p.x) := by simpa [shOp] using hcx 1 _ rfl
        have q2 : wr.cell? ⟨b, o + j * 8 + 2, none⟩ = some (nm p.y) := by simpa [shOp] using hcx 2 _ rfl
        have q3 : wr.cell? ⟨b, o + j * 8 + 3, none⟩ = some (.int .i64 p.N) := by simpa [shOp] using hcx 3 _ rfl
        have q4 : wr.cell? ⟨b, o + j * 8 + 4, none⟩ = some (.int .i64 p.M) := by simpa [shOp] using hcx 4 _ rfl
        have q5 : wr.cell? ⟨b, o + j * 8 + 5, none⟩ = some (.slice p.d.A p.d.body.length p.d.c) := by simpa [shOp, Sl.v] using hcx 5 _ rfl
        have q6 : wr.cell? ⟨b, o + j * 8 + 6, none⟩ = some (.slice p.fa p.fn p.fc) := by simpa [shOp] using hcx 6 _ rfl
        have q7 : wr.cell? ⟨b, o + j * 8 + 7, none⟩ = some (.slice p.ka p.kn p.kc) := by simpa [shOp] using hcx 7 _ rfl
        rw [hA]
        have hok := B2.out p (List.mem_of_getElem? hx)
        have CS : Hid (∀ W, Ext wr W → Calls Try.prog 28 #[.pointer (some ⟨dp, 0, none⟩), .agg #[.int .i64 p.k, nm p.x, nm p.y, .int .i64 p.N, .int .i64 p.M, .slice p.d.A p.d.body.length p.d.c, .slice p.fa p.fn p.fc, .slice p.ka p.kn p.kc]] W (Leaves W (fun b => b < wb.heap.size) dp S (stepF p.k p.x p.y p.d.body) (stepG p.k p.x p.d.body))) := Lib.hid (fun W hW =>
          step_Dk (HD.out.ext hW) (by have := HI.out.st; omega) (by have := HI.out.cnt; omega) HI.out.fit p.k p.x p.y hok.hx hok.hy p.N p.M p.d.A _ p.d.c p.d.body (hok.rd.ext ((show Ext w wr from HE.out).trans hW)) hok.u8 hok.hd _ _)
        have Hlt := Lib.hid hlt
        have Hnd := Lib.hid HD.out.nd
        obtain ⟨md, hmd⟩ : ∃ m, m = p.d.body.length := ⟨_, rfl⟩
        rw [← hmd] at q5 CS
        have Hmd := Lib.hid hmd
        clear hA hbl hx hcx hok hlt hmd
        by_cases hk : 1 ≤ p.k ∧ p.k ≤ 6
        · obtain ⟨hk1, hk6⟩ := hk
          go_wp2_with fail
          refine (CS.out _ ((Ext.refl wr).alloc _)).mono ?_
          rintro e w9 ⟨r, S', q, rfl, hD9, hE9, _, hB9⟩
          have HI9 : Hid (SI (j + 1) S') := Lib.hid (by
            have := HI.out.step Hnd.out p.k p.x p.y p.d.body q
            rw [← hE9] at this
            exact this)
          have HD9 := Lib.hid hD9
          have HB9 := Lib.hid (hB9.below ((show Ext w wr from HE.out).alloc (.cells #[.int .i64 p.k, nm p.x, nm p.y, .int .i64 p.N, .int .i64 p.M, .slice p.d.A md p.d.c, .slice p.fa p.fn p.fc, .slice p.ka p.kn p.kc] 53)) (fun i hi => Nat.lt_of_lt_of_le hi HEB.out.size))
          clear hD9 hE9 hB9
          go_wp2_with fail
          go_roundw
          case rel => exact ⟨j + 1, S', by have := Hlt.out; omega, by go_num, HI9, HD9, HB9⟩
          case measure => simp [intOf]; have := Hlt.out; omega
        · have HI9 := Lib.hid (HI.out.le (Nat.le_succ j))
          by_cases hk1 : 1 ≤ p.k
          · have hk6 : ¬ p.k ≤ 6 := fun h => hk ⟨hk1, h⟩
            clear hk
            go_wp2_with fail
            go_roundw
            case rel => exact ⟨j + 1, S, by have := Hlt.out; omega, by go_num, HI9, Lib.hid (HD.out.ext ((Ext.refl wr).alloc _)), Lib.hid ((show Ext w wr from HE.out).alloc _)⟩
            case measure => simp [intOf]; have := Hlt.out; omega
          · clear hk
            go_wp2_with fail
            go_roundw
            case rel => exact ⟨j + 1, S, by have := Hlt.out; omega, by go_num, HI9, Lib.hid (HD.out.ext ((Ext.refl wr).alloc _)), Lib.hid ((show Ext w wr from HE.out).alloc _)⟩
            case measure => simp [intOf]; have := Hlt.out; omega
      · obtain rfl : j = n2 := by omega
        have HO := Lib.hid (on_Dk (c := c3) HD.out (R3.out.ext (show Ext w wr from HE.out)) HI.out.fit z3 (fun h0 a ha => by have h5 := R3.out.lt h0 a ha; have h6 := HEB.out.size; show a.block < wb.heap.size; omega))
        obtain ⟨S1, hS1⟩ : ∃ S1, S1 = doOn ks S := ⟨_, rfl⟩
        have hle : ∀ q f, (q, f) ∈ S.fl → f.safe ≤ f.data.length := fun q f hf => (HD.out.le hf).1
        have H2 : Hid (doOn ks2 S1 = S1) := Lib.hid (by rw [hS1]; exact doOn_twice ks ks2 S hle)
        have HSF : Hid (safeC S1 = filesC S1) := Lib.hid (by rw [hS1]; exact safe_on ks S hle)
        have HFit : Hid (Fit S1 140737488355328) := Lib.hid (by rw [hS1]; exact HI.out.on ks)
        have Hon : Hid (S1.on = true) := Lib.hid (by rw [hS1]; rfl)
        have Hch : Hid (S1.chs.length = 0) := Lib.hid (by rw [hS1]; rfl)
        rw [← hS1] at HO
        clear hlt hS1 hle
        go_wp2_with fail
        refine HO.out.mono ?_
        rintro e w3 ⟨rfl, hD3, hB3⟩
        have HD3 := Lib.hid hD3
        have HE3 := Lib.hid (show Ext w w3 from hB3.below HE.out (fun i hi => Nat.lt_of_lt_of_le hi HEB.out.size))
        clear hD3 hB3 HO
        go_wp2_with fail
        refine (files_Dk HD3.out HFit.out).mono ?_
        rintro e w4 ⟨A5, c5, R5, rfl, hR5, ho5, ht5, hx5⟩
        obtain ⟨n5, hn5⟩ : ∃ n, n = (filesC S1).length := ⟨_, rfl⟩
        rw [← hn5]
        have HN5 := Lib.hid hn5
        have HR5 := Lib.hid hR5
        have HO5 := Lib.hid ho5
        have HT5 := Lib.hid ht5
        have HX5 := Lib.hid hx5
        have HD4 := Lib.hid (HD3.out.more hx5)
        have HE4 := Lib.hid (below_ext HE3.out hx5)
        clear hR5 ho5 ht5 hx5 hn5
        go_wp2_with fail
        refine (steps_Dk HD4.out).mono ?_
        rintro e w4' ⟨rfl, rfl⟩
        go_wp2_with fail
        refine (safe_Dk HD4.out HFit.out).mono ?_
        rintro e w5 ⟨A6, c6, R6, rfl, hR6, ho6, ht6, hx6⟩
        rw [HSF.out]
        rw [HSF.out] at hR6
        rw [← HN5.out]
        have HR6 := Lib.hid hR6
        have HO6 := Lib.hid ho6
        have HT6 := Lib.hid ht6
        have HX6 := Lib.hid hx6
        have HD5 := Lib.hid (HD4.out.more hx6)
        have HE5 := Lib.hid (below_ext HE4.out hx6)
        clear hR6 ho6 ht6 hx6
        have HO2 := Lib.hid (on_Dk (c := c4) HD5.out (R4.out.ext (show Ext w w5 from HE5.out)) HFit.out z4 (fun h0 a ha => .inl (.inl (by have h5 := R4.out.lt h0 a ha; have h6 := HEB.out.size; show a.block < wb.heap.size; omega))))
        rw [H2.out] at HO2
        go_wp2_with fail
        refine HO2.out.mono ?_
        rintro e w6 ⟨rfl, hD6, hB6⟩
        have HD6 := Lib.hid hD6
        have HB6 := Lib.hid hB6
        have HE6 := Lib.hid (show Ext w w6 from (hB6.less (fun b hb => .inl (.inl hb))).below HE5.out (fun i hi => Nat.lt_of_lt_of_le hi HEB.out.size))
        clear hD6 hB6 HO2
        go_wp2_with fail
        have hk5 := rows_keep (n := n5) HO5.out HT5.out (by rw [HN5.out, ← HR5.out, List.length_map]) HX6.out HB6.out (fun b h1 h2 => .inl (.inr ⟨h1, h2⟩))
        have hk6 := rows_keep (n := n5) HO6.out HT6.out (by rw [HN5.out, ← HR6.out, List.length_map]) (Ext.refl _) HB6.out (fun b h1 h2 => .inr ⟨h1, h2⟩)
        have HK5 := Lib.hid hk5
        have HK6 := Lib.hid hk6
        have hn4 : n5 ≤ 400 := by rw [HN5.out]; unfold filesC; rw [List.length_map]; exact HD6.out.sure.few
        clear hk5 hk6
        refine (files_Dk HD6.out HFit.out).mono ?_
        rintro e w7 ⟨A7, c7, R7, rfl, hR7, ho7, ht7, hx7⟩
        rw [← HN5.out]
        have HD7 := Lib.hid (HD6.out.ext hx7)
        have HE7 := Lib.hid (HE6.out.trans hx7)
        have CA := ralike_any (n := n5) (m := n5) (c := c7) (d := c5) (ho7.rd' (by rw [HN5.out, ← hR7, List.length_map])) (HK5.out.1.ext hx7) (fun r hr => ⟨(ht7.own r.2 (List.mem_map.2 ⟨r, hr, rfl⟩)).rd, body_le HFit.out hR7 r hr⟩) (fun r hr => ⟨(HK5.out.2 r hr).ext hx7, body_le HFit.out HR5.out r hr⟩) (by omega)
        rw [show decide (flL R7 = flL R5) = true from decide_eq_true (hR7.trans HR5.out.symm)] at CA
        have CA := Lib.hid CA
        have HX7 := Lib.hid hx7
        clear hR7 ho7 ht7 hx7
        go_wp2_with fail
        refine CA.out.mono ?_
        rintro e w8 ⟨rfl, hx8⟩
        have hx68 := HX7.out.trans hx8
        have CB := ralike_any (n := n5) (m := n5) (c := c6) (d := c5) (HK6.out.1.ext hx68) (HK5.out.1.ext hx68) (fun r hr => ⟨(HK6.out.2 r hr).ext hx68, body_le HFit.out HR6.out r hr⟩) (fun r hr => ⟨(HK5.out.2 r hr).ext hx68, body_le HFit.out HR5.out r hr⟩) (by omega)
        rw [show decide (flL R6 = flL R5) = true from decide_eq_true (HR6.out.trans HR5.out.symm)] at CB
        have CB := Lib.hid CB
        have HD8 := Lib.hid (HD7.out.ext hx8)
        have HE8 := Lib.hid (HE7.out.trans hx8)
        clear hx8 hx68 CA
        go_wp2_with fail
        refine CB.out.mono ?_
        rintro e w9 ⟨rfl, hx9⟩
        have HD9 := Lib.hid (HD8.out.ext hx9)
        have HE9 := Lib.hid (HE8.out.trans hx9)
        clear hx9 CB
        go_wp2_with fail
        refine (steps_Dk HD9.out).mono ?_
        rintro e wx ⟨rfl, rfl⟩
        have CLo := loose_Dk HD9.out
        rw [Hch.out] at CLo
        have CPo := power_Dk HD9.out
        rw [Hon.out] at CPo
        have CLo := Lib.hid CLo
        have CPo := Lib.hid CPo
        go_wp2_with fail
        refine CLo.out.mono ?_
        rintro e wx ⟨rfl, rfl⟩
        go_wp2_with fail
        refine CPo.out.mono ?_
        rintro e wx ⟨rfl, rfl⟩
        go_wp2_with fail
        go_ret
        exact ⟨rfl, HE9.out⟩
  · have CL := rload_any 16777216 (by decide) (by decide) (c := c1) (R1.out.ext (HEB.out.trans hx0)) (fun r hr => ⟨(B1.out r hr).1, (B1.out r hr).2.1.ext (HEB.out.trans hx0), (B1.out r hr).2.2⟩) (by omega)
    rw [← HF.out] at CL
    have CL := CL.mono (fun e w' q => rload_err hlaid hFj hbad q)
    obtain ⟨E, hE⟩ : ∃ E, E = refC (ldS (newS 16777216) F ids j) x.1 := ⟨_, rfl⟩
    rw [← hE] at CL hbad
    have CL := Lib.hid CL
    have HE0 := Lib.hid (HEB.out.trans hx0)
    have e1 : (E == 0) = false := by simpa using hbad
    rw [← hE]
    clear hlaid hx0 hFj hj hE HL
    go_wp2_with fail
    refine CL.out.mono ?_
    rintro e w2 ⟨rfl, hx2⟩
    have HX2 := Lib.hid (HE0.out.trans hx2)
    have HN := Lib.hid (heap_alloc_new w2 (.cells #[.slice none 0 0, .slice none 0 0, .slice none 0 0, .int .i64 0, .slice none 0 0, .int .i64 0, .bool false] 59))
    clear hx2 CL
    go_wp2_with (first
      | (refine wpList_store_row rfl 59 _ _ rfl w2.heap.size #[.slice none 0 0, .slice none 0 0, .slice none 0 0, .int .i64 0, .slice none 0 0, .int .i64 0, .bool false] rfl rfl 59 _ HN.out (by kernel_rfl) rfl (by simp [Value.oneCell']) ?_)
      | fail)
    go_ret
    exact ⟨rfl, (HX2.out.alloc _).setRow HX2.out.size _⟩

end Go.Proofs.Ytjckfbpdnpehcaa

/-
  Layer 14: the document's disk and the disk's state, side by side.
-/
namespace Go.Proofs.Ytjckfbpdnpehcaa
open Go.RowKit Go.Maps Go.WideMaps
set_option maxRecDepth 100000

/-- The same disk, said twice. -/
structure Sim (S : DS) (d : List (List UInt8 × Int)) (M : List (List Nat × Int)) (ids : Nat → Nat) : Prop where
  files : S.files = d.map fun e => (e.1, ids e.2.toNat)
  safe : S.safe = S.files
  nat : ∀ e ∈ d, ∃ k : Nat, e.2 = (k : Int) ∧ k < M.length
  file : ∀ k, k < M.length → fileD S (ids k) = ⟨(M.getD k ([], 0)).1, (M.getD k ([], 0)).2.toNat⟩ ∧ ∃ f, (ids k, f) ∈ S.fl
  inj : ∀ i k, i < M.length → k < M.length → ids i = ids k → i = k
section
variable {S : DS} {d : List (List UInt8 × Int)} {M : List (List Nat × Int)} {ids : Nat → Nat}
theorem Sim.filesC (h : Sim S d M ids) : Go.Proofs.Ytjckfbpdnpehcaa.filesC S = filesE M d := by
  unfold Go.Proofs.Ytjckfbpdnpehcaa.filesC filesE
  rw [h.files, List.map_map]
  refine List.map_congr_left fun e he => ?_
  obtain ⟨k, hk, hl⟩ := h.nat e he
  simp only [Function.comp_apply, hk, Int.toNat_natCast, (h.file k hl).1]
theorem Sim.safeC (h : Sim S d M ids) : Go.Proofs.Ytjckfbpdnpehcaa.safeC S = safeE M d := by
  unfold Go.Proofs.Ytjckfbpdnpehcaa.safeC safeE
  rw [h.safe, h.files, List.map_map]
  refine List.map_congr_left fun e he => ?_
  obtain ⟨k, hk, hl⟩ := h.nat e he
  simp only [Function.comp_apply, hk, Int.toNat_natCast, (h.file k hl).1]
theorem find_map (x : List UInt8) (f : Int → Nat) : ∀ d : List (List UInt8 × Int), (d.map fun e => (e.1, f e.2)).find? (fun e => decide (e.1 = x)) = (d.find? fun e => decide (e.1 = x)).map fun e => (e.1, f e.2)
  | [] => rfl
  | a :: r => by
    rw [List.map_cons, List.find?_cons, List.find?_cons, find_map x f r]
    by_cases h : a.1 = x
    · simp [h]
    · simp [h]
theorem Sim.lkp_none (h : Sim S d M ids) {x : List UInt8} (hx : findE x d < 0) : lkp S.files x = none := by
  unfold lkp
  rw [h.files, find_map x (fun z => ids z.toNat)]
  unfold findE at hx
  cases hf : d.find? (fun e => decide (e.1 = x)) with
  | none => rfl
  | some e =>
    rw [hf] at hx
    obtain ⟨k, hk, _⟩ := h.nat e (List.mem_of_find?_eq_some hf)
    simp only [hk] at hx
    omega
theorem Sim.lkp_some (h : Sim S d M ids) {x : List UInt8} {k : Nat} (hx : findE x d = (k : Int)) : lkp S.files x = some (ids k) ∧ k < M.length := by
  unfold lkp
  rw [h.files, find_map x (fun z => ids z.toNat)]
  unfold findE at hx
  cases hf : d.find? (fun e => decide (e.1 = x)) with
  | none => rw [hf] at hx; simp only at hx; omega
  | some e =>
    rw [hf] at hx
    simp only at hx
    obtain ⟨k', hk, hl⟩ := h.nat e (List.mem_of_find?_eq_some hf)
    have : k' = k := by omega
    subst this
    exact ⟨by simp [hx], hl⟩
theorem lenF_fileD (S : DS) (q : Nat) : lenF S q = (fileD S q).data.length := by
  unfold lenF fileD
  cases S.fl.find? (fun e => decide (e.1 = q)) <;> rfl
theorem Sim.used (h : Sim S d M ids) : usedD S = usedE M d := by
  unfold usedD usedE
  rw [h.files, List.map_map]
  refine congrArg List.sum (List.map_congr_left fun e he => ?_)
  obtain ⟨k, hk, hl⟩ := h.nat e he
  simp only [Function.comp_apply, hk, Int.toNat_natCast, lenF_fileD, (h.file k hl).1]
theorem find_setF (l : List (Nat × FS)) (q : Nat) (g : FS → FS) (p : Nat) : (setF l q g).find? (fun e => decide (e.1 = p)) = (l.find? fun e => decide (e.1 = p)).map fun e => if e.1 = q then (e.1, g e.2) else e := by
  unfold setF
  induction l with
  | nil => rfl
  | cons a r ih =>
    rw [List.map_cons, List.find?_cons, List.find?_cons]
    have e1 : (if a.1 = q then (a.1, g a.2) else a).1 = a.1 := by split <;> rfl
    rw [e1, ih]
    by_cases h : a.1 = p
    · simp [h]
    · simp [h]
theorem fileD_setF {S : DS} {q p : Nat} {g : FS → FS} (hp : ∃ f, (p, f) ∈ S.fl) : fileD { S with fl := setF S.fl q g } p = if p = q then g (fileD S p) else fileD S p := by
  unfold fileD
  simp only [find_setF]
  cases hf : S.fl.find? (fun e => decide (e.1 = p)) with
  | none =>
    obtain ⟨f, hf2⟩ := hp
    have q2 := List.find?_eq_none.1 hf _ hf2
    simp at q2
  | some e =>
    have he : e.1 = p := by simpa using List.find?_some hf
    simp only [Option.map_some, Option.getD_some, he]
    split <;> rfl
theorem Sim.same {S' : DS} (h : Sim S d M ids) (h1 : S'.files = S.files) (h2 : S'.safe = S.safe) (h3 : S'.fl = S.fl) : Sim S' d M ids :=
  ⟨h1.trans h.files, by rw [h1, h2]; exact h.safe, h.nat, fun k hk => by
    have e : fileD S' (ids k) = fileD S (ids k) := by unfold fileD; rw [h3]
    rw [e, h3]; exact h.file k hk, h.inj⟩
/-- An append on both sides. -/
theorem Sim.append {room : Int} (h : Sim S d M ids) (hr : S.room = room) (x : List UInt8) (ys : List Nat) : (doAppend x ys S).1 = (doE x ys room M d).1 ∧ Sim (doAppend x ys S).2 d (doE x ys room M d).2 ids := by
  subst hr
  unfold doE
  by_cases hx : findE x d < 0
  · rw [if_pos hx]
    unfold doAppend
    rw [h.lkp_none hx]
    exact ⟨rfl, h⟩
  · rw [if_neg hx]
    obtain ⟨k, hk⟩ := Int.eq_ofNat_of_zero_le (show 0 ≤ findE x d by omega)
    obtain ⟨hl, hkl⟩ := h.lkp_some hk
    unfold doAppend
    rw [hl, h.used, hk, Int.toNat_natCast]
    simp only
    split
    · exact ⟨rfl, h⟩
    · refine ⟨rfl, ⟨h.files, h.safe, fun e he => ?_, fun j hj => ?_, fun i j hi hj => ?_⟩⟩
      · obtain ⟨j, h1, h2⟩ := h.nat e he
        exact ⟨j, h1, by rw [List.length_set]; exact h2⟩
      · rw [List.length_set] at hj
        obtain ⟨h1, h2⟩ := h.file j hj
        refine ⟨?_, (show ∃ f, (ids j, f) ∈ setF S.fl (ids k) (fun f => (⟨f.data ++ ys, f.safe⟩ : FS)) from has_setF h2)⟩
        rw [fileD_setF h2, h1]
        by_cases hjk : j = k
        · subst hjk
          rw [if_pos rfl]
          simp [List.getD_eq_getElem?_getD, hj]
        · rw [if_neg (fun q => hjk (h.inj j k hj hkl q))]
          have hkj : ¬ k = j := fun q => hjk q.symm
          simp [List.getD_eq_getElem?_getD, hkj]
      · rw [List.length_set] at hi hj
        exact h.inj i j hi hj
end

theorem dirF_nat (F : List (List UInt8 × List Nat)) : ∀ j, ∀ e ∈ dirF F j, ∃ k : Nat, e.2 = (k : Int) ∧ k < j
  | 0, e, he => by cases he
  | j + 1, e, he => by
    unfold dirF at he
    split at he
    · rcases withL_mem e he with h | h
      · exact ⟨j, by rw [h], Nat.lt_succ_self j⟩
      · obtain ⟨k, h1, h2⟩ := dirF_nat F j e h
        exact ⟨k, h1, Nat.lt_succ_of_lt h2⟩
    · obtain ⟨k, h1, h2⟩ := dirF_nat F j e he
      exact ⟨k, h1, Nat.lt_succ_of_lt h2⟩
theorem map_filter_id {f : Int → Nat} (p : List UInt8 → Bool) (d : List (List UInt8 × Int)) : (d.map fun e => (e.1, f e.2)).filter (fun e => p e.1) = (d.filter fun e => p e.1).map fun e => (e.1, f e.2) := by
  induction d with
  | nil => rfl
  | cons a t ih =>
    by_cases h : p a.1
    · rw [List.map_cons, List.filter_cons_of_pos (by exact h), List.filter_cons_of_pos (by exact h), List.map_cons, ih]
    · rw [List.map_cons, List.filter_cons_of_neg (by exact h), List.filter_cons_of_neg (by exact h), ih]
theorem files_ld {F : List (List UInt8 × List Nat)} {ids : Nat → Nat} {room : Int} : ∀ j, j ≤ F.length → (∀ i e, i < j → F[i]? = some e → refC (ldS (newS room) F ids i) e.1 = 0) → (ldS (newS room) F ids j).files = (dirF F j).map fun e => (e.1, ids e.2.toNat)
  | 0, _, _ => rfl
  | j + 1, hj, h => by
    have ih := files_ld j (by omega) (fun i e hi => h i e (by omega))
    obtain ⟨h1, h2⟩ := names_ld (ids := ids) (room := room) (F := F) j (by omega) (fun i e hi => h i e (by omega))
    have hx : F[j]? = some F[j] := List.getElem?_eq_getElem (by omega)
    have hr := h j _ (by omega) hx
    obtain ⟨_, hl, _⟩ := refC_ok hr
    have hd : dirF F (j + 1) = withL F[j].1 (j : Int) (dirF F j) := by
      show (match F[j]? with | some e => withL e.1 (j : Int) (dirF F j) | none => dirF F j) = _
      rw [hx]
    have hs : ldS (newS room) F ids (j + 1) = ldStep F[j] (ids j) (ldS (newS room) F ids j) := by
      show (match F[j]? with | some e => ldStep e (ids j) (ldS (newS room) F ids j) | none => ldS (newS room) F ids j) = _
      rw [hx]
    rw [hd, hs]
    have hn : F[j].1 ∉ (dirF F j).map (·.1) := fun q => by
      rw [h1] at q
      have := lkp_iff.2 q
      rw [hl] at this
      cases this
    have hasc : (dirF F j).Pairwise (fun a b => a.1 < b.1) := by
      have q : ((ldS (newS room) F ids j).files.map (·.1)).Pairwise (· < ·) := List.pairwise_map.2 h2
      rw [← h1] at q
      exact List.pairwise_map.1 q
    rw [withL_asc hasc (fun e he hx => hn (List.mem_map.2 ⟨e, he, hx⟩))]
    show putD (ldS (newS room) F ids j).files F[j].1 (ids j) = _
    unfold putD
    rw [ih, map_filter_id (f := fun z => ids z.toNat) (fun z => decide (z < F[j].1)), map_filter_id (f := fun z => ids z.toNat) (fun z => decide (F[j].1 < z)), List.map_append, List.map_cons, Int.toNat_natCast]
theorem ldS_mem {F : List (List UInt8 × List Nat)} {ids : Nat → Nat} {room : Int} : ∀ j, ∀ k e, k < j → F[k]? = some e → (ids k, (⟨e.2, e.2.length⟩ : FS)) ∈ (ldS (newS room) F ids j).fl
  | 0, k, e, hk, _ => by omega
  | j + 1, k, e, hk, he => by
    have ih := ldS_mem (ids := ids) (room := room) (F := F) j k e
    show _ ∈ (match F[j]? with | some e => ldStep e (ids j) (ldS (newS room) F ids j) | none => ldS (newS room) F ids j).fl
    by_cases hkj : k = j
    · subst hkj
      rw [he]
      exact List.mem_append.2 (.inr (List.mem_singleton.2 rfl))
    · have q := ih (by omega) he
      cases hx : F[j]? with
      | none => exact q
      | some a => exact List.mem_append.2 (.inl q)
theorem Sim.loaded {F : List (List UInt8 × List Nat)} {ids : Nat → Nat} {room : Int} (hL : Laid (newS room) F ids F.length) (hnd : (ldS (newS room) F ids F.length).fl.Pairwise fun (a b : Nat × FS) => a.1 ≠ b.1) :
    Sim { ldS (newS room) F ids F.length with safe := (ldS (newS room) F ids F.length).files, chs := [] } (dirF F F.length) (F.map fun x => (x.2, (x.2.length : Int))) ids := by
  refine ⟨files_ld F.length (Nat.le_refl _) (fun i e hi he => hL.ok i e hi he), rfl, fun e he => ?_, fun k hk => ?_, fun i k hi hk h => ?_⟩
  · obtain ⟨k, h1, h2⟩ := dirF_nat F F.length e he
    exact ⟨k, h1, by rw [List.length_map]; exact h2⟩
  · rw [List.length_map] at hk
    have hx : F[k]? = some F[k] := List.getElem?_eq_getElem hk
    have hm := ldS_mem (ids := ids) (room := room) F.length k _ hk hx
    refine ⟨?_, _, hm⟩
    rw [fileD_mem (S := { ldS (newS room) F ids F.length with safe := (ldS (newS room) F ids F.length).files, chs := [] }) hnd hm]
    simp [List.getD_eq_getElem?_getD, hx]
  · rw [List.length_map] at hi hk
    rcases Nat.lt_trichotomy i k with q | q | q
    · exact absurd (h ▸ ldS_mem (ids := ids) (room := room) k i _ q (List.getElem?_eq_getElem hi)) (hL.new k _ hk)
    · exact q
    · exact absurd (h ▸ ldS_mem (ids := ids) (room := room) i k _ q (List.getElem?_eq_getElem hk)) (hL.new i _ hi)

end Go.Proofs.Ytjckfbpdnpehcaa

/-
  Layer 14: DiskMemory, walked.
-/
namespace Go.Proofs.Ytjckfbpdnpehcaa
open Go.RowKit Go.Maps Go.WideMaps
set_option maxRecDepth 100000

theorem DkR.keep {w w' : World} {P : Nat → Prop} {dp : Nat} {S : DS} (h : DkR w P dp S) (hs : w.heap.size ≤ w'.heap.size) (hb : ∀ b, b < w.heap.size → ¬ P b → w'.heap[b]? = w.heap[b]?) : DkR w' (fun b => P b ∨ (w.heap.size ≤ b ∧ b < w'.heap.size)) dp S := by
  obtain ⟨lo, X, I, h1, h2, h3⟩ := h
  refine ⟨lo, X, I, h1.kept (fun _ hb => hb) (fun b hx => ⟨(h1.bd b hx).1, Nat.lt_of_lt_of_le (h1.bd b hx).2 hs⟩) (fun b hx => hb b (h1.bd b hx).2 (fun q => (h3 b q).2 hx)), h2, fun b q => ?_⟩
  rcases q with q | q
  · exact ⟨Nat.lt_of_lt_of_le (h3 b q).1 hs, (h3 b q).2⟩
  · exact ⟨q.2, fun hx => by have := (h1.bd b hx).2; omega⟩
/-- A world's next, but for blocks between lo and hi. -/
structure Mid (lo hi : Nat) (w w' : World) : Prop where
  os : w'.os = w.os
  tape : w'.tape = w.tape
  output : w'.output = w.output
  size : w.heap.size ≤ w'.heap.size
  block : ∀ b, b < w.heap.size → (b < lo ∨ hi ≤ b) → w'.heap[b]? = w.heap[b]?
theorem Mid.refl (lo hi : Nat) (w : World) : Mid lo hi w w := ⟨rfl, rfl, rfl, Nat.le_refl _, fun _ _ _ => rfl⟩
theorem Mid.grown {lo hi : Nat} {w wr w' : World} {row : Option Nat} (h : Mid lo hi w wr) (hg : wr.grownBy w' row) (hr : ∀ g, row = some g → lo ≤ g ∧ g < hi) : Mid lo hi w w' :=
  ⟨hg.os.trans h.os, hg.tape.trans h.tape, hg.output.trans h.output, Nat.le_trans h.size hg.size, fun b hb hx => (hg.block b (Nat.lt_of_lt_of_le hb h.size) (fun e => by have := hr b e.symm; omega)).trans (h.block b hb hx)⟩
theorem Mid.ext {lo hi : Nat} {w0 w w' : World} (h : Mid lo hi w w') (he : Ext w0 w) (hl : w0.heap.size ≤ lo) : Ext w0 w' :=
  ⟨h.os.trans he.os, h.tape.trans he.tape, h.output.trans he.output, Nat.le_trans he.size h.size, fun b hb => (h.block b (Nat.lt_of_lt_of_le hb he.size) (.inl (Nat.lt_of_lt_of_le hb hl))).trans (he.block b hb)⟩
theorem refE_good {F : List (List UInt8 × List Nat)} {ids : Nat → Nat} {room : Int} (hL : Laid (newS room) F ids F.length) : ∀ i x, i < F.length → F[i]? = some x → refE x.1 (dirF F i) = 0 := fun i x hi hx =>
  (refE_ld (Nat.le_of_lt hi) (hL.less (Nat.le_of_lt hi)) x.1).trans (hL.ok i x hi hx)
theorem RLoadPost.good {room : Int} {F : List (List UInt8 × List Nat)} {w w' : World} {e : Ending} (hg : ∀ i x, i < F.length → F[i]? = some x → refE x.1 (dirF F i) = 0) (h : RLoadPost room F w e w') :
    ∃ Ab cb Ad cd bs, e = .returned (.tuple #[.agg #[.slice Ab F.length cb, .slice Ad F.length cd, .slice none 0 0, .int .i64 room, .slice none 0 0, .int .i64 0, .bool false], .int .i64 0]) ∧ OwnG shBd 77 w' w.heap.size Ab cb bs ∧ BdO w' w.heap.size bs ∧ bdM bs = F.map (fun x => (x.2, (x.2.length : Int))) ∧ OwnG shE 114 w' w.heap.size Ad cd (dirF F F.length) ∧ Ext w w' ∧ (dirF F F.length).length = F.length ∧ F.length ≤ 400 := by
  have hl := dirF_len (F := F) F.length (Nat.le_refl _) (fun i x hi hx => hg i x hi hx)
  rcases h with ⟨Ab, cb, Ad, cd, bs, h1, _, h3, h4, h5, h6, h7⟩ | ⟨j, x, h1, _, h3, _⟩
  · exact ⟨Ab, cb, Ad, cd, bs, h1, h3, h4, h5, h6, h7, hl⟩
  · exact absurd (hg j x (List.getElem?_eq_some_iff.1 h1).1 h1) h3

theorem onD_nat : ∀ (j : Nat) (d : List (List UInt8 × Int)), ∀ e ∈ onD j d, ∃ k : Nat, e.2 = (k : Int) ∧ k < j + d.length
  | _, [], e, he => by cases he
  | j, a :: r, e, he => by
    rw [onD] at he
    rcases List.mem_cons.1 he with rfl | he
    · exact ⟨j, rfl, by rw [List.length_cons]; omega⟩
    · obtain ⟨k, h1, h2⟩ := onD_nat (j + 1) r e he
      exact ⟨k, h1, by rw [List.length_cons]; omega⟩

theorem getD_ok {M : List (List Nat × Int)} {m : Nat} (h : ∀ p ∈ M, p.1.length ≤ m ∧ U8 p.1) (k : Nat) : (M.getD k ([], 0)).1.length ≤ m ∧ U8 (M.getD k ([], 0)).1 := by
  rw [List.getD_eq_getElem?_getD]
  cases hk : M[k]? with
  | none => exact ⟨Nat.zero_le _, fun v hv => by cases hv⟩
  | some p => exact h p (List.mem_of_getElem? hk)
theorem filesE_ok {M : List (List Nat × Int)} {d : List (List UInt8 × Int)} {m : Nat} (h : ∀ p ∈ M, p.1.length ≤ m ∧ U8 p.1) : ∀ y ∈ filesE M d, y.2.length ≤ m ∧ U8 y.2 := by
  intro y hy
  obtain ⟨e, _, rfl⟩ := List.mem_map.1 hy
  exact getD_ok h _
theorem safeE_ok {M : List (List Nat × Int)} {d : List (List UInt8 × Int)} {m : Nat} (h : ∀ p ∈ M, p.1.length ≤ m ∧ U8 p.1) : ∀ y ∈ safeE M d, y.2.length ≤ m ∧ U8 y.2 := by
  intro y hy
  obtain ⟨e, _, rfl⟩ := List.mem_map.1 hy
  obtain ⟨h1, h2⟩ := getD_ok h e.2.toNat
  exact ⟨by simp only [List.length_take]; omega, fun v hv => h2 v (List.mem_of_mem_take hv)⟩

set_option maxHeartbeats 51200000 in
theorem walk_DiskMemory (A1 : Option Addr) (n1 c1 : Nat) (R : List (List UInt8 × Sl)) (x : List UInt8) (A2 : Option Addr) (n2 c2 : Nat) (bb : List Nat) (w : World)
    (r1 : RdG shF w A1 n1 R) (b1 : ∀ r ∈ R, r.1.length ≤ 140737488355328 ∧ Rd .u8 w r.2.A r.2.body.length r.2.body ∧ U8 r.2.body ∧ r.2.body.length ≤ 140737488355328) (z1 : n1 ≤ 3518437208883) (hx9 : x.length ≤ 140737488355328) (r2 : Rd .u8 w A2 n2 bb) (u2 : ∀ v ∈ bb, v < 256) (z2 : n2 * 1 ≤ 140737488351232) :
    Calls Try.prog 6 #[.slice A1 n1 c1, nm x, .slice A2 n2 c2] w fun e w' => e = .returned (.bool true) ∧ Ext w w' := by
  have R1 := Lib.hid r1
  have B1 := Lib.hid b1
  have R2 := Lib.hid r2
  have U2 : Hid (U8 bb) := Lib.hid (fun v hv => u2 v hv)
  have Hbl : Hid (bb.length = n2) := Lib.hid r2.len
  obtain ⟨F, hF⟩ : ∃ F, F = R.map fun r => (r.1, r.2.body) := ⟨_, rfl⟩
  have hFl : F.length = n1 := by rw [hF, List.length_map]; exact r1.len
  have HF := Lib.hid hF
  have HFl := Lib.hid hFl
  have HXN := Lib.hid hx9
  clear r1 b1 hF hFl r2 u2 hx9
  go_enter Try.func6, Try.ntmps6
  go_wp2_with fail
  refine (alive14 _).mono ?_
  rintro e wa ⟨rfl, hea⟩
  have HEA := Lib.hid hea
  clear hea
  have CT := rtwinF_any (c := c1) (R1.out.ext HEA.out) (fun r hr => ⟨(B1.out r hr).2.1.ext HEA.out, (B1.out r hr).2.2.2⟩) z1
  rw [← HF.out] at CT
  have CT := Lib.hid CT
  go_wp2_with fail
  refine CT.out.mono ?_
  rintro e wb ⟨Ab, cb, Rb, rfl, hRb, hob, htb, hxb⟩
  have hbl : F.length = n1 := HFl.out
  rw [hbl]
  have HRb : Hid (Rb.length = n1) := Lib.hid (by rw [← HFl.out, ← hRb, List.length_map])
  have HUb : Hid (∀ r ∈ Rb, r.1.length ≤ 140737488355328 ∧ U8 r.2.body ∧ r.2.body.length ≤ 140737488355328) := Lib.hid (fun r hr => by
    have hm : (r.1, r.2.body) ∈ F := by rw [← hRb]; exact List.mem_map.2 ⟨r, hr, rfl⟩
    rw [HF.out] at hm
    obtain ⟨r0, hr0, h0⟩ := List.mem_map.1 hm
    obtain ⟨k1, k2, k3, k4⟩ := B1.out r0 hr0
    injection h0 with e1 e2
    exact ⟨by rw [← e1]; exact k1, by rw [← e2]; exact k3, by rw [← e2]; exact k4⟩)
  have HOb := Lib.hid hob
  have HTb := Lib.hid htb
  have HXb := Lib.hid hxb
  have HEB := Lib.hid (show Ext w wb from HEA.out.trans hxb)
  have CL : Hid (∀ W, Ext wb W → Calls Try.prog 22 #[.int .i64 16777216, .slice Ab n1 cb] W (LoadPost 16777216 F W)) := Lib.hid (fun W hW => by
    have q := load_any 16777216 (c := cb) ((HOb.out.rd' HRb.out).ext hW) (fun r hr => ⟨(HUb.out r hr).1, ((HTb.out.own r.2 (List.mem_map.2 ⟨r, hr, rfl⟩)).rd.ext hW), (HUb.out r hr).2⟩) (by omega)
    rw [hRb] at q
    exact q)
  have HFb : Hid (∀ y ∈ F, y.2.length ≤ 140737488355328 ∧ U8 y.2) := Lib.hid (fun y hy => by
    rw [HF.out] at hy
    obtain ⟨r0, hr0, rfl⟩ := List.mem_map.1 hy
    exact ⟨(B1.out r0 hr0).2.2.2, (B1.out r0 hr0).2.2.1⟩)
  have CR : Hid (∀ W, Ext w W → Calls Try.prog 26 #[.int .i64 16777216, .slice A1 n1 c1] W (RLoadPost 16777216 F W)) := Lib.hid (fun W hW => by
    have q := rload_any 16777216 (by decide) (by decide) (c := c1) (R1.out.ext hW) (fun r hr => ⟨(B1.out r hr).1, (B1.out r hr).2.1.ext hW, (B1.out r hr).2.2⟩) (by omega)
    rw [← HF.out] at q
    exact q)
  clear hRb hob htb hxb hbl CT
  go_wp2_with fail
  refine (CL.out _ (Ext.refl _)).mono ?_
  rintro e w0 hpost
  rcases hpost with ⟨dp, ids, rfl, hlaid, h0, hx0⟩ | ⟨ids, j, y, hj, rfl, hFj, hlaid, hbad, hx0⟩
  · have HG := Lib.hid (refE_good hlaid)
    have HS0 := Lib.hid (Sim.loaded hlaid h0.nd)
    have HI0 := Lib.hid (SI.loaded (ids := ids) (j := F.length) (fun y hy => (HFb.out y hy).1))
    obtain ⟨S, hS⟩ : ∃ S, S = { ldS (newS 16777216) F ids F.length with safe := (ldS (newS 16777216) F ids F.length).files, chs := [] } := ⟨_, rfl⟩
    rw [← hS] at h0 HS0 HI0
    have H0 := Lib.hid h0
    have HX0 := Lib.hid hx0
    have HE0 := Lib.hid (show Ext w w0 from HEB.out.trans hx0)
    clear hlaid h0 hx0 hS
    go_wp2_with fail
    refine (CL.out _ HX0.out).mono ?_
    rintro e w1 hpost
    rcases hpost with ⟨dp2, ids2, rfl, hlaid, h1, hx1⟩ | ⟨ids2, j, y, hj, rfl, hFj, hlaid, hbad, hx1⟩
    rotate_left
    · exfalso
      have q := HG.out j y hj hFj
      rw [refE_ld (Nat.le_of_lt hj) hlaid y.1] at q
      exact hbad q
    have HT0 := Lib.hid (Sim.loaded hlaid h1.nd)
    have HJ0 := Lib.hid (SI.loaded (ids := ids2) (j := F.length) (fun y hy => (HFb.out y hy).1))
    obtain ⟨T, hT⟩ : ∃ S, S = { ldS (newS 16777216) F ids2 F.length with safe := (ldS (newS 16777216) F ids2 F.length).files, chs := [] } := ⟨_, rfl⟩
    rw [← hT] at h1 HT0 HJ0
    have H1 := Lib.hid h1
    have D1 := Lib.hid (H0.out.more hx1)
    have HX1 := Lib.hid hx1
    have HE1 := Lib.hid (show Ext w w1 from HE0.out.trans hx1)
    clear hlaid h1 hx1 hT
    go_wp2_with fail
    refine (CR.out _ HE1.out).mono ?_
    rintro e w2 hpost
    obtain ⟨Bm, cm, Dm, em, bs, rfl, hom, hbm, hM, hdm, hx2, hdl, hn4⟩ := hpost.good HG.out
    rw [HFl.out] at hn4
    rw [HFl.out]
    have HOm := Lib.hid hom
    have HBm := Lib.hid hbm
    have HM := Lib.hid hM
    have HDm := Lib.hid hdm
    have HX2 := Lib.hid hx2
    have HDl := Lib.hid (hdl.trans HFl.out)
    have HE2 := Lib.hid (show Ext w w2 from HE1.out.trans hx2)
    have HN := Lib.hid (heap_alloc_new w2 (.cells #[.slice none 0 0, .slice none 0 0, .slice none 0 0, .int .i64 0, .slice none 0 0, .int .i64 0, .bool false] 59))
    clear hom hbm hM hdm hx2 hdl hpost
    go_wp2_with (first
      | (refine wpList_store_row rfl 59 _ _ rfl w2.heap.size (rdC (.slice Bm n1 cm) (.slice Dm n1 em) 16777216 0) rfl rfl 59 _ HN.out (by kernel_rfl) rfl (by simp [rdC, Value.oneCell']) ?_)
      | fail)
    obtain ⟨w3, hw3⟩ : ∃ w3, w3 = (w2.alloc (.cells #[.slice none 0 0, .slice none 0 0, .slice none 0 0, .int .i64 0, .slice none 0 0, .int .i64 0, .bool false] 59)).setRow w2.heap.size (rdC (.slice Bm n1 cm) (.slice Dm n1 em) 16777216 0) := ⟨_, rfl⟩
    have HX3 : Hid (Ext w2 w3) := Lib.hid (by rw [hw3]; exact ((Ext.refl w2).alloc _).setRow (Nat.le_refl _) _)
    have HRm : Hid (RdAt w3 w2.heap.size (.slice Bm n1 cm) (.slice Dm n1 em) 16777216 0) := Lib.hid (.of (by rw [hw3]; exact setRow_heap _ _ _ _ 59 (0, 0) HN.out))
    have HE3 : Hid (Ext w w3) := Lib.hid (HE2.out.trans HX3.out)
    rw [← hw3]
    clear hw3 HN
    have HX13 : Hid (Ext w1 w3) := Lib.hid (HX2.out.trans HX3.out)
    have HX03 : Hid (Ext w0 w3) := Lib.hid (HX1.out.trans HX13.out)
    have HXb3 : Hid (Ext wb w3) := Lib.hid (HX0.out.trans HX03.out)
    -- the document's disk in any world that keeps its blocks
    have HMD : Hid (∀ W : World, (∀ b, w1.heap.size ≤ b → b < w3.heap.size → W.heap[b]? = w3.heap[b]?) → w3.heap.size ≤ W.heap.size → RdD W Bm n1 bs Dm n1 (dirF F F.length) ∧ RdAt W w2.heap.size (.slice Bm n1 cm) (.slice Dm n1 em) 16777216 0) := Lib.hid (fun W hb hs => by
      have s2 := HX2.out.size
      have s3 := HX3.out.size
      have e2 : ∀ b, w1.heap.size ≤ b → b < w2.heap.size → W.heap[b]? = w2.heap[b]? := fun b h1 h2 => (hb b h1 (by omega)).trans (HX3.out.block b h2)
      refine ⟨⟨(HOm.out.blk (fun a ha => e2 _ (HOm.out.block a ha).1 (HOm.out.block a ha).2)).rd' (by have q := congrArg List.length HM.out; unfold bdM at q; rw [List.length_map, List.length_map, HFl.out] at q; exact q), fun p hp => ⟨((HBm.out.own p hp).1.blk (fun a ha => e2 _ ((HBm.out.own p hp).1.block a ha).1 ((HBm.out.own p hp).1.block a ha).2)).rd, (HBm.out.own p hp).2.2⟩, (HDm.out.blk (fun a ha => e2 _ (HDm.out.block a ha).1 (HDm.out.block a ha).2)).rd' HDl.out, fun e he => by
        obtain ⟨k, h1, h2⟩ := dirF_nat F F.length e he
        exact ⟨k, h1, by rw [← HFl.out]; exact h2⟩⟩, .of ((hb _ s2 HRm.out.lt).trans HRm.out.row)⟩)
    have HBS : Hid (BdS bs) := Lib.hid (fun p hp => by
      refine ⟨(HBm.out.own p hp).2.1, ?_⟩
      have hm : (p.1.body, p.2) ∈ bdM bs := List.mem_map.2 ⟨p, hp, rfl⟩
      rw [HM.out] at hm
      obtain ⟨y, _, hy⟩ := List.mem_map.1 hm
      injection hy with h1 h2
      exact ⟨y.2.length, h2.symm, by rw [h1]; exact Nat.le_refl _⟩)
    have Hun : Hid (Unlike (Rb.map fun r => r.2)) := Lib.hid HTb.out.unlike
    have Hst0 : Hid (St2 w3 (Rb.map fun r => r.2) 0) := Lib.hid (fun j s hs => ⟨fun h => absurd h (Nat.not_lt_zero _), fun _ => ((HTb.out.own s (List.mem_of_getElem? hs)).ext HXb3.out).zero⟩)
    have Hob3 : Hid (OwnG shF 47 w3 wa.heap.size Ab cb Rb) := Lib.hid (HOb.out.ext HXb3.out)
    go_loopw [14, 73] (fun _ i wr => ∃ j : Nat, j ≤ n1 ∧ i = .int .i64 (j : Int) ∧ Hid (St2 wr (Rb.map fun r => r.2) j) ∧ Hid (OwnG shF 47 wr wa.heap.size Ab cb Rb) ∧ Hid (Mid wa.heap.size wb.heap.size w3 wr)) (fun _ i _ => n1 - (intOf i).toNat)
    case atStart => exact ⟨0, Nat.zero_le _, rfl, Hst0, Hob3, Lib.hid (Mid.refl _ _ _)⟩
    case round =>
      obtain ⟨j, hj, rfl, HSt, HO, HK⟩ := hrel
      by_cases hlt : j < n1
      · obtain ⟨b, o, r, hA, hbl, hx, hcx⟩ := (HO.out.rd' HRb.out).at_ hlt
        have q1 : wr.cell? ⟨b, o + j * 2 + 1, none⟩ = some (.slice r.2.A r.2.body.length r.2.c) := by simpa [shF, Sl.v] using hcx 1 _ rfl
        rw [hA]
        have hrm := List.mem_of_getElem? hx
        have hs : (Rb.map fun r => r.2)[j]? = some r.2 := by rw [List.getElem?_map, hx]; rfl
        have HSp := Lib.hid (spoil_any r.2.A r.2.body.length r.2.c 0 r.2.body wr ((HSt.out j r.2 hs).2 (Nat.le_refl _)) rfl (HUb.out r hrm).2.1 (by have := (HUb.out r hrm).2.2; omega))
        have Hs := Lib.hid hs
        have Hblk : Hid (∀ a, r.2.A = some a → wa.heap.size ≤ a.block ∧ a.block < wb.heap.size) := Lib.hid (fun a ha => (HTb.out.own r.2 (List.mem_map.2 ⟨r, hrm, rfl⟩)).block a ha)
        have Hty : Hid (∀ a, r.2.A = some a → ∃ cur, wr.heap[a.block]? = some (.cells cur 5 (0, 0))) := Lib.hid (fun a ha => ((HSt.out j r.2 hs).2 (Nat.le_refl _)).ty a ha)
        have Hlt := Lib.hid hlt
        have HAd := Lib.hid hA
        clear hA hbl hx hcx hlt hrm hs
        go_wp2_with fail
        refine HSp.out.mono ?_
        rintro e v1 ⟨rfl, ho, hg⟩
        have HSt1 := Lib.hid (HSt.out.step Hun.out Hs.out ho hg)
        have HO1 : Hid (OwnG shF 47 v1 wa.heap.size Ab cb Rb) := Lib.hid (HO.out.grown hg (fun a ha e => by
          obtain ⟨cur, h1⟩ := HO.out.ty a ha
          cases hA : r.2.A with
          | none => rw [hA] at e; simp at e
          | some p =>
            rw [hA] at e
            simp only [Option.map_some] at e
            obtain ⟨cur2, h2⟩ := Hty.out p hA
            exact ne_ty h1 h2 (by decide) (Option.some.inj e)))
        have HK1 := Lib.hid (HK.out.grown hg (fun g hg2 => by
          cases hA : r.2.A with
          | none => rw [hA] at hg2; simp at hg2
          | some p =>
            rw [hA] at hg2
            simp only [Option.map_some] at hg2
            have e := Option.some.inj hg2
            rw [← e]
            exact Hblk.out p hA))
        clear ho hg HSp
        go_wp2_with fail
        go_roundw
        case rel => exact ⟨j + 1, by have := Hlt.out; omega, by go_num, HSt1, by rw [← HAd.out]; exact HO1, HK1⟩
        case measure => simp [intOf]; have := Hlt.out; omega
      · obtain rfl : n1 = j := by omega
        clear hlt
        go_wp2_with fail
        have s0 := HX0.out.size
        have s1 := HX1.out.size
        have s3 := HX13.out.size
        have sr := HK.out.size
        have sb := HXb.out.size
        have HEr := Lib.hid (HK.out.ext HE3.out HEA.out.size)
        have HDr : Hid (DkR wr (fun b => (b < wb.heap.size ∨ w0.heap.size ≤ b) ∧ b < wr.heap.size) dp S) := Lib.hid (((D1.out.more HX13.out).keep sr (fun b hb hn => HK.out.block b hb (.inr (Nat.le_of_not_lt (fun q => hn (.inl (.inl q))))))).less (fun b hb => by
          rcases hb with ⟨hb | hb, h2⟩
          · exact .inl (.inl (.inl hb))
          · rcases Nat.lt_or_ge b w1.heap.size with q | q
            · exact .inl (.inl (.inr ⟨hb, q⟩))
            · rcases Nat.lt_or_ge b w3.heap.size with q2 | q2
              · exact .inl (.inr ⟨q, q2⟩)
              · exact .inr ⟨q2, h2⟩))
        have HOr : Hid (DkR wr (fun b => (b < w0.heap.size ∨ w1.heap.size ≤ b) ∧ b < wr.heap.size) dp2 T) := Lib.hid (((H1.out.more HX13.out).keep sr (fun b hb hn => HK.out.block b hb (.inr (by
          have q : ¬ b < w0.heap.size := fun q => hn (.inl q)
          omega)))).less (fun b hb => by
          rcases hb with ⟨hb | hb, h2⟩
          · exact .inl (.inl hb)
          · rcases Nat.lt_or_ge b w3.heap.size with q2 | q2
            · exact .inl (.inr ⟨hb, q2⟩)
            · exact .inr ⟨q2, h2⟩))
        refine (wide_any A2 n2 c2 bb wr (R2.out.ext HEr.out) (by omega)).mono ?_
        rintro e w4 ⟨A4, c4, rfl, ho4, hx4⟩
        have hr2 := ho4.rd_take (n := n2) (by rw [List.length_append, Hbl.out]; omega)
        rw [List.take_left' Hbl.out] at hr2
        have hri := ho4.rd' (n := n2 + 64) (by rw [List.length_append, Hbl.out]; rfl)
        obtain ⟨b4, rfl, hb4a, hb4, hcap, hcm⟩ := ho4.form (by rw [List.length_append, marks_len]; omega)
        rw [List.length_append, Hbl.out, marks_len] at hcap
        have HX4 := Lib.hid hx4
        have HO4 := Lib.hid ho4
        have HEr4 := Lib.hid (show Ext w w4 from HEr.out.trans hx4)
        have s4 := hx4.size
        have HD4 : Hid (DkR w4 (fun b => (b < wb.heap.size ∨ w0.heap.size ≤ b) ∧ b < w4.heap.size) dp S) := Lib.hid ((HDr.out.more hx4).less (fun b hb => by
          rcases Nat.lt_or_ge b wr.heap.size with q | q
          · exact .inl ⟨hb.1, q⟩
          · exact .inr ⟨q, hb.2⟩))
        have HA := Lib.hid (append_Dk (ys := bb) (c := c4) HD4.out (by have q := HI0.out.st; omega) x HXN.out HI0.out.fit (by omega) hr2 U2.out (fun _ a ha => by injection ha with ha; rw [← ha]; exact ⟨.inr (by show w0.heap.size ≤ b4; omega), hb4⟩))
        have Hri := Lib.hid hri
        have Hb4 : Hid (wr.heap.size ≤ b4 ∧ b4 < w4.heap.size) := Lib.hid ⟨hb4a, hb4⟩
        clear ho4 hx4 hr2 hri
        go_wp2_with fail
        refine HA.out.mono ?_
        rintro e w5 ⟨rr, S', kk, rfl, hD5, hE5, hk5, hP5⟩
        rw [fated_plain HI0.out.pl] at hE5
        have hE5 : (rr, S') = doAppend x bb { S with steps := S.steps + 1 } := hE5
        have hsim := Sim.append (room := 16777216) (HS0.out.same (S' := { S with steps := S.steps + 1 }) rfl rfl rfl) HI0.out.room x bb
        rw [← hE5] at hsim
        have HSim := Lib.hid hsim
        have HD5 := Lib.hid hD5
        have HP5 := Lib.hid hP5
        have HE5 := Lib.hid (show Ext w w5 from hP5.below HEr4.out (fun b hb => ⟨.inl (Nat.lt_of_lt_of_le hb HEB.out.size), Nat.lt_of_lt_of_le hb HEr4.out.size⟩))
        have HSI5 : Hid (SI (0 + 1) S') := Lib.hid (by
          have q := HI0.out.step H0.out.nd 2 x [] bb kk
          rw [fated_plain HI0.out.pl] at q
          rw [show stepF 2 x [] bb kk { S with steps := S.steps + 1 } = doAppend x bb { S with steps := S.steps + 1 } from rfl, ← hE5] at q
          exact q)
        have HFit5 : Hid (Fit S' 140737488355328) := Lib.hid HSI5.out.fit
        have HO5 : Hid (Own .u8 5 w5 wr.heap.size (some ⟨b4, 0, none⟩) c4 (bb ++ marks 64)) := Lib.hid (HO4.out.blk (fun a ha => by injection ha with ha; rw [← ha]; exact hP5.block _ ⟨.inr (by show w0.heap.size ≤ b4; omega), Hb4.out.2⟩))
        have HTo5 : Hid (DkR w5 (fun b => (b < w0.heap.size ∨ w1.heap.size ≤ b) ∧ b < w5.heap.size) dp2 T) := Lib.hid (((HOr.out.more HX4.out).keep hP5.size (fun b hb hn => hP5.block b ⟨.inr (Nat.le_of_not_lt (fun q => hn (.inl ⟨.inl q, by omega⟩))), hb⟩)).less (fun b hb => by
          rcases Nat.lt_or_ge b wr.heap.size with q | q
          · exact .inl (.inl ⟨hb.1, q⟩)
          · rcases Nat.lt_or_ge b w4.heap.size with q2 | q2
            · exact .inl (.inr ⟨q, q2⟩)
            · exact .inr ⟨q2, hb.2⟩))
        clear hD5 hE5 hP5 hsim HA hk5
        go_wp2_with fail
        refine (intact_yes (HO5.out.rd' (n := n2 + 64) (by rw [List.length_append, Hbl.out]; rfl)) (R2.out.ext HE5.out) (by omega) (by omega)).mono ?_
        rintro e w6 ⟨rfl, q6, hq6⟩
        have HX6 : Hid (Ext w5 w6) := Lib.hid (by rw [hq6]; exact (Ext.refl w5).drewN q6)
        clear hq6
        have HSp := Lib.hid (spoil_any (some ⟨b4, 0, none⟩) (n2 + 64) c4 wr.heap.size (bb ++ marks 64) w6 (HO5.out.ext HX6.out) (by rw [List.length_append, Hbl.out, marks_len]) (fun v hv => by
          rcases List.mem_append.1 hv with hv | hv
          · exact U2.out v hv
          · unfold marks at hv
            obtain ⟨i, _, rfl⟩ := List.mem_map.1 hv
            omega) (by omega))
        go_wp2_with fail
        refine HSp.out.mono ?_
        rintro e w7 ⟨rfl, _, hg7⟩
        have HG7 : Hid (w6.grownBy w7 (some b4)) := Lib.hid hg7
        have HE7 : Hid (Ext w w7) := Lib.hid (grownBy_ext (HE5.out.trans HX6.out) hg7 (fun g hg => by
          have e : b4 = g := Option.some.inj hg
          have := HEr.out.size
          have := Hb4.out.1
          omega))
        have s6 := HX6.out.size
        have s5 := HP5.out.size
        have s7 := hg7.size
        have HD7 := Lib.hid ((HD5.out.ext HX6.out).keep s7 (fun b hb hn => hg7.block b hb (fun e => hn (by have e2 : b = b4 := Option.some.inj e; subst e2; exact ⟨.inr (by have := Hb4.out.1; omega), Hb4.out.2⟩))))
        have HT7 := Lib.hid ((HTo5.out.ext HX6.out).keep s7 (fun b hb hn => hg7.block b hb (fun e => hn (by have e2 : b = b4 := Option.some.inj e; subst e2; exact ⟨.inr (by have := Hb4.out.1; omega), by have := Hb4.out.2; omega⟩))))
        obtain ⟨hrd7, hat7⟩ := HMD.out w7 (fun b h1 h2 => by
          have e1 : b ≠ b4 := by have := Hb4.out.1; omega
          exact ((((hg7.block b (by omega) (fun e => e1 (Option.some.inj e))).trans (HX6.out.block b (by omega))).trans (HP5.out.block b ⟨.inr (by omega), by omega⟩)).trans (HX4.out.block b (by omega))).trans (HK.out.block b h2 (.inr (by omega)))) (by omega)
        have HRd7 := Lib.hid hrd7
        have HAt7 := Lib.hid hat7
        have HDo := Lib.hid (rDo_any hrd7 HBS.out cm em 16777216 0 (by decide) (by decide) x A2 n2 c2 bb (R2.out.ext HE7.out) U2.out (by omega) (by omega) (by omega))
        clear hg7 hrd7 hat7 HSp
        go_wp2_with (first
          | (refine wpList_load_row rfl 59 _ rfl w2.heap.size rfl 59 _ (0, 0) _ HAt7.out.row Try.underlying59 rfl (by kernel_rfl) ?_)
          | fail)
        refine HDo.out.mono ?_
        rintro e w8 hpost
        obtain ⟨A8, c8, bs8, r8, rfl, hd8, hbs8, heq8, _, hx8⟩ := hpost
        obtain ⟨d, hd⟩ : ∃ d, d = dirF F F.length := ⟨_, rfl⟩
        obtain ⟨M8, hM8⟩ : ∃ M, M = bdM bs8 := ⟨_, rfl⟩
        rw [HM.out, ← hd, ← hM8] at heq8
        have hsim := HSim.out
        rw [← hd, ← heq8] at hsim
        obtain ⟨hrr, hsim2⟩ := hsim
        have hrr : rr = r8 := hrr
        subst hrr
        have HS8 : Hid (Sim S' d M8 ids) := Lib.hid hsim2
        rw [← hd] at hd8
        have HB8 := Lib.hid hbs8
        have HM8 := Lib.hid hM8
        have HDD := Lib.hid hd
        have HX8 := Lib.hid hx8
        have HN := Lib.hid (heap_alloc_new w8 (.cells #[.slice none 0 0, .slice none 0 0, .slice none 0 0, .int .i64 0, .slice none 0 0, .int .i64 0, .bool false] 59))
        unfold rdV rdC
        have HR8 := Lib.hid hd8
        clear hd8 hbs8 heq8 hx8 hsim2 hM8 hd
        go_wp2_with (first
          | (refine wpList_store_row rfl 59 _ _ rfl w8.heap.size (rdC (.slice A8 n1 c8) (.slice Dm n1 em) 16777216 1) rfl rfl 59 _ HN.out (by kernel_rfl) rfl (by simp [rdC, Value.oneCell']) ?_)
          | fail)
        obtain ⟨w9, hw9⟩ : ∃ w9, w9 = (w8.alloc (.cells #[.slice none 0 0, .slice none 0 0, .slice none 0 0, .int .i64 0, .slice none 0 0, .int .i64 0, .bool false] 59)).setRow w8.heap.size (rdC (.slice A8 n1 c8) (.slice Dm n1 em) 16777216 1) := ⟨_, rfl⟩
        have HX9 : Hid (Ext w8 w9) := Lib.hid (by rw [hw9]; exact ((Ext.refl w8).alloc _).setRow (Nat.le_refl _) _)
        have HRn : Hid (RdAt w9 w8.heap.size (.slice A8 n1 c8) (.slice Dm n1 em) 16777216 1) := Lib.hid (.of (by rw [hw9]; exact setRow_heap _ _ _ _ 59 (0, 0) HN.out))
        have HE9 : Hid (Ext w w9) := Lib.hid ((HE7.out.trans HX8.out).trans HX9.out)
        rw [← hw9]
        clear hw9 HN
        have HR9 := Lib.hid (HR8.out.ext HX9.out)
        have HC7 : Hid (∀ W, Ext w9 W → W.cell? ⟨w8.heap.size, 0, none⟩ = some (.slice A8 n1 c8) ∧ W.cell? ⟨w8.heap.size, 1, none⟩ = some (.slice Dm n1 em) ∧ W.cell? ⟨w8.heap.size, 2, none⟩ = some (.slice none 0 0) ∧ W.cell? ⟨w8.heap.size, 3, none⟩ = some (.int .i64 16777216) ∧ W.cell? ⟨w8.heap.size, 4, none⟩ = some (.slice none 0 0) ∧ W.cell? ⟨w8.heap.size, 5, none⟩ = some (.int .i64 1) ∧ W.cell? ⟨w8.heap.size, 6, none⟩ = some (.bool false)) := Lib.hid (fun W hW => by
          have hh := (HRn.out.to hW).row
          exact ⟨cell_of_row W _ 0 _ _ (0, 0) hh, cell_of_row W _ 1 _ _ (0, 0) hh, cell_of_row W _ 2 _ _ (0, 0) hh, cell_of_row W _ 3 _ _ (0, 0) hh, cell_of_row W _ 4 _ _ (0, 0) hh, cell_of_row W _ 5 _ _ (0, 0) hh, cell_of_row W _ 6 _ _ (0, 0) hh⟩)
        obtain ⟨NOW, hNOW⟩ : ∃ N, N = filesE M8 d := ⟨_, rfl⟩
        obtain ⟨LEFT, hLEFT⟩ : ∃ N, N = safeE M8 d := ⟨_, rfl⟩
        have hNl : NOW.length = n1 := by rw [hNOW]; unfold filesE; rw [List.length_map]; exact HR9.out.rd.len
        have hLl : LEFT.length = n1 := by rw [hLEFT]; unfold safeE; rw [List.length_map]; exact HR9.out.rd.len
        have CFn : Hid (∀ W, Ext w9 W → Calls Try.prog 36 #[.agg #[.slice A8 n1 c8, .slice Dm n1 em, .slice none 0 0, .int .i64 16777216, .slice none 0 0, .int .i64 1, .bool false]] W (fun e w' => ∃ A c R, e = .returned (.slice A n1 c) ∧ (R.map fun r : List UInt8 × Sl => (r.1, r.2.body)) = NOW ∧ OwnG shF 47 w' W.heap.size A c R ∧ Txts w' W.heap.size (R.map fun r => r.2) ∧ Ext W w')) := Lib.hid (fun W hW => by
          have q := rfiles_any (HR9.out.ext hW) c8 em 16777216 1 (by omega)
          unfold FilesPost at q
          rw [← HM8.out, ← hNOW, hNl] at q
          exact q)
        have COn : Hid (∀ W, Ext w9 W → Calls Try.prog 37 #[.agg #[.slice A8 n1 c8, .slice Dm n1 em, .slice none 0 0, .int .i64 16777216, .slice none 0 0, .int .i64 1, .bool false], .slice none 0 0] W (fun e w' => ∃ Ao co Do do_, e = .returned (.agg #[.slice Ao n1 co, .slice Do n1 do_, .slice none 0 0, .int .i64 16777216, .slice none 0 0, .int .i64 1, .bool false]) ∧ (∀ V, Ext w' V → Calls Try.prog 36 #[.agg #[.slice Ao n1 co, .slice Do n1 do_, .slice none 0 0, .int .i64 16777216, .slice none 0 0, .int .i64 1, .bool false]] V (fun e w' => ∃ A c R, e = .returned (.slice A n1 c) ∧ (R.map fun r : List UInt8 × Sl => (r.1, r.2.body)) = LEFT ∧ OwnG shF 47 w' V.heap.size A c R ∧ Txts w' V.heap.size (R.map fun r => r.2) ∧ Ext V w')) ∧ Ext W w')) := Lib.hid (fun W hW => by
          refine (ron_any (HR9.out.ext hW) HB8.out c8 em 16777216 1 (by omega)).mono ?_
          rintro e w' ⟨Ao, co, bso, Do, do_, rfl, ho1, hb1, hm1, ho2, hx⟩
          have hbl : bso.length = n1 := by
            have q := congrArg List.length hm1
            unfold bdM onB at q
            rw [List.length_map, List.length_map, HR9.out.rd.len] at q
            exact q
          refine ⟨Ao, co, Do, do_, rfl, fun V hV => ?_, hx⟩
          have q := rfiles_any (w := V) (Ab := Ao) (nb := n1) (bs := bso) (Ad := Do) (n := n1) (d := onD 0 d) (⟨(ho1.rd' hbl).ext hV, fun p hp => ⟨((hb1.own p hp).1.rd).ext hV, (hb1.own p hp).2.2⟩, (ho2.rd' (by rw [onD_len]; exact HR9.out.rd.len)).ext hV, fun e he => by
            obtain ⟨k, h1, h2⟩ := onD_nat 0 d e he
            exact ⟨k, h1, by have h3 := HR9.out.rd.len; omega⟩⟩) co do_ 16777216 1 (by omega)
          unfold FilesPost at q
          rw [hm1, files_on, ← HM8.out, ← hLEFT, hLl] at q
          exact q)
        have HNl := Lib.hid hNl
        have HLl := Lib.hid hLl
        have HNOW := Lib.hid hNOW
        have HLEFT := Lib.hid hLEFT
        clear hNOW hLEFT hNl hLl
        go_region_held3 (fun W => W.cell? ⟨w8.heap.size, 0, none⟩ = some (.slice A8 n1 c8) ∧ W.cell? ⟨w8.heap.size, 1, none⟩ = some (.slice Dm n1 em) ∧ W.cell? ⟨w8.heap.size, 2, none⟩ = some (.slice none 0 0) ∧ W.cell? ⟨w8.heap.size, 3, none⟩ = some (.int .i64 16777216) ∧ W.cell? ⟨w8.heap.size, 4, none⟩ = some (.slice none 0 0) ∧ W.cell? ⟨w8.heap.size, 5, none⟩ = some (.int .i64 1) ∧ W.cell? ⟨w8.heap.size, 6, none⟩ = some (.bool false))
          (first | with_reducible exact HC7.out _ (Ext.refl _).drew | with_reducible exact HC7.out _ HXa.out | with_reducible exact HC7.out _ HXb2.out | with_reducible exact HC7.out _ HXc.out | fail)
          (first
            | (go_at_call 37; refine (COn.out _ HXa.out).mono ?_; rintro e vb ⟨Ao, co, Do, do_, rfl, hf, hx⟩; have HXb2 : Hid (Ext w9 vb) := Lib.hid (HXa.out.trans hx); have HXab := Lib.hid hx; have HFl2 := Lib.hid hf; clear hf hx)
            | (go_at_call 36; refine (HFl2.out _ (Ext.refl _)).mono ?_; rintro e vc ⟨Al, cl, Rl, rfl, hRl, hol, htl, hx⟩; have HXc : Hid (Ext w9 vc) := Lib.hid (HXb2.out.trans hx); have HXbc := Lib.hid hx; have HRl := Lib.hid hRl; have HOl := Lib.hid hol; have HTl := Lib.hid htl; clear hRl hol htl hx)
            | (go_at_call 36; refine (CFn.out _ (Ext.refl _).drew).mono ?_; rintro e va ⟨An, cn, Rn, rfl, hRn, hon, htn, hx⟩; have HXa : Hid (Ext w9 va) := Lib.hid ((Ext.refl w9).drew.trans hx); have HRn2 := Lib.hid hRn; have HOn := Lib.hid hon; have HTn := Lib.hid htn; clear hRn hon htn hx)
            | fail)
        have HFN : Hid (FilR vc w9.drew.heap.size va.heap.size An cn Rn n1 NOW) := Lib.hid ((FilR.made HRn2.out HNl.out HOn.out HTn.out).ext (HXab.out.trans HXbc.out))
        have HFL : Hid (FilR vc vb.heap.size vc.heap.size Al cl Rl n1 LEFT) := Lib.hid (FilR.made HRl.out HLl.out HOl.out HTl.out)
        have hMo : ∀ p ∈ M8, p.1.length ≤ 140737488355328 ∧ U8 p.1 := fun p hp => by
          rw [HM8.out] at hp
          obtain ⟨q, hq, rfl⟩ := List.mem_map.1 hp
          exact ⟨(HR8.out.rbd q hq).2, (HB8.out q hq).1⟩
        have HNb : Hid (∀ y ∈ NOW, y.2.length ≤ 140737488355328 ∧ U8 y.2) := Lib.hid (by rw [HNOW.out]; exact filesE_ok hMo)
        have HLb : Hid (∀ y ∈ LEFT, y.2.length ≤ 140737488355328 ∧ U8 y.2) := Lib.hid (by rw [HLEFT.out]; exact safeE_ok hMo)
        have Hn4 : Hid (n1 ≤ 400) := Lib.hid hn4
        have HX7c : Hid (Ext w7 vc) := Lib.hid ((HX8.out.trans HX9.out).trans HXc.out)
        have HDc := Lib.hid (HD7.out.ext HX7c.out)
        have HTc := Lib.hid (HT7.out.ext HX7c.out)
        have HEc : Hid (Ext w vc) := Lib.hid (HE9.out.trans HXc.out)
        have CFx : Hid (∀ W, Ext vc W → Calls Try.prog 27 #[.pointer (some ⟨dp, 0, none⟩)] W (fun e w' => ∃ A c R, e = .returned (.slice A n1 c) ∧ FilR w' W.heap.size w'.heap.size A c R n1 NOW ∧ Ext W w')) := Lib.hid (fun W hW => by
          refine (files_Dk (HDc.out.ext hW) HFit5.out).mono ?_
          rintro e w' ⟨A, c, R', h1, h2, h3, h4, h5⟩
          rw [HS8.out.filesC, ← HNOW.out] at h1 h2
          rw [HNl.out] at h1
          exact ⟨A, c, R', h1, FilR.made h2 HNl.out h3 h4, h5⟩)
        have CSx : Hid (∀ W, Ext vc W → Calls Try.prog 38 #[.pointer (some ⟨dp, 0, none⟩)] W (fun e w' => ∃ A c R, e = .returned (.slice A n1 c) ∧ FilR w' W.heap.size w'.heap.size A c R n1 LEFT ∧ Ext W w')) := Lib.hid (fun W hW => by
          refine (safe_Dk (HDc.out.ext hW) HFit5.out).mono ?_
          rintro e w' ⟨A, c, R', h1, h2, h3, h4, h5⟩
          rw [HS8.out.safeC, ← HLEFT.out] at h1 h2
          rw [HLl.out] at h1
          exact ⟨A, c, R', h1, FilR.made h2 HLl.out h3 h4, h5⟩)
        clear hMo
        go_wp2_with fail
        refine (CFx.out _ (Ext.refl _)).mono ?_
        rintro e v1 ⟨Ax, cx, Rx, rfl, hfx, hx1⟩
        have HFX1 := Lib.hid hfx
        have HY1 := Lib.hid hx1
        clear hfx hx1
        go_wp2_with fail
        refine (CSx.out _ HY1.out).mono ?_
        rintro e v2 ⟨Ay, cy, Ry, rfl, hfy, hx2⟩
        have HFY2 := Lib.hid hfy
        have HFX2 := Lib.hid (HFX1.out.ext hx2)
        have HY2 := Lib.hid (HY1.out.trans hx2)
        have Hz2 := Lib.hid hx2.size
        clear hfy hx2
        go_wp2_with fail
        refine (HFX2.out.alike (HFN.out.ext HY2.out) (fun y hy => (HNb.out y hy).1) Hn4.out).mono ?_
        rintro e v3 ⟨rfl, hx3⟩
        have HFY3 := Lib.hid (HFY2.out.ext hx3)
        have HFX3 := Lib.hid (HFX2.out.ext hx3)
        have HY3 := Lib.hid (HY2.out.trans hx3)
        have Hz3 := Lib.hid hx3.size
        clear hx3
        go_wp2_with fail
        refine (HFY3.out.alike (HFL.out.ext HY3.out) (fun y hy => (HLb.out y hy).1) Hn4.out).mono ?_
        rintro e v4 ⟨rfl, hx4⟩
        have HFY4 := Lib.hid (HFY3.out.ext hx4)
        have HFX4 := Lib.hid (HFX3.out.ext hx4)
        have HY4 := Lib.hid (HY3.out.trans hx4)
        have Hz4 := Lib.hid hx4.size
        clear hx4
        go_wp2_with fail
        refine (rdatas_any HFX4.out.rd (by have := Hn4.out; omega)).mono ?_
        rintro e v5 ⟨A5, c5, rfl, ho5, hx5⟩
        go_wp2_with fail
        refine (rdatas_any ((HFN.out.ext HY4.out).ext hx5).rd (by have := Hn4.out; omega)).mono ?_
        rintro e v6 ⟨A6, c6, rfl, ho6, hx6⟩
        have Ho5 := Lib.hid ho5
        have Ho6 := Lib.hid ho6
        have Hx5 := Lib.hid hx5
        have Hx6 := Lib.hid hx6
        have HXbc2 := Lib.hid (HXab.out.trans HXbc.out)
        have Hz1 := Lib.hid HY1.out.size
        clear ho5 ho6 hx5 hx6
        have HAA := Lib.hid (((HFX4.out.ext Hx5.out).ext Hx6.out).apart (((HFN.out.ext HY4.out).ext Hx5.out).ext Hx6.out) HXbc2.out.size HNb.out Hn4.out (Ho5.out.ext Hx6.out) Ho6.out (by have := Hz2.out; have := Hz3.out; have := Hz4.out; omega) (by have := Hz2.out; have := Hz3.out; have := Hz4.out; have := Hx5.out.size; omega))
        go_wp2_with fail
        refine HAA.out.mono ?_
        rintro e v7 ⟨rfl, hk7⟩
        have HFY7 := Lib.hid (((HFX4.out.ext Hx5.out).ext Hx6.out).behind hk7 ((HFY4.out.ext Hx5.out).ext Hx6.out) (Nat.le_refl _))
        have HY7 : Hid (Ext vc v7) := Lib.hid (((HFX4.out.ext Hx5.out).ext Hx6.out).keptExt hk7 ((HY4.out.trans Hx5.out).trans Hx6.out) (Nat.le_refl _))
        have Hz7 : Hid (v4.heap.size ≤ v7.heap.size) := Lib.hid (by have := hk7.size; have := Hx5.out.size; have := Hx6.out.size; omega)
        clear hk7 HAA
        go_wp2_with fail
        refine (rdatas_any HFY7.out.rd (by have := Hn4.out; omega)).mono ?_
        rintro e v8 ⟨A7, c7, rfl, ho7, hx8⟩
        have Ho7 := Lib.hid ho7
        have Hx8 := Lib.hid hx8
        clear ho7 hx8
        go_wp2_with fail
        refine (rdatas_any ((HFL.out.ext HY7.out).ext Hx8.out).rd (by have := Hn4.out; omega)).mono ?_
        rintro e v9 ⟨A9, c9, rfl, ho9, hx9⟩
        have Ho9 := Lib.hid ho9
        have Hx9 := Lib.hid hx9
        clear ho9 hx9
        have HAA := Lib.hid (((HFY7.out.ext Hx8.out).ext Hx9.out).apart (((HFL.out.ext HY7.out).ext Hx8.out).ext Hx9.out) Hz1.out HLb.out Hn4.out (Ho7.out.ext Hx9.out) Ho9.out (by have := Hz3.out; have := Hz4.out; have := Hz7.out; omega) (by have := Hz3.out; have := Hz4.out; have := Hz7.out; have := Hx8.out.size; omega))
        go_wp2_with fail
        refine HAA.out.mono ?_
        rintro e vA ⟨rfl, hkA⟩
        have HYA : Hid (Ext vc vA) := Lib.hid (((HFY7.out.ext Hx8.out).ext Hx9.out).keptExt hkA ((HY7.out.trans Hx8.out).trans Hx9.out) Hz1.out)
        clear hkA HAA
        have HXA : Hid (Ext w9 vA) := Lib.hid (HXc.out.trans HYA.out)
        have CFd : Hid (∀ W, Ext w9 W → Calls Try.prog 41 #[.agg #[.slice A8 n1 c8, .slice Dm n1 em, .slice none 0 0, .int .i64 16777216, .slice none 0 0, .int .i64 1, .bool false], nm x] W fun e w' => e = .returned (.int .i64 (findE x d)) ∧ Ext W w') := Lib.hid (fun W hW => rfind_any (HR9.out.rd.ext hW) (.slice A8 n1 c8) 16777216 1 x (by have := Hn4.out; omega))
        go_wp2_with (first
          | (refine wpList_load_row rfl 59 _ rfl w8.heap.size rfl 59 _ (0, 0) _ (HRn.out.to HXA.out).row Try.underlying59 rfl (by kernel_rfl) ?_)
          | fail)
        refine (CFd.out _ HXA.out).mono ?_
        rintro e vB ⟨rfl, hxB⟩
        have HYB : Hid (Ext vc vB) := Lib.hid (HYA.out.trans hxB)
        clear hxB
        have hid := findE_id (x := x) HR9.out.rid
        obtain ⟨I, hI⟩ : ∃ I, I = findE x d := ⟨_, rfl⟩
        rw [← hI] at hid
        rw [← hI]
        have HI9 := Lib.hid hI
        clear hI
        -- the end
        have CFo : Hid (∀ W, Ext vc W → Calls Try.prog 27 #[.pointer (some ⟨dp2, 0, none⟩)] W (fun e w' => ∃ A c R, e = .returned (.slice A n1 c) ∧ FilR w' W.heap.size w'.heap.size A c R n1 (filesE (F.map fun y => (y.2, (y.2.length : Int))) d) ∧ Ext W w')) := Lib.hid (fun W hW => by
          refine (files_Dk (HTc.out.ext hW) HJ0.out.fit).mono ?_
          rintro e w' ⟨A, c, R', h1, h2, h3, h4, h5⟩
          have q := HT0.out.filesC
          rw [← HDD.out] at q
          rw [q] at h1 h2
          have hl : (filesE (F.map fun y => (y.2, (y.2.length : Int))) d).length = n1 := by unfold filesE; rw [List.length_map]; exact HR9.out.rd.len
          rw [hl] at h1
          exact ⟨A, c, R', h1, FilR.made h2 hl h3 h4, h5⟩)
        have CFm : Hid (∀ W, Ext vc W → Calls Try.prog 36 #[.agg #[.slice Bm n1 cm, .slice Dm n1 em, .slice none 0 0, .int .i64 16777216, .slice none 0 0, .int .i64 0, .bool false]] W (fun e w' => ∃ A c R, e = .returned (.slice A n1 c) ∧ FilR w' W.heap.size w'.heap.size A c R n1 (filesE (F.map fun y => (y.2, (y.2.length : Int))) d) ∧ Ext W w')) := Lib.hid (fun W hW => by
          have q := rfiles_any ((HRd7.out.ext HX7c.out).ext hW) cm em 16777216 0 (by have := Hn4.out; omega)
          unfold FilesPost at q
          have hl : (filesE (F.map fun y => (y.2, (y.2.length : Int))) d).length = n1 := by unfold filesE; rw [List.length_map]; exact HR9.out.rd.len
          rw [HM.out, ← HDD.out, hl] at q
          exact q.mono (by rintro e w' ⟨A, c, R', h1, h2, h3, h4, h5⟩; exact ⟨A, c, R', h1, FilR.made h2 hl h3 h4, h5⟩))
        have HCM : Hid (∀ W, Ext vc W → W.cell? ⟨w2.heap.size, 0, none⟩ = some (.slice Bm n1 cm) ∧ W.cell? ⟨w2.heap.size, 1, none⟩ = some (.slice Dm n1 em) ∧ W.cell? ⟨w2.heap.size, 2, none⟩ = some (.slice none 0 0) ∧ W.cell? ⟨w2.heap.size, 3, none⟩ = some (.int .i64 16777216) ∧ W.cell? ⟨w2.heap.size, 4, none⟩ = some (.slice none 0 0) ∧ W.cell? ⟨w2.heap.size, 5, none⟩ = some (.int .i64 0) ∧ W.cell? ⟨w2.heap.size, 6, none⟩ = some (.bool false)) := Lib.hid (fun W hW => by
          have hh := ((HAt7.out.to HX7c.out).to hW).row
          exact ⟨cell_of_row W _ 0 _ _ (0, 0) hh, cell_of_row W _ 1 _ _ (0, 0) hh, cell_of_row W _ 2 _ _ (0, 0) hh, cell_of_row W _ 3 _ _ (0, 0) hh, cell_of_row W _ 4 _ _ (0, 0) hh, cell_of_row W _ 5 _ _ (0, 0) hh, cell_of_row W _ 6 _ _ (0, 0) hh⟩)
        have HFz : Hid (∀ y ∈ filesE (F.map fun y => (y.2, (y.2.length : Int))) d, y.2.length ≤ 140737488355328) := Lib.hid (fun y hy => (filesE_ok (m := 140737488355328) (fun p hp => by
          obtain ⟨q, hq, rfl⟩ := List.mem_map.1 hp
          exact HFb.out q hq) y hy).1)
        rcases hid with hid | ⟨k, hid, hkn⟩
        · subst hid
          go_wp2_with fail
          go_region_held3 (fun W => W.cell? ⟨w2.heap.size, 0, none⟩ = some (.slice Bm n1 cm) ∧ W.cell? ⟨w2.heap.size, 1, none⟩ = some (.slice Dm n1 em) ∧ W.cell? ⟨w2.heap.size, 2, none⟩ = some (.slice none 0 0) ∧ W.cell? ⟨w2.heap.size, 3, none⟩ = some (.int .i64 16777216) ∧ W.cell? ⟨w2.heap.size, 4, none⟩ = some (.slice none 0 0) ∧ W.cell? ⟨w2.heap.size, 5, none⟩ = some (.int .i64 0) ∧ W.cell? ⟨w2.heap.size, 6, none⟩ = some (.bool false))
            (first | with_reducible exact HCM.out _ HYB.out.drew | with_reducible exact HCM.out _ HZ1.out | with_reducible exact HCM.out _ HZ2.out | with_reducible exact HCM.out _ HZ3.out | with_reducible exact HCM.out _ HZ4.out | with_reducible exact HCM.out _ HZ5.out | with_reducible exact HCM.out _ HZ6.out | with_reducible exact HCM.out _ HZ7.out | fail)
            (first
              | (go_at_call 30; refine (HGo.out.alike HGm.out (fun y hy => HFz.out y hy) Hn4.out).mono ?_; rintro e e7 ⟨rfl, hx⟩; have HZ7 : Hid (Ext vc e7) := Lib.hid (HZ6.out.trans hx); clear hx)
              | (go_at_call 36; refine (CFm.out _ HZ5.out).mono ?_; rintro e e6 ⟨Am, c6, Rm, rfl, hf, hx⟩; have HGm := Lib.hid hf; have HGo := Lib.hid (HFo5.out.ext hx); have HZ6 : Hid (Ext vc e6) := Lib.hid (HZ5.out.trans hx); clear hf hx)
              | (go_at_call 27; refine (CFo.out _ HZ4.out).mono ?_; rintro e e5 ⟨Ao5, c5, Ro5, rfl, hf, hx⟩; have HFo5 := Lib.hid hf; have HZ5 : Hid (Ext vc e5) := Lib.hid (HZ4.out.trans hx); clear hf hx)
              | (go_at_call 30; refine (HGs.out.alike (HFL.out.ext HZ3.out) (fun y hy => (HLb.out y hy).1) Hn4.out).mono ?_; rintro e e4 ⟨rfl, hx⟩; have HZ4 : Hid (Ext vc e4) := Lib.hid (HZ3.out.trans hx); clear hx)
              | (go_at_call 38; refine (CSx.out _ HZ2.out).mono ?_; rintro e e3 ⟨As, c3, Rs, rfl, hf, hx⟩; have HGs := Lib.hid hf; have HZ3 : Hid (Ext vc e3) := Lib.hid (HZ2.out.trans hx); clear hf hx)
              | (go_at_call 30; refine (HGp.out.alike (HFN.out.ext HZ1.out) (fun y hy => (HNb.out y hy).1) Hn4.out).mono ?_; rintro e e2 ⟨rfl, hx⟩; have HZ2 : Hid (Ext vc e2) := Lib.hid (HZ1.out.trans hx); clear hx)
              | (go_at_call 27; refine (CFx.out _ HYB.out.drew).mono ?_; rintro e e1 ⟨Ap, cp, Rp, rfl, hf, hx⟩; have HGp := Lib.hid hf; have HZ1 : Hid (Ext vc e1) := Lib.hid (HYB.out.drew.trans hx); clear hf hx)
              | fail)
          go_wp2_with fail
          go_ret
          exact ⟨rfl, HEc.out.trans HZ7.out⟩
        · subst hid
          obtain ⟨b2, o2, s, hA8, hbl2, hx2, hcx2⟩ := HR9.out.rb.at_ hkn
          have q2 : w9.cell? ⟨b2, o2 + k * 2, none⟩ = some (.slice s.1.A s.1.body.length s.1.c) := by simpa [shBd, Sl.v] using hcx2 0 _ rfl
          have hMk : M8.getD k ([], 0) = (s.1.body, s.2) := by
            rw [HM8.out, List.getD_eq_getElem?_getD]
            unfold bdM
            rw [List.getElem?_map, hx2]
            rfl
          obtain ⟨hlk, hkM⟩ := HS8.out.lkp_some HI9.out.symm
          have hfd := (HS8.out.file k hkM).1
          rw [hMk] at hfd
          have HDt := Lib.hid (HR9.out.rbd s (List.mem_of_getElem? hx2)).1
          have hb4' := (HR9.out.rbd s (List.mem_of_getElem? hx2)).2
          have HSu : Hid (U8 s.1.body) := Lib.hid (HB8.out s (List.mem_of_getElem? hx2)).1
          have hrc : readC S' x 0 (s.1.body.length : Int) = (s.1.body, 0) := by
            unfold readC findC
            rw [if_neg (by rw [HSI5.out.pl.on]; decide), hlk]
            simp only [hfd]
            rw [if_neg (by omega), if_neg (by simp)]
            simp
          have HRead : Hid (∀ W, Ext vc W → Calls Try.prog 17 #[.pointer (some ⟨dp, 0, none⟩), nm x, .int .i64 0, .int .i64 (s.1.body.length : Int)] W fun e w' => ∃ A c, e = .returned (.tuple #[.slice A s.1.body.length c, .int .i64 0]) ∧ Own .u8 5 w' W.heap.size A c s.1.body ∧ Ext W w') := Lib.hid (fun W hW => by
            have q := read_Dk (HDc.out.ext hW) x 0 (s.1.body.length : Int) HXN.out HFit5.out
            rw [hrc] at q
            exact q)
          have HCk : Hid (∀ W, Ext w9 W → W.cell? ⟨w8.heap.size, 0, none⟩ = some (.slice (some ⟨b2, o2, none⟩) n1 c8) ∧ W.cell? ⟨b2, o2 + k * 2, none⟩ = some (.slice s.1.A s.1.body.length s.1.c)) := Lib.hid (fun W hW => ⟨by rw [← hA8]; exact (HC7.out W hW).1, (Below.cell hW (p := ⟨b2, o2 + k * 2, none⟩) hbl2).trans q2⟩)
          obtain ⟨mb, hmb⟩ : ∃ m, m = s.1.body.length := ⟨_, rfl⟩
          rw [← hmb] at HRead HCk HDt hb4'
          have Hmb := Lib.hid hmb
          clear hA8 hbl2 hx2 hcx2 q2 hMk hlk hkM hfd hrc hmb
          obtain ⟨g0, g1⟩ := HCk.out vB (HXc.out.trans HYB.out)
          go_wp2_with fail
          refine (HRead.out _ HYB.out).mono ?_
          rintro e vC ⟨Ap, cp, rfl, hop, hxC⟩
          have Hop := Lib.hid hop
          have HxC := Lib.hid hxC
          have HYC : Hid (Ext vc vC) := Lib.hid (HYB.out.trans hxC)
          clear hop hxC g0 g1
          go_wp2_with fail
          refine (HRead.out _ HYC.out).mono ?_
          rintro e vD ⟨Aq, cq, rfl, hoq, hxD⟩
          have HYD : Hid (Ext vc vD) := Lib.hid (HYC.out.trans hxD)
          obtain ⟨g0, g1⟩ := HCk.out vD (HXc.out.trans HYD.out)
          have HAp := Lib.hid (apartD_any Ap Aq s.1.A mb cp cq s.1.c vB.heap.size s.1.body vc vD (Hop.out.ext hxD) Hmb.out.symm HSu.out (hoq.rd' Hmb.out.symm) (HDt.out.ext (HXc.out.trans HYD.out)) (fun _ a a2 ha ha2 => by have h1 := (Hop.out.block a ha).2; have h2 := (hoq.block a2 ha2).1; omega) (fun h0 a a3 ha ha3 => by have h1 := (Hop.out.block a ha).1; have h2 := HDt.out.lt h0 a3 ha3; have h3 := (HXc.out.trans HYB.out).size; omega) HYD.out HYB.out.size (by have := HxC.out.size; have := hxD.size; omega) (by omega))
          clear hoq hxD
          go_wp2_with fail
          refine HAp.out.mono ?_
          rintro e vE ⟨rfl, hxE⟩
          have HYE := Lib.hid hxE
          clear hxE HAp g0 g1
          go_wp2_with fail
          go_region_held3 (fun W => W.cell? ⟨w2.heap.size, 0, none⟩ = some (.slice Bm n1 cm) ∧ W.cell? ⟨w2.heap.size, 1, none⟩ = some (.slice Dm n1 em) ∧ W.cell? ⟨w2.heap.size, 2, none⟩ = some (.slice none 0 0) ∧ W.cell? ⟨w2.heap.size, 3, none⟩ = some (.int .i64 16777216) ∧ W.cell? ⟨w2.heap.size, 4, none⟩ = some (.slice none 0 0) ∧ W.cell? ⟨w2.heap.size, 5, none⟩ = some (.int .i64 0) ∧ W.cell? ⟨w2.heap.size, 6, none⟩ = some (.bool false))
            (first | with_reducible exact HCM.out _ HYE.out.drew | with_reducible exact HCM.out _ HZ1.out | with_reducible exact HCM.out _ HZ2.out | with_reducible exact HCM.out _ HZ3.out | with_reducible exact HCM.out _ HZ4.out | with_reducible exact HCM.out _ HZ5.out | with_reducible exact HCM.out _ HZ6.out | with_reducible exact HCM.out _ HZ7.out | fail)
            (first
              | (go_at_call 30; refine (HGo.out.alike HGm.out (fun y hy => HFz.out y hy) Hn4.out).mono ?_; rintro e e7 ⟨rfl, hx⟩; have HZ7 : Hid (Ext vc e7) := Lib.hid (HZ6.out.trans hx); clear hx)
              | (go_at_call 36; refine (CFm.out _ HZ5.out).mono ?_; rintro e e6 ⟨Am, c6, Rm, rfl, hf, hx⟩; have HGm := Lib.hid hf; have HGo := Lib.hid (HFo5.out.ext hx); have HZ6 : Hid (Ext vc e6) := Lib.hid (HZ5.out.trans hx); clear hf hx)
              | (go_at_call 27; refine (CFo.out _ HZ4.out).mono ?_; rintro e e5 ⟨Ao5, c5, Ro5, rfl, hf, hx⟩; have HFo5 := Lib.hid hf; have HZ5 : Hid (Ext vc e5) := Lib.hid (HZ4.out.trans hx); clear hf hx)
              | (go_at_call 30; refine (HGs.out.alike (HFL.out.ext HZ3.out) (fun y hy => (HLb.out y hy).1) Hn4.out).mono ?_; rintro e e4 ⟨rfl, hx⟩; have HZ4 : Hid (Ext vc e4) := Lib.hid (HZ3.out.trans hx); clear hx)
              | (go_at_call 38; refine (CSx.out _ HZ2.out).mono ?_; rintro e e3 ⟨As, c3, Rs, rfl, hf, hx⟩; have HGs := Lib.hid hf; have HZ3 : Hid (Ext vc e3) := Lib.hid (HZ2.out.trans hx); clear hf hx)
              | (go_at_call 30; refine (HGp.out.alike (HFN.out.ext HZ1.out) (fun y hy => (HNb.out y hy).1) Hn4.out).mono ?_; rintro e e2 ⟨rfl, hx⟩; have HZ2 : Hid (Ext vc e2) := Lib.hid (HZ1.out.trans hx); clear hx)
              | (go_at_call 27; refine (CFx.out _ HYE.out.drew).mono ?_; rintro e e1 ⟨Ap, cp, Rp, rfl, hf, hx⟩; have HGp := Lib.hid hf; have HZ1 : Hid (Ext vc e1) := Lib.hid (HYE.out.drew.trans hx); clear hf hx)
              | fail)
          go_wp2_with fail
          go_ret
          exact ⟨rfl, HEc.out.trans HZ7.out⟩
  · have CL2 : Hid (∀ W, Ext w W → Calls Try.prog 26 #[.int .i64 16777216, .slice A1 n1 c1] W fun e w' => e = .returned (.tuple #[rZero, .int .i64 (refC (ldS (newS 16777216) F ids j) y.1)]) ∧ Ext W w') := Lib.hid (fun W hW => (CR.out W hW).mono fun e w' q => rload_err hlaid hFj hbad q)
    have hbE : refE y.1 (dirF F j) ≠ 0 := by rw [refE_ld (Nat.le_of_lt hj) hlaid y.1]; exact hbad
    obtain ⟨E, hE⟩ : ∃ E, E = refC (ldS (newS 16777216) F ids j) y.1 := ⟨_, rfl⟩
    rw [← hE] at CL2 hbad
    have HE0 := Lib.hid (HEB.out.trans hx0)
    have HbE := Lib.hid hbE
    have HFj := Lib.hid hFj
    have Hj := Lib.hid hj
    have Hx0 := Lib.hid hx0
    have e1 : (E == 0) = false := by simpa using hbad
    have e2 : (E != 0) = true := by simpa using hbad
    have e3 : ¬ E = 0 := hbad
    rw [← hE]
    clear hlaid hx0 hFj hj hE hbE
    go_wp2_with fail
    refine (CL.out _ Hx0.out).mono ?_
    rintro e w1 hpost
    rcases hpost with ⟨dp2, ids2, rfl, hlaid, h1, hx1⟩ | ⟨ids2, j2, y2, hj2, rfl, hFj2, hlaid2, hbad2, hx1⟩
    · exfalso
      exact HbE.out (refE_good hlaid j y Hj.out HFj.out)
    have HE1 := Lib.hid (HE0.out.trans hx1)
    obtain ⟨E2, hE2⟩ : ∃ E, E = refC (ldS (newS 16777216) F ids2 j2) y2.1 := ⟨_, rfl⟩
    rw [← hE2]
    clear hlaid2 hbad2 hFj2 hx1 hE2
    go_wp2_with fail
    refine (CL2.out _ HE1.out).mono ?_
    rintro e w2 ⟨rfl, hx2⟩
    have HE2 := Lib.hid (HE1.out.trans hx2)
    have HN := Lib.hid (heap_alloc_new w2 (.cells #[.slice none 0 0, .slice none 0 0, .slice none 0 0, .int .i64 0, .slice none 0 0, .int .i64 0, .bool false] 59))
    clear hx2
    go_wp2_with (first
      | (refine wpList_store_row rfl 59 _ _ rfl w2.heap.size #[.slice none 0 0, .slice none 0 0, .slice none 0 0, .int .i64 0, .slice none 0 0, .int .i64 0, .bool false] rfl rfl 59 _ HN.out (by kernel_rfl) rfl (by simp [Value.oneCell']) ?_)
      | fail)
    go_ret
    exact ⟨rfl, (HE2.out.alloc _).setRow HE2.out.size _⟩

end Go.Proofs.Ytjckfbpdnpehcaa
