import Derived.Test.YtnkggopkcjffoaaDoorG8
import Derived.Test.YtnkggopkcjffoaaDoorYK8d
import Derived.Test.YtnkggopkcjffoaaDoorG4

/-
  Layer 7: the statement KeysEncodes, walked.
-/
namespace Go.Proofs.YtnkggopkcjffoaaDoor
open Go.RowKit

theorem twin_rdX {w0 w : World} {base n c' : Nat} {A A' : Option Addr} {xs fs : List Ci} (hx : RdX w0 A n xs) (hv : fs.map Ci.val = xs.map Ci.val) (ho : OwnX w base A' c' fs) (ht : TxtX w base fs) : RdX w A' n fs := by
  have hl : fs.length = n := by rw [← List.length_map (f := Ci.val), hv, List.length_map, hx.1]
  have := ho.rdX (fun x hm => by
    obtain ⟨j, hj, rfl⟩ := List.mem_iff_getElem.1 hm
    obtain ⟨_, _, y, _, _, hy, _, _, _, hin⟩ := hx.at_ (show j < n by omega)
    have e : fs[j].val = y.val := by
      have h1 : (fs.map Ci.val)[j]? = some fs[j].val := by rw [List.getElem?_map, List.getElem?_eq_getElem hj]; rfl
      rw [hv, List.getElem?_map, hy] at h1
      exact (Option.some.inj h1).symm
    exact In_of_val e hin (ht.1 _ hm).rd)
  rwa [hl] at this

theorem kencE_val {keys : Int} {cs : List Col} {xs fs : List Ci} (h : fs.map Ci.val = xs.map Ci.val) : kencE keys cs fs = kencE keys cs xs := by
  have hl : fs.length = xs.length := by have := congrArg List.length h; simpa using this
  unfold kencE
  rw [rowF_val, rowF_val, h, hl]

set_option maxHeartbeats 6400000 in
set_option maxRecDepth 100000 in
theorem walk_KeysEncodes (A : Option Addr) (n c : Nat) (keys : Int) (cs : List Col) (A2 : Option Addr) (n2 c2 : Nat) (xs : List Ci) (w : World) (hs : SchIn w A n c cs) (hx2 : RdX w A2 n2 xs) (hz2 : n2 * 40 ≤ 140737488351232) (_hcap2 : ∀ x ∈ xs, x.txt.length ≤ x.c ∧ x.c ≤ 9223372036854775807) :
    Calls Tryd.prog 3 #[.agg #[.slice A n c, .int .i64 keys], .slice A2 n2 c2] w fun e w' => e = .returned (.bool true) ∧ Ext w w' := by
  go_enter Tryd.func3, Tryd.ntmps3
  go_wp2_with fail
  refine (alive7 _).mono ?_
  rintro e w1 ⟨rfl, he1⟩
  have ha := (AtS.box w A n c keys).ext he1
  have HW1 : Hid (Ext w w1) := Lib.hid (((Ext.refl w).alloc _).trans he1)
  have KS := Lib.hid (fun W (hW : Ext w1 W) => (show W.cell? ⟨w.heap.size, 0, none⟩ = some (.slice A n c) ∧ W.cell? ⟨w.heap.size, 1, none⟩ = some (.int .i64 keys) from ⟨(ha.ext hW).c0, (ha.ext hW).c1⟩))
  replace hs := hs.ext HW1.out
  replace hx2 := hx2.ext HW1.out
  have HU8 := Lib.hid (rdX_u8 hx2)
  obtain ⟨R, hR⟩ : ∃ R, R = kencE keys cs xs := ⟨_, rfl⟩
  have hRu : U8 R.1 := by rw [hR]; exact kencE_u8 HU8.out
  have hRl : R.1.length ≤ 1206 := by rw [hR]; exact kencE_len
  have HT := Lib.hid (fun W (hW : Ext w1 W) => twinRow_any A2 n2 c2 xs W (hx2.ext hW) (by omega))
  have HF := Lib.hid (fun W (hW : Ext w1 W) => refKEncode_any A n c keys cs A2 n2 c2 xs W (hs.ext hW) (hx2.ext hW) (by omega))
  have HE := Lib.hid (fun W (hW : Ext w1 W) A' c' fs (hf : RdX W A' n2 fs) (hv : fs.map Ci.val = xs.map Ci.val) (hc : ∀ x ∈ fs, x.txt.length ≤ x.c ∧ x.c ≤ 9223372036854775807) => (kencE_val (keys := keys) (cs := cs) hv ▸ kencode_any A n c keys cs A' n2 c' fs W (hs.ext hW) hf (by omega) hc : Calls Tryd.prog 13 #[.agg #[.slice A n c, .int .i64 keys], .slice A' n2 c'] W (KEncPost (kencE keys cs xs) W)))
  unfold KEncPost at HF HE
  rw [← hR] at HF HE
  clear hR
  obtain ⟨P, E⟩ := R
  obtain ⟨p, hp⟩ : ∃ p, P.length = p := ⟨_, rfl⟩
  simp only [hp] at HF HE hRu hRl
  have Hp := Lib.hid hp
  have b1 : (E == E) = true := by simp
  clear hp
  have hk1 := KS.out _ (Ext.refl w1)
  obtain ⟨k10, k11⟩ := hk1
  go_wp2_with fail
  refine (HT.out _ (Ext.refl w1)).mono ?_
  rintro e w2 ⟨fs, A3, c3, rfl, hfv, hox, htx, he2⟩
  have hfr := twin_rdX hx2 hfv hox htx
  have hfc : ∀ x ∈ fs, x.txt.length ≤ x.c ∧ x.c ≤ 9223372036854775807 := fun x hx => (htx.1 x hx).cap
  have hk2 := KS.out _ he2
  obtain ⟨k20, k21⟩ := hk2
  go_wp2_with fail
  refine (HF.out _ he2).mono ?_
  rintro e w3 ⟨A4, c4, rfl, ho4, he3⟩
  have hE3 := he2.trans he3
  have hk3 := KS.out _ hE3
  obtain ⟨k30, k31⟩ := hk3
  go_wp2_with fail
  refine (HE.out _ hE3 A3 c3 fs (hfr.ext he3) hfv hfc).mono ?_
  rintro e w4 ⟨A5, c5, rfl, ho5, he4⟩
  have hE4 := hE3.trans he4
  have hk4 := KS.out _ hE4
  obtain ⟨k40, k41⟩ := hk4
  go_wp2_with fail
  refine (HE.out _ hE4 A3 c3 fs ((hfr.ext he3).ext he4) hfv hfc).mono ?_
  rintro e w5 ⟨A6, c6, rfl, ho6, he5⟩
  have h4b := ho4.block
  have h5b := ho5.block
  have h6b := ho6.block
  have z3 := he3.size
  have z4 := he4.size
  have z5 := he5.size
  have hA7 := apart_any A5 A6 A4 p c5 c6 c4 w3.heap.size P w3 w5 (ho5.ext he5) Hp.out hRu (ho6.rd' Hp.out) (((ho4.rd' Hp.out).ext he4).ext he5) (fun a a2 h1 h2 e => by have q1 := h5b a h1; have q2 := h6b a2 h2; omega) (fun a a2 h1 h2 e => by have q1 := h5b a h1; have q2 := h4b a2 h2; omega) (he4.trans he5) (Nat.le_refl _) (by omega) (by omega)
  clear h4b h5b h6b ho4 ho5 ho6 hox htx hfc k10 k11 k20 k21 k30 k31 k40 k41
  go_wp2_with fail
  refine hA7.mono ?_
  rintro e w6 ⟨rfl, he6⟩
  have hAl := alikeRow_any A3 n2 c3 fs A2 n2 c2 xs w6 ((hfr.ext he3).ext he6) ((hx2.ext hE3).ext he6) (by omega) (by omega)
  rw [alkR_iff.2 hfv] at hAl
  go_wp2_with fail
  refine hAl.mono ?_
  rintro e w7 ⟨rfl, he7⟩
  go_wp2_with fail
  go_ret
  exact ⟨rfl, HW1.out.trans ((hE3.trans he6).trans he7)⟩

end Go.Proofs.YtnkggopkcjffoaaDoor
