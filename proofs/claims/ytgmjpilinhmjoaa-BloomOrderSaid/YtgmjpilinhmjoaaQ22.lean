/-
  Layer 13: BloomOrder.
-/
import Derived.Test.YtgmjpilinhmjoaaQ21
namespace Go.Proofs.Ytgmjpilinhmjoaa
open Go.RowKit
set_option maxRecDepth 100000

theorem rdss_two (e : TypeId) {w : World} {A A2 : Option Addr} {n c n2 c2 r b : Nat} {xs ys : List Nat} (hx : Rd .u8 w A n xs) (hA : 0 < n → ∀ a, A = some a → a.block ≠ r) (hy : Rd .u8 w A2 n2 ys) (hA2 : 0 < n2 → ∀ a, A2 = some a → a.block ≠ r) (hr : r < w.heap.size) (hb : w.heap.size = b) (W : World) (hW : (w.alloc (.cells #[.slice A n c, .slice A2 n2 c2] e)).grownBy W (some r)) : RdSS W (some ⟨b, 0, none⟩) 2 [xs, ys] := by
  subst hb
  have h1 := heap_alloc_new w (.cells #[.slice A n c, .slice A2 n2 c2] e)
  have h2 : W.heap[w.heap.size]? = some (.cells #[.slice A n c, .slice A2 n2 c2] e) := (hW.block w.heap.size (by simp) (fun e => by have e2 : w.heap.size = r := Option.some.inj e; omega)).trans h1
  refine ⟨rfl, fun _ => ⟨w.heap.size, 0, rfl, (Array.getElem?_eq_some_iff.1 h2).1, fun j hj => ?_⟩⟩
  rcases (show j = 0 ∨ j = 1 by omega) with rfl | rfl
  · refine ⟨A, n, c, cell_of_row W w.heap.size 0 _ e (0, 0) h2, ?_⟩
    show Rd .u8 W A n xs
    exact (hx.ext ((Ext.refl _).alloc _)).grown0 hW (fun h a ha e => hA h a ha (Option.some.inj e))
  · refine ⟨A2, n2, c2, cell_of_row W w.heap.size 1 _ e (0, 0) h2, ?_⟩
    show Rd .u8 W A2 n2 ys
    exact (hy.ext ((Ext.refl _).alloc _)).grown0 hW (fun h a ha e => hA2 h a ha (Option.some.inj e))

/-- Some filters, side by side. -/
def Fils (w : World) (base : Nat) (l : List (Nat × Nat × List Nat)) : Prop := ∀ x ∈ l, Fil w base x.1 x.2.1 x.2.2
theorem Fils.ext {w w' : World} {base : Nat} {l : List (Nat × Nat × List Nat)} (h : Fils w base l) (he : Ext w w') : Fils w' base l := fun x hx => (h x hx).ext he
theorem Fils.grown {w w' : World} {base r : Nat} {l : List (Nat × Nat × List Nat)} (h : Fils w base l) (hg : w.grownBy w' (some r)) (hr : ∀ x ∈ l, x.1 ≠ r ∧ x.2.1 ≠ r) : Fils w' base l := fun x hx => (h x hx).grown hg (fun e => (hr x hx).1 (Option.some.inj e)) (fun e => (hr x hx).2 (Option.some.inj e))
theorem Fil.mono {w : World} {base base' g r : Nat} {bs : List Nat} (h : Fil w base g r bs) (hb : base' ≤ base) : Fil w base' g r bs := by
  obtain ⟨c, ho, hg⟩ := h.own
  exact ⟨⟨c, ho.mono hb, hg⟩, h.ne, Nat.le_trans hb h.big, h.u8, h.lo, h.hi⟩

/-- Bounds that keep two filters apart. -/
def Bd (w w' : World) (g r : Nat) : Prop := w.heap.size ≤ g ∧ w.heap.size ≤ r ∧ g < w'.heap.size ∧ r < w'.heap.size
theorem Fil.bd {w w' : World} {g r : Nat} {bs : List Nat} (h : Fil w' w.heap.size g r bs) : Bd w w' g r := ⟨h.big, h.rlt.1, h.glt, h.rlt.2⟩

set_option maxHeartbeats 16000000 in
theorem walk_BloomOrder (n : Int) (A1 : Option Addr) (n1 c1 : Nat) (ss1 : List Sl) (ct m : Int) (w : World)
    (h1 : -9223372036854775808 ≤ n) (h2 : n ≤ 9223372036854775807) (hx1 : TxL w A1 n1 ss1) (hn1 : n1 ≤ 5900000000000) (hc1 : n1 ≤ c1) (_hc2 : c1 ≤ 9223372036854775807) (_h3 : -9223372036854775808 ≤ ct) (_h4 : ct ≤ 9223372036854775807) (h5 : -9223372036854775808 ≤ m) (h6 : m ≤ 9223372036854775807) :
    Calls Try.prog 6 #[.int .i64 n, .slice A1 n1 c1, .int .i64 ct, .int .i64 m] w fun e w' => e = .returned (.bool true) ∧ Ext w w' := by
  have Hx1 := Lib.hid hx1
  have Hlen1 := Lib.hid hx1.len
  have hz0 : 0 < (zeros n).length := by rw [zeros_len]; have := newLen_lo n; omega
  have hzl : ∀ ks, (addAll (zeros n) ks).length = newLen n := fun ks => by rw [addAll_len, zeros_len]
  have Hz0 := Lib.hid hz0
  have Hzl := Lib.hid hzl
  -- where the keys are cut
  obtain ⟨q, hq⟩ : ∃ q : Nat, (q : Int) = if ct < 0 ∨ (n1 : Int) < ct then (n1 : Int) else ct := ⟨(if ct < 0 ∨ (n1 : Int) < ct then (n1 : Int) else ct).toNat, by split <;> omega⟩
  have hqn : q ≤ n1 := by split at hq <;> omega
  have Hq := Lib.hid hq
  have hsl1 := run_uptoT A1 n1 c1 q (by omega)
  have hsl2 := run_fromT A1 n1 c1 q hqn
  obtain ⟨B1, hB1⟩ : ∃ B, B = offA A1 q c1 := ⟨_, rfl⟩
  obtain ⟨D, hD⟩ : ∃ D, D = n1 - q := ⟨_, rfl⟩
  obtain ⟨CD, hCD⟩ : ∃ D, D = c1 - q := ⟨_, rfl⟩
  rw [← hB1, ← hD, ← hCD] at hsl2
  have hta : Hid (TxL w A1 q (ss1.take q)) := Lib.hid (hx1.upto hqn)
  have htb : Hid (TxL w B1 D (ss1.drop q)) := Lib.hid (by rw [hB1, hD]; exact hx1.offA hqn hc1)
  have hmade : ∀ (A : Option Addr) (k c : Nat) (ss : List Sl) (W : World), TxL W A k ss → k ≤ 5900000000000 → Calls Try.prog 28 #[.int .i64 n, .slice A k c] W fun e w' => ∃ g r, e = .returned (.pointer (some ⟨g, 0, none⟩)) ∧ Fil w' W.heap.size g r (addAll (zeros n) (bodies ss)) ∧ Ext W w' := fun A k c ss W h hk => made_any n A k c ss W h1 h2 h hk
  have hmc := merge_cut hz0 (zeros_u8 n) (bodies ss1) q
  have hza : (bodies ss1).take q = bodies (ss1.take q) := (bodies_take _ _).symm
  have hzb : (bodies ss1).drop q = bodies (ss1.drop q) := (bodies_drop _ _).symm
  rw [hza, hzb] at hmc
  obtain ⟨F, hF⟩ : ∃ F, F = addAll (zeros n) (bodies ss1) := ⟨_, rfl⟩
  obtain ⟨Fa, hFa⟩ : ∃ F, F = addAll (zeros n) (bodies (ss1.take q)) := ⟨_, rfl⟩
  obtain ⟨Fb, hFb⟩ : ∃ F, F = addAll (zeros n) (bodies (ss1.drop q)) := ⟨_, rfl⟩
  rw [← hF, ← hFa, ← hFb] at hmc
  have hlF : F.length = newLen n := by rw [hF, hzl]
  have hlFa : Fa.length = newLen n := by rw [hFa, hzl]
  have hlFb : Fb.length = newLen n := by rw [hFb, hzl]
  have Hmade := Lib.hid hmade
  have Hmc := Lib.hid hmc
  have HF := Lib.hid hF
  have HFa := Lib.hid hFa
  have HFb := Lib.hid hFb
  have HlF := Lib.hid hlF
  have HlFa := Lib.hid hlFa
  have HlFb := Lib.hid hlFb
  have hmf : ∀ W, Ext w W → Calls Try.prog 28 #[.int .i64 n, .slice A1 n1 c1] W fun e w' => ∃ g r, e = .returned (.pointer (some ⟨g, 0, none⟩)) ∧ Fil w' W.heap.size g r F ∧ Ext W w' := fun W hW => by
    rw [hF]; exact hmade A1 n1 c1 ss1 W (hx1.ext hW) hn1
  have hma : ∀ W, Ext w W → Calls Try.prog 28 #[.int .i64 n, .slice A1 q c1] W fun e w' => ∃ g r, e = .returned (.pointer (some ⟨g, 0, none⟩)) ∧ Fil w' W.heap.size g r Fa ∧ Ext W w' := fun W hW => by
    rw [hFa]; exact hmade A1 q c1 _ W (hta.out.ext hW) (by omega)
  have hmb : ∀ W, Ext w W → Calls Try.prog 28 #[.int .i64 n, .slice B1 D CD] W fun e w' => ∃ g r, e = .returned (.pointer (some ⟨g, 0, none⟩)) ∧ Fil w' W.heap.size g r Fb ∧ Ext W w' := fun W hW => by
    rw [hFb]; exact hmade B1 D CD _ W (htb.out.ext hW) (by omega)
  have Hmf := Lib.hid hmf
  have Hma := Lib.hid hma
  have Hmb := Lib.hid hmb
  have hnew : ∀ W, Calls Try.prog 8 #[.int .i64 n] W fun e w' => ∃ g r, e = .returned (.pointer (some ⟨g, 0, none⟩)) ∧ Fil w' W.heap.size g r (zeros n) ∧ Ext W w' := fun W => new_any n W h1 h2
  have Hnew := Lib.hid hnew
  clear hD hCD hx1 hz0 hzl hB1 hmade hmc hza hzb hF hFa hFb hlF hlFa hlFb hmf hma hmb hnew
  go_enter Try.func6, Try.ntmps6
  go_wp2_with fail
  refine (alive13 w).mono ?_
  rintro e w0 ⟨rfl, he0⟩
  go_wp2_with fail
  refine (Hmf.out w0 he0).mono ?_
  rintro e w1 ⟨gf, rf, rfl, hf, he1⟩
  have bf := hf.bd
  have hE1 := he0.trans he1
  have hs0 := he0.size
  have hqf := Hq.out
  by_cases hneg : ct < 0
  rotate_left
  by_cases hgt : (n1 : Int) < ct
  have hqn2 : q = n1 := by rw [if_pos (Or.inr hgt)] at hqf; omega
  rw [hqn2] at hsl1 hsl2 Hma
  clear hqf hq
  go_wp2_with fail
  rotate_left
  have hct : ct = (q : Int) := by rw [if_neg (by omega)] at hqf; omega
  subst hct
  clear hqf hq
  go_wp2_with fail
  rotate_left
  have hqn2 : q = n1 := by rw [if_pos (Or.inl hneg)] at hqf; omega
  rw [hqn2] at hsl1 hsl2 Hma
  clear hqf hq
  go_wp2_with fail
  rotate_left
  all_goals
    go_region_held3 (fun _ => True) (first | trivial | fail)
      (first
        | (go_at_call 28; (with_reducible refine (Hma.out _ ?_).mono ?_); (focus ((repeat (first | exact hE1 | (with_reducible refine Ext.trans ?_ heb) | apply Ext.drew | apply Ext.alloc | fail)); done)); rintro e w2 ⟨ga, ra, rfl, hfa, hea⟩)
        | (go_at_call 28; (with_reducible refine (Hmb.out _ ?_).mono ?_); (focus ((repeat (first | exact hE1 | (with_reducible refine Ext.trans ?_ hea) | apply Ext.drew | apply Ext.alloc | fail)); done)); rintro e w3 ⟨gb, rb, rfl, hfb, heb⟩)
        | fail)
    have ba := hfa.bd
    have bb' := hfb.bd
    have hs12 : w1.heap.size ≤ w2.heap.size := hea.size
    have hba : w1.heap.size ≤ ga ∧ w1.heap.size ≤ ra ∧ ga < w2.heap.size ∧ ra < w2.heap.size := ba
    have hbb : w2.heap.size ≤ gb ∧ w2.heap.size ≤ rb ∧ gb < w3.heap.size ∧ rb < w3.heap.size := bb'
    have he13 : Ext w1 w3 := ((Ext.refl _).drew.trans hea).trans heb
    have hF3 : Fils w3 w0.heap.size [(gf, rf, F), (ga, ra, Fa), (gb, rb, Fb)] := by
      intro x hx
      simp only [List.mem_cons, List.not_mem_nil, or_false] at hx
      rcases hx with rfl | rfl | rfl
      · exact hf.ext he13
      · exact (hfa.ext heb).mono he1.size
      · exact hfb.mono (Nat.le_trans he1.size hs12)
    have HF3 := Lib.hid hF3
    have hE3 := hE1.trans he13
    have HE3 := Lib.hid hE3
    clear hf hfa hfb hea heb hF3 hE3 he13 ba bb' hsl1 hsl2
    go_wp2_with fail
    refine (Hnew.out w3).mono ?_
    rintro e w4 ⟨gc, rc, rfl, hfc, hec⟩
    have hbc := hfc.bd
    go_wp2_with fail
    refine (Hnew.out w4).mono ?_
    rintro e w5 ⟨gd, rd, rfl, hfd, hed⟩
    have hbd := hfd.bd
    have hce := hec.trans hed
    have hfc5 := hfc.ext hed
    have hF5 : Fils w5 w0.heap.size [(gf, rf, F), (ga, ra, Fa), (gb, rb, Fb), (gd, rd, zeros n)] := by
      intro x hx
      simp only [List.mem_cons, List.not_mem_nil, or_false] at hx
      rcases hx with rfl | rfl | rfl | rfl
      · exact (HF3.out _ (by simp)).ext hce
      · exact (HF3.out _ (by simp)).ext hce
      · exact (HF3.out _ (by simp)).ext hce
      · exact hfd.mono (by have := hec.size; have := hbb.1; have := hba.1; have := he1.size; unfold Bd at *; omega)
    have HF5 := Lib.hid hF5
    have HE5 := Lib.hid (HE3.out.trans hce)
    have hs34 := hec.size
    have hs45 := hed.size
    have hs01 := he1.size
    have HFC := Lib.hid hfc5
    unfold Bd at bf hbc hbd
    clear hfc hfc5 hfd hF5 hce hec hed
    have hlen := Hlen1.out
    go_wp2_with fail
    go_loopw [14] (fun i wr => ∃ (j : Nat) (C : List Nat), j ≤ n1 ∧ i = .int .i64 ((j : Int) - 1) ∧ Fil wr w3.heap.size gc rc C ∧ Back (zeros n) (bodies ss1) j C ∧ Fils wr w0.heap.size [(gf, rf, F), (ga, ra, Fa), (gb, rb, Fb), (gd, rd, zeros n)] ∧ Ext w wr ∧ rd < wr.heap.size ∧ rc < wr.heap.size) (fun i _ => (intOf i + 1).toNat)
    case atStart => exact ⟨n1, zeros n, Nat.le_refl _, rfl, HFC.out, by rw [← hlen, ← bodies_len]; exact back_start (zeros_u8 n) _, HF5.out, HE5.out, hbd.2.2.2, by omega⟩
    case round =>
      obtain ⟨j, C, hj, rfl, hC, hB, hFs, hE, hsd, hsc⟩ := hrel
      by_cases hj0 : 0 < j
      · obtain ⟨j', rfl⟩ : ∃ j', j = j' + 1 := ⟨j - 1, by omega⟩
        have hji : ((j' + 1 : Nat) : Int) - 1 = (j' : Int) := by omega
        rw [hji]
        obtain ⟨b, o, s, rfl, hs, hcell0, hti0⟩ := Hx1.out.at_ (show j' < n1 by omega)
        have hbw := World.block_lt_of_cell? w _ hcell0
        have K : Hid (∀ w', Ext w w' → w'.cell? ⟨b, o + j', none⟩ = some (.slice s.A s.body.length s.c)) := Lib.hid (fun w' he => (Below.cell he (p := ⟨b, o + j', none⟩) hbw).trans hcell0)
        have hcell := K.out _ hE
        have hti := hti0.ext hE
        have hstep := back_step (ks := bodies ss1) (j := j') Hz0.out (by rw [bodies_len, hlen]; omega) hB
        rw [bodies_get hs] at hstep
        have hus := hti.u8
        have hl := hti.len
        have HC := Lib.hid hC
        have HFs := Lib.hid hFs
        have HE := Lib.hid hE
        have Hti := Lib.hid hti
        have Hti0 := Lib.hid hti0
        have Hstep := Lib.hid hstep
        have hwj : wrap64 ((j' : Int) - 1) = (j' : Int) - 1 := IntWalk.wrap64_in _ (by omega)
        have hjlt : (j' : Int) < (n1 : Int) := by omega
        have hjge : (0 : Int) ≤ (j' : Int) := by omega
        clear hC hB hFs hE hti hti0 hs hstep hji hcell0
        have HA := Lib.hid (fadd_any _ gc rc C (some ⟨wr.heap.size, 0, none⟩) 2 2 [s.body, s.body] (wr.alloc (.cells #[.slice s.A s.body.length s.c, .slice s.A s.body.length s.c] 23)).drew (HC.out.ext (((Ext.refl _).alloc _).drew)) (fun W hW => rdss_two 23 Hti.out.rd (Hti0.out.far (by omega)) Hti.out.rd (Hti0.out.far (by omega)) hsc rfl W ⟨hW.os, hW.tape, hW.output, hW.size, hW.block⟩) (by intro x hx; simp at hx; subst hx; exact hus) (by intro x hx; simp at hx; subst hx; omega) (by decide))
        go_wp2_with fail
        go_region_held3 (fun w' => w'.cell? ⟨b, o + j', none⟩ = some (.slice s.A s.body.length s.c)) (first | exact hcell | (focus (refine K.out _ ?_; (repeat (first | exact hE6 | exact HE.out | apply Ext.drew | apply Ext.alloc | fail)); done)) | fail)
          (first
            | (go_at_call 11; refine HA.out.mono ?_; rintro e w6 ⟨rfl, hf6, hg6⟩; have hE6 : Ext w w6 := grownBy_ext (by (repeat (first | exact HE.out | apply Ext.drew | apply Ext.alloc | fail))) hg6 (fun x e => by have e2 : rc = x := Option.some.inj e; omega))
            | fail)
        go_wp2_with fail
        go_roundw
        case rel =>
          refine ⟨j', addAll C [s.body, s.body], by omega, rfl, hf6, Hstep.out, (HFs.out.ext (((Ext.refl _).alloc _).drew)).grown hg6 (fun x hx => ?_), hE6, Nat.lt_of_lt_of_le (Nat.lt_of_lt_of_le hsd (by simp [World.drew])) hg6.size, Nat.lt_of_lt_of_le (Nat.lt_of_lt_of_le hsc (by simp [World.drew])) hg6.size⟩
          simp only [List.mem_cons, List.not_mem_nil, or_false] at hx
          rcases hx with rfl | rfl | rfl | rfl
          · exact ⟨by show gf ≠ rc; omega, by show rf ≠ rc; omega⟩
          · exact ⟨by show ga ≠ rc; omega, by show ra ≠ rc; omega⟩
          · exact ⟨by show gb ≠ rc; omega, by show rb ≠ rc; omega⟩
          · exact ⟨by show gd ≠ rc; omega, by show rd ≠ rc; omega⟩
        case measure => simp [intOf]
      · obtain rfl : j = 0 := by omega
        have hCF : C = F := (back_end Hz0.out (zeros_u8 n) hB).trans HF.out.symm
        rw [hCF] at hC
        have hdd : Fil wr w0.heap.size gd rd (zeros n) := hFs (gd, rd, zeros n) (by simp)
        have HD := Lib.hid (fadd_any _ gd rd (zeros n) A1 n1 c1 (bodies ss1) wr hdd (fun W hW => Hx1.out.rdss.ext (grownBy_ext hE hW (fun x e => by have e2 : rd = x := Option.some.inj e; omega))) Hx1.out.u8s (fun xs hxs => by obtain ⟨s, hs, rfl⟩ := List.mem_map.1 hxs; have := (Hx1.out.each s hs).len; omega) (by omega))
        rw [← HF.out] at HD
        have HC := Lib.hid hC
        have HFs := Lib.hid hFs
        have HE := Lib.hid hE
        clear hC hB hFs hE hCF hdd HFC HF5 HE5 HF3
        go_wp2_with fail
        refine HD.out.mono ?_
        rintro e w6 ⟨rfl, hf6, hg6⟩
        have hE6 : Ext w w6 := grownBy_ext HE.out hg6 (fun x e => by have e2 : rd = x := Option.some.inj e; omega)
        have hfs6 : Fils w6 w0.heap.size [(gf, rf, F), (ga, ra, Fa), (gb, rb, Fb), (gc, rc, F), (gd, rd, F)] := by
          intro x hx
          simp only [List.mem_cons, List.not_mem_nil, or_false] at hx
          rcases hx with rfl | rfl | rfl | rfl | rfl
          · exact (HFs.out (gf, rf, F) (by simp)).grown hg6 (fun e => by have e2 : gf = rd := Option.some.inj e; omega) (fun e => by have e2 : rf = rd := Option.some.inj e; omega)
          · exact (HFs.out (ga, ra, Fa) (by simp)).grown hg6 (fun e => by have e2 : ga = rd := Option.some.inj e; omega) (fun e => by have e2 : ra = rd := Option.some.inj e; omega)
          · exact (HFs.out (gb, rb, Fb) (by simp)).grown hg6 (fun e => by have e2 : gb = rd := Option.some.inj e; omega) (fun e => by have e2 : rb = rd := Option.some.inj e; omega)
          · exact (HC.out.grown hg6 (fun e => by have e2 : gc = rd := Option.some.inj e; omega) (fun e => by have e2 : rc = rd := Option.some.inj e; omega)).mono (by omega)
          · exact hf6
        have HS6 := Lib.hid hfs6
        have HE6 := Lib.hid hE6
        have hlt6 : gf < w6.heap.size ∧ rf < w6.heap.size ∧ ga < w6.heap.size ∧ ra < w6.heap.size ∧ gb < w6.heap.size ∧ rb < w6.heap.size ∧ gc < w6.heap.size ∧ rc < w6.heap.size ∧ gd < w6.heap.size ∧ rd < w6.heap.size :=
          ⟨(hfs6 (gf, rf, F) (by simp)).glt, (hfs6 (gf, rf, F) (by simp)).rlt.2, (hfs6 (ga, ra, Fa) (by simp)).glt, (hfs6 (ga, ra, Fa) (by simp)).rlt.2, (hfs6 (gb, rb, Fb) (by simp)).glt, (hfs6 (gb, rb, Fb) (by simp)).rlt.2, (hfs6 (gc, rc, F) (by simp)).glt, (hfs6 (gc, rc, F) (by simp)).rlt.2, (hfs6 (gd, rd, F) (by simp)).glt, (hfs6 (gd, rd, F) (by simp)).rlt.2⟩
        clear hf6 hg6 hE6 hfs6 HD HC HFs HE
        go_wp2_with fail
        refine (encode_any _ ga ra Fa w6 (HS6.out (ga, ra, Fa) (by simp))).mono ?_
        rintro e w7 ⟨Aw, cw, rfl, howas, he7⟩
        have HW7 := Lib.hid howas
        have Hblw := Lib.hid howas.block
        have hs67 := he7.size
        have HS7 := Lib.hid (HS6.out.ext he7)
        have HE7 := Lib.hid (HE6.out.trans he7)
        clear howas he7
        go_wp2_with fail
        refine (new_any m w7 h5 h6).mono ?_
        rintro e w8 ⟨go, ro, rfl, hfo, heo⟩
        have hbo := hfo.bd
        unfold Bd at hbo
        have hs78 := heo.size
        have HS8 := Lib.hid (HS7.out.ext heo)
        have HE8 := Lib.hid (HE7.out.trans heo)
        have HW8 := Lib.hid (HW7.out.ext heo)
        obtain ⟨Zm, hZm⟩ : ∃ Z, Z = zeros m := ⟨_, rfl⟩
        have hzm : List.replicate (newLen m) 0 = Zm := hZm.symm
        rw [hzm] at hfo
        have hlm : Zm.length = newLen m := by rw [hZm, zeros_len]
        have hcm0 : countF Zm = 0 := by rw [hZm, count_zeros]
        obtain ⟨Mm, hMm⟩ : ∃ M, M = 8 * newLen m := ⟨_, rfl⟩
        obtain ⟨Mn, hMn⟩ : ∃ M, M = 8 * newLen n := ⟨_, rfl⟩
        have HNm : Hid (∀ W, Calls Try.prog 9 #[.int .i64 m] W fun e w' => ∃ A' c', e = .returned (.slice A' Mm c') ∧ Ext W w') := Lib.hid (fun W => (refNew_any m W h5 h6).mono fun e w' ⟨A', c', h, _, he⟩ => ⟨A', c', by rw [h, hMm], he⟩)
        have HNn : Hid (∀ W, Calls Try.prog 9 #[.int .i64 n] W fun e w' => ∃ A' c', e = .returned (.slice A' Mn c') ∧ Ext W w') := Lib.hid (fun W => (refNew_any n W h1 h2).mono fun e w' ⟨A', c', h, _, he⟩ => ⟨A', c', by rw [h, hMn], he⟩)
        have Hfo := Lib.hid hfo
        have HMm := Lib.hid hMm
        have HMn := Lib.hid hMn
        have Hlm := Lib.hid hlm
        have Hcm := Lib.hid hcm0
        clear hfo heo hZm hzm hlm hcm0 hMm hMn
        go_wp2_with fail
        by_cases hmn : Mm = Mn
        have hmm2 := hmn.symm
        subst hmm2
        have hll : Zm.length = Fb.length := by have e1 := HMm.out; have e2 := HMn.out; rw [Hlm.out, HlFb.out]; omega
        refine (merge_yes _ go ro _ gb rb Zm Fb w8 Hfo.out (HS8.out (gb, rb, Fb) (by simp)) hll (by omega) (by omega)).mono ?_
        rintro e w9 ⟨rfl, _, hg9⟩
        have HS9 : Hid (Fils w9 w0.heap.size [(gf, rf, F), (ga, ra, Fa), (gb, rb, Fb), (gc, rc, F), (gd, rd, F)]) := Lib.hid (HS8.out.grown hg9 (fun x hx => by
          simp only [List.mem_cons, List.not_mem_nil, or_false] at hx
          rcases hx with rfl | rfl | rfl | rfl | rfl
          · exact ⟨by show gf ≠ ro; omega, by show rf ≠ ro; omega⟩
          · exact ⟨by show ga ≠ ro; omega, by show ra ≠ ro; omega⟩
          · exact ⟨by show gb ≠ ro; omega, by show rb ≠ ro; omega⟩
          · exact ⟨by show gc ≠ ro; omega, by show rc ≠ ro; omega⟩
          · exact ⟨by show gd ≠ ro; omega, by show rd ≠ ro; omega⟩))
        have HE9 : Hid (Ext w w9) := Lib.hid (grownBy_ext HE8.out hg9 (fun x e => by have e2 : ro = x := Option.some.inj e; omega))
        have HW9 := Lib.hid (HW8.out.grown hg9 (fun a ha e => by have e2 : a.block = ro := Option.some.inj e; have := (Hblw.out a ha).2; omega))
        have hs89 : w8.heap.size ≤ w9.heap.size := hg9.size
        clear hg9
        go_wp2_with fail
        refine (HNm.out _).mono ?_
        rintro e wa ⟨Aa, ca, rfl, hea⟩
        go_wp2_with fail
        refine (HNn.out _).mono ?_
        rintro e wb ⟨Ab, cb, rfl, heb⟩
        have heab := hea.trans heb
        go_wp2_with fail
        rotate_left
        have hnl : Zm.length ≠ Fb.length := by have e1 := HMm.out; have e2 := HMn.out; rw [Hlm.out, HlFb.out]; omega
        refine (merge_no _ go ro _ gb rb Zm Fb w8 Hfo.out (HS8.out (gb, rb, Fb) (by simp)) hnl).mono ?_
        rintro e w9 ⟨rfl, he9⟩
        have HS9 := Lib.hid (HS8.out.ext he9)
        have HE9 := Lib.hid (HE8.out.trans he9)
        have HW9 := Lib.hid (HW8.out.ext he9)
        have hs89 := he9.size
        have hbeq : ((Mm : Int) == (Mn : Int)) = false := beq_eq_false_iff_ne.2 (by omega)
        go_wp2_with fail
        refine (HNm.out _).mono ?_
        rintro e wa ⟨Aa, ca, rfl, hea⟩
        go_wp2_with fail
        refine (HNn.out _).mono ?_
        rintro e wb ⟨Ab, cb, rfl, heb⟩
        have heab := hea.trans heb
        have HCt := Lib.hid (count_any _ go ro Zm wb ((Hfo.out.ext he9).ext heab))
        rw [Hcm.out] at HCt
        go_wp2_with fail
        refine HCt.out.mono ?_
        rintro e wc ⟨rfl, rfl⟩
        go_wp2_with fail
        rotate_left
        all_goals
          have HSb := Lib.hid (HS9.out.ext heab)
          have HEb := Lib.hid (HE9.out.trans heab)
          have HWb := Lib.hid (HW9.out.ext heab)
          have hsb := heab.size
          refine (merge_yes _ gb rb _ ga ra Fb Fa wb (HSb.out (gb, rb, Fb) (by simp)) (HSb.out (ga, ra, Fa) (by simp)) (by rw [HlFb.out, HlFa.out]) (by omega) (by omega)).mono ?_
          rintro e wd ⟨rfl, hfbd, hgd⟩
          rw [Hmc.out] at hfbd
          have HSd : Hid (Fils wd w0.heap.size [(gf, rf, F), (ga, ra, Fa), (gb, rb, F), (gc, rc, F), (gd, rd, F)]) := Lib.hid (by
            intro x hx
            simp only [List.mem_cons, List.not_mem_nil, or_false] at hx
            rcases hx with rfl | rfl | rfl | rfl | rfl
            · exact (HSb.out (gf, rf, F) (by simp)).grown hgd (fun e => by have e2 : gf = rb := Option.some.inj e; omega) (fun e => by have e2 : rf = rb := Option.some.inj e; omega)
            · exact (HSb.out (ga, ra, Fa) (by simp)).grown hgd (fun e => by have e2 : ga = rb := Option.some.inj e; omega) (fun e => by have e2 : ra = rb := Option.some.inj e; omega)
            · exact hfbd
            · exact (HSb.out (gc, rc, F) (by simp)).grown hgd (fun e => by have e2 : gc = rb := Option.some.inj e; omega) (fun e => by have e2 : rc = rb := Option.some.inj e; omega)
            · exact (HSb.out (gd, rd, F) (by simp)).grown hgd (fun e => by have e2 : gd = rb := Option.some.inj e; omega) (fun e => by have e2 : rd = rb := Option.some.inj e; omega))
          have HEd : Hid (Ext w wd) := Lib.hid (grownBy_ext HEb.out hgd (fun x e => by have e2 : rb = x := Option.some.inj e; omega))
          have HWd := Lib.hid (HWb.out.grown hgd (fun a ha e => by have e2 : a.block = rb := Option.some.inj e; have := (Hblw.out a ha).1; omega))
          clear hfbd hgd
          have hlo := newLen_lo n
          have hhi := newLen_hi n
          have hvs := vsize_le (u := newLen n) (by omega)
          have heF : (encF F).length ≤ 5134 := by rw [encF_len, HlF.out]; omega
          have heFa : (encF Fa).length ≤ 5134 := by rw [encF_len, HlFa.out]; omega
          obtain ⟨XF, hXF⟩ : ∃ X, X = encF F := ⟨_, rfl⟩
          obtain ⟨NF, hNF⟩ : ∃ N, N = XF.length := ⟨_, rfl⟩
          obtain ⟨XA, hXA⟩ : ∃ X, X = encF Fa := ⟨_, rfl⟩
          obtain ⟨NA, hNA⟩ : ∃ N, N = XA.length := ⟨_, rfl⟩
          have HEn : Hid (∀ g r W, Fil W w0.heap.size g r F → Calls Try.prog 23 #[.pointer (some ⟨g, 0, none⟩)] W fun e w' => ∃ A' c', e = .returned (.slice A' NF c') ∧ Own .u8 5 w' W.heap.size A' c' XF ∧ Ext W w') := Lib.hid (fun g r W h => by
            have := encode_any _ g r F W h
            rw [← hXF, ← hNF] at this
            exact this)
          have HEa : Hid (∀ W, Fil W w0.heap.size ga ra Fa → Calls Try.prog 23 #[.pointer (some ⟨ga, 0, none⟩)] W fun e w' => ∃ A' c', e = .returned (.slice A' NA c') ∧ Own .u8 5 w' W.heap.size A' c' XA ∧ Ext W w') := Lib.hid (fun W h => by
            have := encode_any _ ga ra Fa W h
            rw [← hXA, ← hNA] at this
            exact this)
          have HMo : Hid (∀ W, Ext w W → Calls Try.prog 30 #[.int .i64 n, .slice A1 n1 c1] W fun e w' => ∃ A' c', e = .returned (.slice A' Mn c') ∧ RdG shB w' A' Mn (bb F) ∧ Ext W w') := Lib.hid (fun W hW => by
            refine (model_any n A1 n1 c1 ss1 W h1 h2 (Hx1.out.ext hW) hn1).mono ?_
            rintro e w' ⟨A', c', rfl, ho, he⟩
            refine ⟨A', c', by rw [HMn.out], ?_, he⟩
            have := ho.rd
            rw [bb_len, addAll_len, zeros_len, ← HMn.out, ← HF.out] at this
            exact this)
          have hFu : U8 F := by rw [HF.out]; exact addAll_u8 _ (zeros_u8 n)
          have HRe : Hid (∀ A c W, RdG shB W A Mn (bb F) → Calls Try.prog 24 #[.slice A Mn c] W fun e w' => ∃ A' c', e = .returned (.slice A' NF c') ∧ Own .u8 5 w' W.heap.size A' c' XF ∧ Ext W w') := Lib.hid (fun A c W h => by
            have hMF : Mn = 8 * F.length := by rw [HMn.out, HlF.out]
            have := refEncode_any A c F W (by rw [← hMF]; exact h) hFu (by rw [HlF.out]; exact hlo) (by rw [HlF.out]; exact hhi)
            rw [← hMF] at this
            unfold EncPost at this
            rw [← hXF, ← hNF] at this
            exact this)
          rw [← hXF, ← hNF] at heF
          rw [← hXA] at heFa HWd ⊢
          rw [← hNA] at heFa ⊢
          have HNF := Lib.hid hNF
          have HNA := Lib.hid hNA
          clear hXF hNF hXA hNA hFu hlo hhi hvs
          go_wp2_with fail
          refine (HEa.out _ (HSd.out (ga, ra, Fa) (by simp))).mono ?_
          rintro e we ⟨Ae, ce, rfl, hoe, hee⟩
          go_wp2_with fail
          refine (same_yes (hoe.rd' HNA.out.symm) ((HWd.out.ext hee).rd' HNA.out.symm) (by omega)).mono ?_
          rintro e wf ⟨rfl, qf, rfl⟩
          have HSf := Lib.hid (HSd.out.ext (hee.trans ((Ext.refl _).drewN qf)))
          have HEf := Lib.hid (HEd.out.trans (hee.trans ((Ext.refl _).drewN qf)))
          clear hoe hee
          go_wp2_with fail
          refine (HEn.out gf rf _ (HSf.out (gf, rf, F) (by simp))).mono ?_
          rintro e wg ⟨Ag, cg, rfl, hog, heg⟩
          have HOg := Lib.hid hog
          go_wp2_with fail
          refine (HEn.out gb rb _ ((HSf.out.ext heg) (gb, rb, F) (by simp))).mono ?_
          rintro e wh ⟨Ah, ch, rfl, hoh, heh⟩
          go_wp2_with fail
          refine (same_yes (hoh.rd' HNF.out.symm) ((HOg.out.ext heh).rd' HNF.out.symm) (by omega)).mono ?_
          rintro e wi ⟨rfl, qi, rfl⟩
          have hgi := heh.trans ((Ext.refl _).drewN qi)
          go_wp2_with fail
          refine (HEn.out gc rc _ ((HSf.out.ext (heg.trans hgi)) (gc, rc, F) (by simp))).mono ?_
          rintro e wj ⟨Aj, cj, rfl, hoj, hej⟩
          go_wp2_with fail
          refine (same_yes (hoj.rd' HNF.out.symm) ((HOg.out.ext (hgi.trans hej)).rd' HNF.out.symm) (by omega)).mono ?_
          rintro e wk ⟨rfl, qk, rfl⟩
          have hgk := (hgi.trans hej).trans ((Ext.refl _).drewN qk)
          go_wp2_with fail
          refine (HEn.out gd rd _ ((HSf.out.ext (heg.trans hgk)) (gd, rd, F) (by simp))).mono ?_
          rintro e wl ⟨Al, cl, rfl, hol, hel⟩
          go_wp2_with fail
          refine (same_yes (hol.rd' HNF.out.symm) ((HOg.out.ext (hgk.trans hel)).rd' HNF.out.symm) (by omega)).mono ?_
          rintro e wm ⟨rfl, qm, rfl⟩
          have hgm := (hgk.trans hel).trans ((Ext.refl _).drewN qm)
          go_wp2_with fail
          refine (HMo.out _ (HEf.out.trans (heg.trans hgm))).mono ?_
          rintro e wn ⟨An, cn, rfl, hrn, hen⟩
          go_wp2_with fail
          refine (HRe.out _ _ _ hrn).mono ?_
          rintro e wo ⟨Ao, co, rfl, hoo, heo2⟩
          go_wp2_with fail
          refine (same_yes ((HOg.out.ext ((hgm.trans hen).trans heo2)).rd' HNF.out.symm) (hoo.rd' HNF.out.symm) (by omega)).mono ?_
          rintro e wp ⟨rfl, qp, rfl⟩
          go_wp2_with fail
          go_ret
          exact ⟨rfl, (HEf.out.trans (heg.trans ((hgm.trans hen).trans heo2))).trans ((Ext.refl _).drewN qp)⟩

end Go.Proofs.Ytgmjpilinhmjoaa
