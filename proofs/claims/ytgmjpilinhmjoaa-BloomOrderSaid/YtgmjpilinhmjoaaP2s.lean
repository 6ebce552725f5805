/-
  The program's layer 3: a sum in four bytes; bytes sealed.
-/
import Derived.Test.YtgmjpilinhmjoaaP1s
import Derived.Test.YtgmjpilinhmjoaaCTp
import Derived.Test.YtgmjpilinhmjoaaS2s
import Derived.Lib.AppendZeros
import Derived.Laws.CopyOwn
import Derived.Deep.RegionLaw
import Derived.Deep.WholeRow
import Derived.Stop.BytesEq
namespace Go.Proofs.Ytgmjpilinhmjoaa
open Go.RowKit
set_option maxRecDepth 100000

theorem four_upk (s : Nat) : upk 8 4 s = [s % 256, s / 256 % 256, s / 65536 % 256, s / 16777216 % 256] := by
  simp only [upk, Nat.div_div_eq_div_mul]

/-- A sum in four bytes, as an array. -/
def FourPost (s : Nat) (w : World) (e : Ending) (w' : World) : Prop :=
  ∃ a b c d : Nat, upk 8 4 s = [a, b, c, d] ∧ e = .returned (.agg #[.int .u8 (a : Int), .int .u8 (b : Int), .int .u8 (c : Int), .int .u8 (d : Int)]) ∧ Ext w w'

theorem written_any (s : Nat) (w : World) (hs : s < 4294967296) : Calls Try.prog 49 #[.int .u32 (s : Int)] w (FourPost s w) := by
  have hd : s / 16777216 % 256 = s / 16777216 := by omega
  have H := Lib.hid ((four_upk s).trans (by rw [hd]))
  clear hd
  go_enter Try.func49, Try.ntmps49
  go_wp2
  refine bodyPost_ret (v := .agg #[.int .u8 ((s % 256 : Nat) : Int), .int .u8 ((s / 256 % 256 : Nat) : Int), .int .u8 ((s / 65536 % 256 : Nat) : Int), .int .u8 ((s / 16777216 : Nat) : Int)]) (by simp [results, Try.results49, go_sem]) rfl ?_
  exact ⟨_, _, _, _, H.out, rfl, (Ext.refl w).alloc _⟩

set_option maxHeartbeats 400000 in
theorem seal_any (A : Option Addr) (n c : Nat) (bs : List Nat) (w : World) (hx : Rd .u8 w A n bs) (hu : U8 bs) (hn : n + 4 ≤ 180000000000000) :
    Calls Try.prog 36 #[.slice A n c] w fun e w' => ∃ A' c', e = .returned (.slice A' (n + 4 : Nat) c') ∧ Own .u8 5 w' w.heap.size A' c' (sl bs) ∧ Ext w w' := by
  have hcr := crc_lt hu
  have hl := hx.len
  have hf1 : [bs].flatten = bs := by simp
  have H1 := RdSS.one 23 w (c := c) rfl hx
  have hl2 : ∀ xs ∈ [bs], xs.length ≤ 180000000000000 := by intro v hv; simp at hv; subst hv; omega
  have Hf1 := Lib.hid hf1
  have HH1 := Lib.hid H1
  have Hl2 := Lib.hid hl2
  clear hf1 H1 hl2 hl
  go_enter Try.func36, Try.ntmps36
  go_wp2_with fail
  refine (sum_any _ _ _ [bs] _ HH1.out (fun v hv => by simp at hv; subst hv; exact hu) Hl2.out (by omega)).mono ?_
  rintro e w1 ⟨rfl, rfl⟩
  rw [Hf1.out]
  go_wp2_with fail
  refine (written_any _ _ hcr).mono ?_
  rintro e w2 ⟨a, b, c', d, hf, rfl, he2⟩
  have h4 := Rd.lit_at .u8 73 w2 [a, b, c', d] rfl (n := 4) rfl
  have hxw := (((hx.ext ((Ext.refl w).alloc (.cells #[.slice A n c] 23))).ext he2).ext ((Ext.refl w2).alloc (.cells #[.int .u8 (a : Int), .int .u8 (b : Int), .int .u8 (c' : Int), .int .u8 (d : Int)] 73)))
  have H2 := Lib.hid (RdSS.two 23 (b := w2.heap.size + 1) (c := c) (c2 := 4) _ (by simp) hxw h4)
  have hE := ((Ext.refl w).alloc (.cells #[.slice A n c] 23)).trans he2
  have hlen : [bs, [a, b, c', d]].flatten.length = n + 4 := by simp [hx.len]
  have hfl : [bs, [a, b, c', d]].flatten = sl bs := by simp [sl, hf]
  have Hlen := Lib.hid hlen
  have Hfl := Lib.hid hfl
  clear hf h4 hxw hlen hfl HH1 Hl2 he2
  go_wp2_with fail
  refine (concat_any _ _ _ [bs, [a, b, c', d]] _ H2.out (by rw [Hlen.out]; exact hn) (by omega)).mono ?_
  rintro e w3 ⟨A3, c3, rfl, hown3, he3⟩
  rw [Hfl.out] at hown3
  rw [Hlen.out]
  have hE2 := hE.trans (((Ext.refl w2).alloc _).alloc _) |>.trans he3
  have hsz := hE.size
  go_wp2_with fail
  go_ret
  exact ⟨_, _, rfl, hown3.mono (by simp; omega), hE2⟩

theorem sld_four {bs : List Nat} {m : Nat} {a b c d x y z t : Nat} (hl : bs.length = m + 4) (hd : bs.drop m = [x, y, z, t]) (hu : U8 bs) (hf : upk 8 4 (crc (bs.take m)) = [a, b, c, d]) :
    sld bs ↔ (x = a ∧ y = b ∧ z = c ∧ t = d) := by
  have hs := sld_split (t := bs.take m) (q := bs.drop m) (by rw [List.length_drop]; omega)
  rw [List.take_append_drop] at hs
  have hq := upk_pk (U8_wd.1 (u8_drop hu m))
  have hdl : (bs.drop m).length = 4 := by rw [List.length_drop]; omega
  rw [hdl] at hq
  have hcr := crc_lt (u8_take hu m)
  rw [hs]
  constructor
  · intro h
    rw [h, hf, hd] at hq
    simp at hq
    exact ⟨hq.1.symm, hq.2.1.symm, hq.2.2.1.symm, hq.2.2.2.symm⟩
  · rintro ⟨rfl, rfl, rfl, rfl⟩
    rw [hd, ← hf, pk_upk]
    exact Nat.mod_eq_of_lt hcr

/-- 'copy(row[:], s)' in a region that draws, the row an array that the call has just laid: behind it the array holds the cells. -/
theorem step_copy_new {P : Program} {ops : Array Oper} {o : Oper} {a : Act} {w : World} {K : Act → World → Prop} {Q : Exit → Act → World → Prop} {E : Prop} (hgd : o.guard = none) (d s : Operand) (dT sT : TypeId)
    (ho : o.op = .call { callee := .builtin .copy, args := #[d, s], argTypes := #[dT, sT] }) (elem : TypeId) (hu : P.underlying dT = some (.slice elem)) (hsz : (P.info? elem).map (·.size) = some 1)
    (old : Array Value) (T : TypeId) (ad : Addr) (dLen dCap sLen sCap : Nat) (cs : List Value) (hd : a.eval d = .slice (some ⟨w.heap.size, 0, none⟩) dLen dCap) (hs : a.eval s = .slice (some ad) sLen sCap)
    (hold : old.size = cs.length) (hn : cs.length = Nat.min sLen dLen) (hsrc : ∀ j v, cs[j]? = some v → (w.alloc (.cells old T)).drew.cell? (ad.add j) = some v) (h1 : ∀ v ∈ cs, v.oneCell' = true)
    (h : K (a.put o.dst (goInt cs.length)) (w.alloc (.cells cs.toArray T)).drew) :
    if Region.wanted o (yielded ops a.tmps) = true then Oper.wp P o a (w.alloc (.cells old T)).drew K Q else E := by
  have hw : Region.wanted o (yielded ops a.tmps) = true := by simp [Region.wanted, hgd]
  rw [if_pos hw]
  have hrun := run_copy_row (P := P) (w.alloc (.cells old T)).drew dT sT o.type elem w.heap.size 0 dLen dCap ad sLen sCap old T cs hu hsz (heap_alloc_new w _) hn hsrc (by omega) h1
  have hrow : (old.toList.take 0 ++ cs ++ old.toList.drop (0 + cs.length)).toArray = cs.toArray := by
    rw [List.take_zero, List.nil_append, List.drop_eq_nil_of_le (by rw [Array.length_toList]; omega), List.append_nil]
  have hset : (w.alloc (.cells old T)).drew.setRow w.heap.size cs.toArray = (w.alloc (.cells cs.toArray T)).drew := by
    rw [← World.setRow_alloc_new w old cs.toArray T]
    rfl
  rw [hrow, hset] at hrun
  unfold Oper.wp
  simp [execOp, ho, resolve, invoke, builtin, hd, hs, hrun, Result.andThen]
  exact h

theorem cell_nat {x : Nat} (h : x < 256) : Extern.Stop.cell (UInt8.ofNat x) = Value.int .u8 (x : Int) := by
  have : (UInt8.ofNat x).toNat = x := by rw [UInt8.toNat_ofNat']; exact Nat.mod_eq_of_lt h
  simp [Extern.Stop.cell, this]
theorem eq4 {x y z t a b c d : Nat} (hx : U8 [x, y, z, t]) (ha : U8 [a, b, c, d]) (w : World) :
    (Op.equalIn 10000 73 (.agg #[.int .u8 (x : Int), .int .u8 (y : Int), .int .u8 (z : Int), .int .u8 (t : Int)]) (.agg #[.int .u8 (a : Int), .int .u8 (b : Int), .int .u8 (c : Int), .int .u8 (d : Int)])).run Try.prog w =
      .ok (decide (x = a) && (decide (y = b) && (decide (z = c) && decide (t = d)))) w := by
  have h := run_equalIn_bytes (P := Try.prog) w 9998 73 5 4 Try.underlying73 Try.underlying5 (fun w => by kernel_rfl) [UInt8.ofNat x, UInt8.ofNat y, UInt8.ofNat z, UInt8.ofNat t] [UInt8.ofNat a, UInt8.ofNat b, UInt8.ofNat c, UInt8.ofNat d] rfl rfl
  have hx0 := hx x (by simp)
  have hx1 := hx y (by simp)
  have hx2 := hx z (by simp)
  have hx3 := hx t (by simp)
  have ha0 := ha a (by simp)
  have ha1 := ha b (by simp)
  have ha2 := ha c (by simp)
  have ha3 := ha d (by simp)
  simp only [List.map_cons, List.map_nil, cell_nat hx0, cell_nat hx1, cell_nat hx2, cell_nat hx3, cell_nat ha0, cell_nat ha1, cell_nat ha2, cell_nat ha3] at h
  refine h.trans (congrArg (fun t => Result.ok t w) ?_)
  have hi : ∀ {p q : Nat}, p < 256 → q < 256 → (UInt8.ofNat p = UInt8.ofNat q ↔ p = q) := by
    intro p q hp hq
    rw [← UInt8.toNat_inj, UInt8.toNat_ofNat', UInt8.toNat_ofNat', Nat.mod_eq_of_lt hp, Nat.mod_eq_of_lt hq]
  rw [Bool.eq_iff_iff]
  simp [hi hx0 ha0, hi hx1 ha1, hi hx2 ha2, hi hx3 ha3]

theorem four_cells {w : World} {g : Nat} {x y z t : Value} {T : TypeId} (h : w.heap[g]? = some (.cells #[x, y, z, t] T)) :
    w.cell? ⟨g, 0, none⟩ = some x ∧ w.cell? ⟨g, 1, none⟩ = some y ∧ w.cell? ⟨g, 2, none⟩ = some z ∧ w.cell? ⟨g, 3, none⟩ = some t :=
  ⟨cell_of_row w g 0 _ T (0, 0) h, cell_of_row w g 1 _ T (0, 0) h, cell_of_row w g 2 _ T (0, 0) h, cell_of_row w g 3 _ T (0, 0) h⟩

set_option maxHeartbeats 800000 in
theorem sealed_any (A : Option Addr) (n c : Nat) (bs : List Nat) (w : World) (hx : Rd .u8 w A n bs) (hu : U8 bs) (hn : n ≤ 180000000000000) (hc : n ≤ c) (_hcm : c ≤ 9223372036854775807) :
    Calls Try.prog 42 #[.slice A n c] w fun e w' => e = .returned (.bool (decide (sld bs))) ∧ Ext w w' := by
  have hl := hx.len
  by_cases h4 : 4 ≤ n
  · obtain ⟨m, rfl⟩ : ∃ m, n = m + 4 := ⟨n - 4, by omega⟩
    obtain ⟨b, o, rfl, hbl, hcell⟩ := hx.2 (by omega)
    have c0 := hcell m (by omega)
    have c1 := hcell (m + 1) (by omega)
    have c2 := hcell (m + 2) (by omega)
    have c3 := hcell (m + 3) (by omega)
    obtain ⟨x, hxx⟩ : ∃ x, x = bs.getD m 0 := ⟨_, rfl⟩
    obtain ⟨y, hyy⟩ : ∃ x, x = bs.getD (m + 1) 0 := ⟨_, rfl⟩
    obtain ⟨z, hzz⟩ : ∃ x, x = bs.getD (m + 2) 0 := ⟨_, rfl⟩
    obtain ⟨t, htt⟩ : ∃ x, x = bs.getD (m + 3) 0 := ⟨_, rfl⟩
    rw [← hxx] at c0
    rw [← hyy] at c1
    rw [← hzz] at c2
    rw [← htt] at c3
    have Hxx := Lib.hid hxx
    have Hyy := Lib.hid hyy
    have Hzz := Lib.hid hzz
    have Htt := Lib.hid htt
    have Hcell := Lib.hid hcell
    have Hone : Hid (∀ v ∈ [Value.int .u8 (x : Int), .int .u8 (y : Int), .int .u8 (z : Int), .int .u8 (t : Int)], v.oneCell' = true) := Lib.hid (by intro v hv; simp at hv; rcases hv with rfl | rfl | rfl | rfl <;> rfl)
    have Hsrc := Lib.hid (show ∀ (j : Nat) (v : Value), [Value.int .u8 (x : Int), .int .u8 (y : Int), .int .u8 (z : Int), .int .u8 (t : Int)][j]? = some v → (w.alloc (.cells #[.int .u8 0, .int .u8 0, .int .u8 0, .int .u8 0] 73)).drew.cell? ((⟨b, o + m, none⟩ : Addr).add j) = some v from by
      intro j v hj
      have he : Ext w (w.alloc (.cells #[.int .u8 0, .int .u8 0, .int .u8 0, .int .u8 0] 73)).drew := ((Ext.refl w).alloc _).drew
      rw [show (⟨b, o + m, none⟩ : Addr).add j = ⟨b, o + (m + j), none⟩ from by simp [Addr.add, Nat.add_assoc], Below.cell he (p := ⟨b, o + (m + j), none⟩) hbl]
      match j, hj with
      | 0, hj => simp at hj; subst hj; exact c0
      | 1, hj => simp at hj; subst hj; exact c1
      | 2, hj => simp at hj; subst hj; exact c2
      | 3, hj => simp at hj; subst hj; exact c3
      | j + 4, hj => simp at hj)
    have hf1 : [bs.take m].flatten = bs.take m := by simp
    have hl2 : ∀ xs ∈ [bs.take m], xs.length ≤ 180000000000000 := by intro v hv; simp at hv; subst hv; rw [List.length_take]; omega
    have hrd : Rd .u8 (w.alloc (.cells #[.int .u8 (x : Int), .int .u8 (y : Int), .int .u8 (z : Int), .int .u8 (t : Int)] 73)) (some ⟨b, o, none⟩) m (bs.take m) :=
      ⟨by rw [List.length_take, hl]; omega, fun _ => ⟨b, o, rfl, by simp; omega, fun j hj => by
        have := hcell j (by omega)
        rw [show (bs.take m).getD j 0 = bs.getD j 0 from by simp [List.getD, hj], Below.cell ((Ext.refl w).alloc _) (p := ⟨b, o + j, none⟩) hbl]
        exact this⟩⟩
    have H1 := Lib.hid (RdSS.one 23 (b := w.heap.size + 1) (c := c) _ (by simp) hrd)
    have HU : Hid (U8s [bs.take m]) := Lib.hid (fun v hv => by simp at hv; subst hv; exact u8_take hu m)
    have Hcr := Lib.hid (crc_lt (u8_take hu m))
    have Hf1 := Lib.hid hf1
    have Hl2 := Lib.hid hl2
    clear hf1 hl2 hrd
    have Hu4 : Hid (U8 [x, y, z, t]) := Lib.hid (by
      intro v hv
      simp at hv
      rcases hv with rfl | rfl | rfl | rfl
      · rw [Hxx.out]; exact hu.at_ _
      · rw [Hyy.out]; exact hu.at_ _
      · rw [Hzz.out]; exact hu.at_ _
      · rw [Htt.out]; exact hu.at_ _)
    have Hdr : Hid (bs.drop m = [x, y, z, t]) := Lib.hid (by
      apply List.ext_getElem
      · rw [List.length_drop, hl]; simp
      · intro j h1 h2
        have h3 : j < 4 := h2
        have h4 : m + j < bs.length := by omega
        rw [List.getElem_drop]
        have hg : ∀ i, (hi : i < bs.length) → bs[i] = bs.getD i 0 := fun i hi => by simp [List.getD, hi]
        rw [hg _ h4]
        rcases (show j = 0 ∨ j = 1 ∨ j = 2 ∨ j = 3 by omega) with rfl | rfl | rfl | rfl
        · exact Hxx.out.symm
        · exact Hyy.out.symm
        · exact Hzz.out.symm
        · exact Htt.out.symm)
    have Hll := Lib.hid hl
    have hmm : (m : Int) ≤ (m : Int) + 4 := by omega
    have hcne : ¬ c = m := by omega
    clear hxx hyy hzz htt hcell hl c0 c1 c2 c3
    go_enter Try.func42, Try.ntmps42
    go_wp2_with fail
    go_region_law (refine step_copy_new rfl (.tmp 10) (.tmp 13) 23 23 rfl 5 Try.underlying23 (by kernel_rfl) #[.int .u8 0, .int .u8 0, .int .u8 0, .int .u8 0] 73 ⟨b, o + m, none⟩ 4 4 4 (c - m) [.int .u8 (x : Int), .int .u8 (y : Int), .int .u8 (z : Int), .int .u8 (t : Int)] rfl rfl rfl rfl Hsrc.out Hone.out ?_)
    go_wp2_with fail
    go_region_with (first
      | (go_at_call 50; refine (sum_any _ _ _ [bs.take m] _ ?_ HU.out Hl2.out (by omega)).mono ?_; exact H1.out; rintro e w1 ⟨rfl, rfl⟩; rw [Hf1.out])
      | (go_at_call 49; refine (written_any _ _ Hcr.out).mono ?_; rintro e w3 ⟨a', b', c', d', hf, rfl, he⟩; obtain ⟨k0, k1, k2, k3⟩ := four_cells ((he.block w.heap.size (by simp; omega)).trans (heap_alloc2_old w _ _)); have heq := eq4 Hu4.out (hf ▸ U8_wd.2 (upk_wd _ _ _)); have Hf := Lib.hid hf; have He := Lib.hid he; clear hf he))
    all_goals
      go_wp2_with fail
      go_ret
      refine ⟨?_, Ext.trans (by repeat (first | exact Ext.refl _ | apply Ext.drew | apply Ext.alloc)) He.out⟩
      rw [show decide (sld bs) = (decide (x = a') && (decide (y = b') && (decide (z = c') && decide (t = d')))) from by rw [Bool.eq_iff_iff]; simpa using sld_four Hll.out Hdr.out hu Hf.out]
      rfl
  · have hf : ¬ sld bs := fun h => by have := h.1; omega
    rw [decide_eq_false hf]
    clear hl hf
    go_enter Try.func42, Try.ntmps42
    go_wp2
    go_ret
    exact ⟨rfl, Ext.refl _⟩

end Go.Proofs.Ytgmjpilinhmjoaa
