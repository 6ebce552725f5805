import Derived.Test.YtcbnjigaajpadaaG2
import Derived.Lib.AppendZeros
import Derived.Laws.CopyOwn
import Derived.Deep.RegionLaw
import Derived.Deep.WholeRow
import Derived.Stop.BytesEq
import Derived.Lib.SlBytesConst
import Derived.WalkLawsBesides
import Derived.Deep.RegionHeld3
import Derived.Orders
import Derived.Test.YtcbnjigaajpadaaG1

/-
  The program's layer 3: a sum in four bytes; slices put one behind the other; bytes sealed.
-/
namespace Go.Proofs.Ytcbnjigaajpadaa
open Go.RowKit

theorem four_upk (s : Nat) : upk 8 4 s = [s % 256, s / 256 % 256, s / 65536 % 256, s / 16777216 % 256] := by
  simp only [upk, Nat.div_div_eq_div_mul]

/-- A sum in four bytes, as an array. -/
def FourPost (s : Nat) (w : World) (e : Ending) (w' : World) : Prop :=
  ∃ a b c d : Nat, upk 8 4 s = [a, b, c, d] ∧ e = .returned (.agg #[.int .u8 (a : Int), .int .u8 (b : Int), .int .u8 (c : Int), .int .u8 (d : Int)]) ∧ Ext w w'

theorem written_any (s : Nat) (w : World) (hs : s < 4294967296) : Calls Try.prog 26 #[.int .u32 (s : Int)] w (FourPost s w) := by
  have hd : s / 16777216 % 256 = s / 16777216 := by omega
  have H := Lib.hid ((four_upk s).trans (by rw [hd]))
  clear hd
  go_enter Try.func26, Try.ntmps26
  go_wp2
  refine bodyPost_ret (v := .agg #[.int .u8 ((s % 256 : Nat) : Int), .int .u8 ((s / 256 % 256 : Nat) : Int), .int .u8 ((s / 65536 % 256 : Nat) : Int), .int .u8 ((s / 16777216 : Nat) : Int)]) (by simp [results, Try.results26, go_sem]) rfl ?_
  exact ⟨_, _, _, _, H.out, rfl, (Ext.refl w).alloc _⟩

theorem grow_any (n : Nat) (w : World) (hn : n ≤ 180000000000000) :
    Calls Try.prog 33 #[.slice none 0 0, .int .i64 (n : Int)] w fun e w' => ∃ A' c', e = .returned (.slice A' 0 c') ∧ Own .u8 5 w' w.heap.size A' c' [] ∧ Ext w w' := by
  obtain ⟨i, hi0, hz, hsz, hbs⟩ := info_parts Try.infoU8
  have hG0 : 0 ≤ grownCap w n 0 5 := Nat.zero_le _
  by_cases h0 : 0 < n
  · have hrz : ∀ ty, (Builtin.append_ #[22, 3] ty #[.slice none 0 0, .int .i64 (n : Int)]).run Try.prog w = .ok (.slice (some ⟨w.heap.size, 0, none⟩) n (grownCap w n 0 5)) (w.drew.alloc (.cells (Builtin.zeroCells (Value.int .u8 0).cells n ++ Builtin.zeroCells (Value.int .u8 0).cells (grownCap w n 0 5 - n)) 5)) :=
      fun ty => Lib.run_append_nil_zeros w 22 3 ty 5 i _ .i64 .i64 Try.underlying22 Try.underlying3 hi0 hz n h0 (by omega) (by omega) (by rw [hbs]; omega)
    have hge := grownCap_ge w n 0 5
    have hle := grownCap_le_maxLen w n 0 5 (by unfold maxLen; omega)
    obtain ⟨G, hG⟩ : ∃ G, G = grownCap w n 0 5 := ⟨_, rfl⟩
    rw [← hG] at hrz hge hle
    have hle2 : G ≤ 9223372036854775807 := by simpa [maxLen] using hle
    clear hG
    have hown : Own .u8 5 (w.drew.alloc (.cells (Builtin.zeroCells (Value.int .u8 0).cells n ++ Builtin.zeroCells (Value.int .u8 0).cells (G - n)) 5)) w.heap.size (some ⟨w.heap.size, 0, none⟩) G [] :=
      ⟨by simp, .inr ⟨w.heap.size, G, _, rfl, Nat.le_refl _, heap_alloc_new w.drew _, Nat.zero_le _, hle, by simp only [Array.size_append, size_zeroCells]; simp [Value.cells]; omega, by simp⟩⟩
    have Hown := Lib.hid hown
    clear hown
    go_enter Try.func33, Try.ntmps33
    go_wp2_with (at_builtin; refine Lib.wpList_append_run _ rfl _ _ _ _ rfl _ _ rfl rfl _ _ (hrz _) ?_)
    go_ret
    exact ⟨_, _, rfl, Hown.out, (Ext.refl w).drew.alloc _⟩
  · obtain rfl : n = 0 := by omega
    clear hG0
    go_enter Try.func33, Try.ntmps33
    go_wp2
    go_ret
    exact ⟨_, _, rfl, Own.nil .., Ext.refl w⟩

set_option maxHeartbeats 400000 in
theorem concat_any (A : Option Addr) (n c : Nat) (xss : List (List Nat)) (w : World) (hx : RdSS w A n xss) (hn : xss.flatten.length ≤ 180000000000000) (hm : n ≤ 180000000000000) :
    Calls Try.prog 27 #[.slice A n c] w fun e w' => ∃ A' c', e = .returned (.slice A' xss.flatten.length c') ∧ Own .u8 5 w' w.heap.size A' c' xss.flatten ∧ Ext w w' := by
  have Hl := Lib.hid hx.len
  obtain ⟨N, hN⟩ : ∃ N, N = xss.flatten.length := ⟨_, rfl⟩
  rw [← hN] at hn ⊢
  have HN := Lib.hid hN
  clear hN
  go_enter Try.func27, Try.ntmps27
  go_wp2
  go_loop [3, 5, 11] (fun s _ i => ∃ j : Nat, j ≤ n ∧ i = .int .i64 j ∧ s = .int .i64 ((cat xss j).length : Nat)) (fun _ _ i => n - (intOf i).toNat)
  case atStart => exact ⟨0, Nat.zero_le _, rfl, by rw [cat_zero]; rfl⟩
  case round =>
    obtain ⟨j, hj, rfl, rfl⟩ := hrel
    have hle := cat_le (xss := xss) (j := j)
    rw [← HN.out] at hle
    by_cases hlt : j < n
    · obtain ⟨b, o, a, m, c2, rfl, hbl, hc, hrd⟩ := hx.at_ hlt
      have hjl : j < xss.length := by have := Hl.out; omega
      have hle2 := cat_le (xss := xss) (j := j + 1)
      rw [← HN.out] at hle2
      have hnext := congrArg List.length (cat_succ hjl)
      rw [List.length_append, hrd.len] at hnext
      rw [hnext] at hle2
      obtain ⟨R, hR'⟩ : ∃ R, R = (cat xss j).length := ⟨_, rfl⟩
      rw [← hR'] at hle hle2 hnext ⊢
      have Hn := Lib.hid hnext
      clear hnext hR' hrd
      go_wp2_with fail
      go_round
      case rel => exact ⟨j + 1, by omega, by go_num, by rw [Hn.out]; go_num⟩
      case measure => simp [intOf]; omega
    · obtain rfl : j = n := by omega
      have hfin : (cat xss j).length = N := by rw [HN.out, ← cat_all, Hl.out]
      rw [hfin]
      clear hfin hle
      go_wp2_with fail
      refine (grow_any N _ hn).mono ?_
      rintro e w1 ⟨A1, c1, rfl, hown1, he1⟩
      go_wp2_with fail
      go_loopw [6, 8, 27] (fun v _ i wr => ∃ (q : Nat) (A' : Option Addr) (c' : Nat), q ≤ j ∧ i = .int .i64 q ∧ v = .slice A' (cat xss q).length c' ∧ Own .u8 5 wr w.heap.size A' c' (cat xss q) ∧ Below w.heap.size w wr) (fun _ _ i _ => j - (intOf i).toNat)
      case atStart => exact ⟨0, _, _, Nat.zero_le _, rfl, rfl, hown1, he1⟩
      case round =>
        clear hown1 he1
        obtain ⟨q, A', c', hq, rfl, rfl, hown, hb⟩ := hrel
        have hz := hb.size
        by_cases hlt : q < j
        · obtain ⟨b, o, a, m, c2, rfl, hbl, hc, hrd⟩ := (hx.ext hb).at_ hlt
          have hjl : q < xss.length := by have := Hl.out; omega
          have hle2 := cat_le (xss := xss) (j := q + 1)
          rw [← HN.out] at hle2
          have hcs := cat_succ hjl
          have hnext := congrArg List.length hcs
          rw [List.length_append, hrd.len] at hnext
          rw [hnext] at hle2
          obtain ⟨ys, hys⟩ : ∃ ys, ys = xss.getD q [] := ⟨_, rfl⟩
          rw [← hys] at hrd hcs
          obtain ⟨X, hX⟩ : ∃ X, X = cat xss q := ⟨_, rfl⟩
          rw [← hX] at hown hle2 hnext hcs ⊢
          obtain ⟨R, hR⟩ : ∃ R, X.length = R := ⟨_, rfl⟩
          rw [hR] at hle2 hnext ⊢
          have Hn := Lib.hid hnext
          have Hcs := Lib.hid hcs
          have HR := Lib.hid hR
          clear hnext hcs hys hX hR
          go_wp2_with (at_builtin; refine wpList_pushes .u8 5 rfl _ _ 22 rfl _ 1 Try.underlying22 Try.infoU8 rfl hown R HR.out rfl rfl hrd (by omega) (by omega) hb hz ?_; intro A1 c1 w1 hown1 hb1 hz1)
          go_roundw
          case rel => exact ⟨q + 1, A1, c1, by omega, by go_num, by rw [Hn.out], by rw [Hcs.out]; exact hown1, hb1⟩
          case measure => simp [intOf]; omega
        · obtain rfl : q = j := by omega
          have hfin : cat xss q = xss.flatten := by rw [← cat_all]; rw [Hl.out]
          rw [hfin, ← HN.out]
          rw [hfin] at hown
          clear hfin
          go_wp2
          go_ret
          exact ⟨_, _, rfl, hown, hb⟩

set_option maxHeartbeats 400000 in
theorem seal_any (A : Option Addr) (n c : Nat) (bs : List Nat) (w : World) (hx : Rd .u8 w A n bs) (hu : U8 bs) (hn : n + 4 ≤ 180000000000000) :
    Calls Try.prog 15 #[.slice A n c] w fun e w' => ∃ A' c', e = .returned (.slice A' (n + 4 : Nat) c') ∧ Own .u8 5 w' w.heap.size A' c' (sl bs) ∧ Ext w w' := by
  have hcr := crc_lt hu
  have hl := hx.len
  have hf1 : [bs].flatten = bs := by simp
  have H1 := RdSS.one 22 w (c := c) rfl hx
  have hl2 : ∀ xs ∈ [bs], xs.length ≤ 180000000000000 := by intro v hv; simp at hv; subst hv; omega
  have Hf1 := Lib.hid hf1
  have HH1 := Lib.hid H1
  have Hl2 := Lib.hid hl2
  clear hf1 H1 hl2 hl
  go_enter Try.func15, Try.ntmps15
  go_wp2_with fail
  refine (sum_any _ _ _ [bs] _ HH1.out (fun v hv => by simp at hv; subst hv; exact hu) Hl2.out (by omega)).mono ?_
  rintro e w1 ⟨rfl, rfl⟩
  rw [Hf1.out]
  go_wp2_with fail
  refine (written_any _ _ hcr).mono ?_
  rintro e w2 ⟨a, b, c', d, hf, rfl, he2⟩
  have h4 := Rd.lit_at .u8 40 w2 [a, b, c', d] rfl (n := 4) rfl
  have hxw := (((hx.ext ((Ext.refl w).alloc (.cells #[.slice A n c] 22))).ext he2).ext ((Ext.refl w2).alloc (.cells #[.int .u8 (a : Int), .int .u8 (b : Int), .int .u8 (c' : Int), .int .u8 (d : Int)] 40)))
  have H2 := Lib.hid (RdSS.two 22 (b := w2.heap.size + 1) (c := c) (c2 := 4) _ (by simp) hxw h4)
  have hE := ((Ext.refl w).alloc (.cells #[.slice A n c] 22)).trans he2
  have hlen : [bs, [a, b, c', d]].flatten.length = n + 4 := by simp [hx.len]
  have hfl : [bs, [a, b, c', d]].flatten = sl bs := by simp [sl, hf]
  have Hlen := Lib.hid hlen
  have Hfl := Lib.hid hfl
  clear hf h4 hxw hlen hfl HH1 Hl2 he2
  go_wp2_with fail
  refine (concat_any _ _ _ [bs, [a, b, c', d]] _ H2.out (by rw [Hlen.out]; exact hn) (by omega)).mono ?_
  rintro e w3 ⟨A3, c3, rfl, hown3, he3⟩
  rw [Hfl.out] at hown3
  rw [Hlen.out]
  have hE2 := hE.trans (((Ext.refl w2).alloc _).alloc _) |>.trans he3
  have hsz := hE.size
  go_wp2_with fail
  go_ret
  exact ⟨_, _, rfl, hown3.mono (by simp; omega), hE2⟩

theorem sld_four {bs : List Nat} {m : Nat} {a b c d x y z t : Nat} (hl : bs.length = m + 4) (hd : bs.drop m = [x, y, z, t]) (hu : U8 bs) (hf : upk 8 4 (crc (bs.take m)) = [a, b, c, d]) :
    sld bs ↔ (x = a ∧ y = b ∧ z = c ∧ t = d) := by
  have hs := sld_split (t := bs.take m) (q := bs.drop m) (by rw [List.length_drop]; omega)
  rw [List.take_append_drop] at hs
  have hq := upk_pk (U8_wd.1 (u8_drop hu m))
  have hdl : (bs.drop m).length = 4 := by rw [List.length_drop]; omega
  rw [hdl] at hq
  have hcr := crc_lt (u8_take hu m)
  rw [hs]
  constructor
  · intro h
    rw [h, hf, hd] at hq
    simp at hq
    exact ⟨hq.1.symm, hq.2.1.symm, hq.2.2.1.symm, hq.2.2.2.symm⟩
  · rintro ⟨rfl, rfl, rfl, rfl⟩
    rw [hd, ← hf, pk_upk]
    exact Nat.mod_eq_of_lt hcr

/-- 'copy(row[:], s)' in a region that draws, the row an array that the call has just laid: behind it the array holds the cells. -/
theorem step_copy_new {P : Program} {ops : Array Oper} {o : Oper} {a : Act} {w : World} {K : Act → World → Prop} {Q : Exit → Act → World → Prop} {E : Prop} (hgd : o.guard = none) (d s : Operand) (dT sT : TypeId)
    (ho : o.op = .call { callee := .builtin .copy, args := #[d, s], argTypes := #[dT, sT] }) (elem : TypeId) (hu : P.underlying dT = some (.slice elem)) (hsz : (P.info? elem).map (·.size) = some 1)
    (old : Array Value) (T : TypeId) (ad : Addr) (dLen dCap sLen sCap : Nat) (cs : List Value) (hd : a.eval d = .slice (some ⟨w.heap.size, 0, none⟩) dLen dCap) (hs : a.eval s = .slice (some ad) sLen sCap)
    (hold : old.size = cs.length) (hn : cs.length = Nat.min sLen dLen) (hsrc : ∀ j v, cs[j]? = some v → (w.alloc (.cells old T)).drew.cell? (ad.add j) = some v) (h1 : ∀ v ∈ cs, v.oneCell' = true)
    (h : K (a.put o.dst (goInt cs.length)) (w.alloc (.cells cs.toArray T)).drew) :
    if Region.wanted o (yielded ops a.tmps) = true then Oper.wp P o a (w.alloc (.cells old T)).drew K Q else E := by
  have hw : Region.wanted o (yielded ops a.tmps) = true := by simp [Region.wanted, hgd]
  rw [if_pos hw]
  have hrun := run_copy_row (P := P) (w.alloc (.cells old T)).drew dT sT o.type elem w.heap.size 0 dLen dCap ad sLen sCap old T cs hu hsz (heap_alloc_new w _) hn hsrc (by omega) h1
  have hrow : (old.toList.take 0 ++ cs ++ old.toList.drop (0 + cs.length)).toArray = cs.toArray := by
    rw [List.take_zero, List.nil_append, List.drop_eq_nil_of_le (by rw [Array.length_toList]; omega), List.append_nil]
  have hset : (w.alloc (.cells old T)).drew.setRow w.heap.size cs.toArray = (w.alloc (.cells cs.toArray T)).drew := by
    rw [← World.setRow_alloc_new w old cs.toArray T]
    rfl
  rw [hrow, hset] at hrun
  unfold Oper.wp
  simp [execOp, ho, resolve, invoke, builtin, hd, hs, hrun, Result.andThen]
  exact h

theorem cell_nat {x : Nat} (h : x < 256) : Extern.Stop.cell (UInt8.ofNat x) = Value.int .u8 (x : Int) := by
  have : (UInt8.ofNat x).toNat = x := by rw [UInt8.toNat_ofNat']; exact Nat.mod_eq_of_lt h
  simp [Extern.Stop.cell, this]
theorem eq4 {x y z t a b c d : Nat} (hx : U8 [x, y, z, t]) (ha : U8 [a, b, c, d]) (w : World) :
    (Op.equalIn 10000 40 (.agg #[.int .u8 (x : Int), .int .u8 (y : Int), .int .u8 (z : Int), .int .u8 (t : Int)]) (.agg #[.int .u8 (a : Int), .int .u8 (b : Int), .int .u8 (c : Int), .int .u8 (d : Int)])).run Try.prog w =
      .ok (decide (x = a) && (decide (y = b) && (decide (z = c) && decide (t = d)))) w := by
  have h := run_equalIn_bytes (P := Try.prog) w 9998 40 5 4 Try.underlying40 Try.underlying5 (fun w => by kernel_rfl) [UInt8.ofNat x, UInt8.ofNat y, UInt8.ofNat z, UInt8.ofNat t] [UInt8.ofNat a, UInt8.ofNat b, UInt8.ofNat c, UInt8.ofNat d] rfl rfl
  have hx0 := hx x (by simp)
  have hx1 := hx y (by simp)
  have hx2 := hx z (by simp)
  have hx3 := hx t (by simp)
  have ha0 := ha a (by simp)
  have ha1 := ha b (by simp)
  have ha2 := ha c (by simp)
  have ha3 := ha d (by simp)
  simp only [List.map_cons, List.map_nil, cell_nat hx0, cell_nat hx1, cell_nat hx2, cell_nat hx3, cell_nat ha0, cell_nat ha1, cell_nat ha2, cell_nat ha3] at h
  rw [h]
  congr 1
  have hi : ∀ {p q : Nat}, p < 256 → q < 256 → (UInt8.ofNat p = UInt8.ofNat q ↔ p = q) := by
    intro p q hp hq
    rw [← UInt8.toNat_inj, UInt8.toNat_ofNat', UInt8.toNat_ofNat', Nat.mod_eq_of_lt hp, Nat.mod_eq_of_lt hq]
  rw [Bool.eq_iff_iff]
  simp [hi hx0 ha0, hi hx1 ha1, hi hx2 ha2, hi hx3 ha3]

theorem four_cells {w : World} {g : Nat} {x y z t : Value} {T : TypeId} (h : w.heap[g]? = some (.cells #[x, y, z, t] T)) :
    w.cell? ⟨g, 0, none⟩ = some x ∧ w.cell? ⟨g, 1, none⟩ = some y ∧ w.cell? ⟨g, 2, none⟩ = some z ∧ w.cell? ⟨g, 3, none⟩ = some t :=
  ⟨cell_of_row w g 0 _ T (0, 0) h, cell_of_row w g 1 _ T (0, 0) h, cell_of_row w g 2 _ T (0, 0) h, cell_of_row w g 3 _ T (0, 0) h⟩

set_option maxHeartbeats 800000 in
theorem sealed_any (A : Option Addr) (n c : Nat) (bs : List Nat) (w : World) (hx : Rd .u8 w A n bs) (hu : U8 bs) (hn : n ≤ 180000000000000) (hc : n ≤ c) (_hcm : c ≤ 9223372036854775807) :
    Calls Try.prog 17 #[.slice A n c] w fun e w' => e = .returned (.bool (decide (sld bs))) ∧ Ext w w' := by
  have hl := hx.len
  by_cases h4 : 4 ≤ n
  · obtain ⟨m, rfl⟩ : ∃ m, n = m + 4 := ⟨n - 4, by omega⟩
    obtain ⟨b, o, rfl, hbl, hcell⟩ := hx.2 (by omega)
    have c0 := hcell m (by omega)
    have c1 := hcell (m + 1) (by omega)
    have c2 := hcell (m + 2) (by omega)
    have c3 := hcell (m + 3) (by omega)
    obtain ⟨x, hxx⟩ : ∃ x, x = bs.getD m 0 := ⟨_, rfl⟩
    obtain ⟨y, hyy⟩ : ∃ x, x = bs.getD (m + 1) 0 := ⟨_, rfl⟩
    obtain ⟨z, hzz⟩ : ∃ x, x = bs.getD (m + 2) 0 := ⟨_, rfl⟩
    obtain ⟨t, htt⟩ : ∃ x, x = bs.getD (m + 3) 0 := ⟨_, rfl⟩
    rw [← hxx] at c0
    rw [← hyy] at c1
    rw [← hzz] at c2
    rw [← htt] at c3
    have Hxx := Lib.hid hxx
    have Hyy := Lib.hid hyy
    have Hzz := Lib.hid hzz
    have Htt := Lib.hid htt
    have Hcell := Lib.hid hcell
    have Hone : Hid (∀ v ∈ [Value.int .u8 (x : Int), .int .u8 (y : Int), .int .u8 (z : Int), .int .u8 (t : Int)], v.oneCell' = true) := Lib.hid (by intro v hv; simp at hv; rcases hv with rfl | rfl | rfl | rfl <;> rfl)
    have Hsrc := Lib.hid (show ∀ (j : Nat) (v : Value), [Value.int .u8 (x : Int), .int .u8 (y : Int), .int .u8 (z : Int), .int .u8 (t : Int)][j]? = some v → (w.alloc (.cells #[.int .u8 0, .int .u8 0, .int .u8 0, .int .u8 0] 40)).drew.cell? ((⟨b, o + m, none⟩ : Addr).add j) = some v from by
      intro j v hj
      have he : Ext w (w.alloc (.cells #[.int .u8 0, .int .u8 0, .int .u8 0, .int .u8 0] 40)).drew := ((Ext.refl w).alloc _).drew
      rw [show (⟨b, o + m, none⟩ : Addr).add j = ⟨b, o + (m + j), none⟩ from by simp [Addr.add, Nat.add_assoc], Below.cell he (p := ⟨b, o + (m + j), none⟩) hbl]
      match j, hj with
      | 0, hj => simp at hj; subst hj; exact c0
      | 1, hj => simp at hj; subst hj; exact c1
      | 2, hj => simp at hj; subst hj; exact c2
      | 3, hj => simp at hj; subst hj; exact c3
      | j + 4, hj => simp at hj)
    have hf1 : [bs.take m].flatten = bs.take m := by simp
    have hl2 : ∀ xs ∈ [bs.take m], xs.length ≤ 180000000000000 := by intro v hv; simp at hv; subst hv; rw [List.length_take]; omega
    have hrd : Rd .u8 (w.alloc (.cells #[.int .u8 (x : Int), .int .u8 (y : Int), .int .u8 (z : Int), .int .u8 (t : Int)] 40)) (some ⟨b, o, none⟩) m (bs.take m) :=
      ⟨by rw [List.length_take, hl]; omega, fun _ => ⟨b, o, rfl, by simp; omega, fun j hj => by
        have := hcell j (by omega)
        rw [show (bs.take m).getD j 0 = bs.getD j 0 from by simp [List.getD, hj], Below.cell ((Ext.refl w).alloc _) (p := ⟨b, o + j, none⟩) hbl]
        exact this⟩⟩
    have H1 := Lib.hid (RdSS.one 22 (b := w.heap.size + 1) (c := c) _ (by simp) hrd)
    have HU : Hid (U8s [bs.take m]) := Lib.hid (fun v hv => by simp at hv; subst hv; exact u8_take hu m)
    have Hcr := Lib.hid (crc_lt (u8_take hu m))
    have Hf1 := Lib.hid hf1
    have Hl2 := Lib.hid hl2
    clear hf1 hl2 hrd
    have Hu4 : Hid (U8 [x, y, z, t]) := Lib.hid (by
      intro v hv
      simp at hv
      rcases hv with rfl | rfl | rfl | rfl
      · rw [Hxx.out]; exact hu.at_ _
      · rw [Hyy.out]; exact hu.at_ _
      · rw [Hzz.out]; exact hu.at_ _
      · rw [Htt.out]; exact hu.at_ _)
    have Hdr : Hid (bs.drop m = [x, y, z, t]) := Lib.hid (by
      apply List.ext_getElem
      · rw [List.length_drop, hl]; simp
      · intro j h1 h2
        have h3 : j < 4 := h2
        have h4 : m + j < bs.length := by omega
        rw [List.getElem_drop]
        have hg : ∀ i, (hi : i < bs.length) → bs[i] = bs.getD i 0 := fun i hi => by simp [List.getD, hi]
        rw [hg _ h4]
        rcases (show j = 0 ∨ j = 1 ∨ j = 2 ∨ j = 3 by omega) with rfl | rfl | rfl | rfl
        · exact Hxx.out.symm
        · exact Hyy.out.symm
        · exact Hzz.out.symm
        · exact Htt.out.symm)
    have Hll := Lib.hid hl
    have hmm : (m : Int) ≤ (m : Int) + 4 := by omega
    have hcne : ¬ c = m := by omega
    clear hxx hyy hzz htt hcell hl c0 c1 c2 c3
    go_enter Try.func17, Try.ntmps17
    go_wp2_with fail
    go_region_law (refine step_copy_new rfl (.tmp 10) (.tmp 13) 22 22 rfl 5 Try.underlying22 (by kernel_rfl) #[.int .u8 0, .int .u8 0, .int .u8 0, .int .u8 0] 40 ⟨b, o + m, none⟩ 4 4 4 (c - m) [.int .u8 (x : Int), .int .u8 (y : Int), .int .u8 (z : Int), .int .u8 (t : Int)] rfl rfl rfl rfl Hsrc.out Hone.out ?_)
    go_wp2_with fail
    go_region_with (first
      | (go_at_call 11; refine (sum_any _ _ _ [bs.take m] _ ?_ HU.out Hl2.out (by omega)).mono ?_; exact H1.out; rintro e w1 ⟨rfl, rfl⟩; rw [Hf1.out])
      | (go_at_call 26; refine (written_any _ _ Hcr.out).mono ?_; rintro e w3 ⟨a', b', c', d', hf, rfl, he⟩; obtain ⟨k0, k1, k2, k3⟩ := four_cells ((he.block w.heap.size (by simp; omega)).trans (heap_alloc2_old w _ _)); have heq := eq4 Hu4.out (hf ▸ U8_wd.2 (upk_wd _ _ _)); have Hf := Lib.hid hf; have He := Lib.hid he; clear hf he))
    all_goals
      go_wp2_with fail
      go_ret
      refine ⟨?_, Ext.trans (by repeat (first | exact Ext.refl _ | apply Ext.drew | apply Ext.alloc)) He.out⟩
      rw [show decide (sld bs) = (decide (x = a') && (decide (y = b') && (decide (z = c') && decide (t = d')))) from by rw [Bool.eq_iff_iff]; simpa using sld_four Hll.out Hdr.out hu Hf.out]
      rfl
  · have hf : ¬ sld bs := fun h => by have := h.1; omega
    rw [decide_eq_false hf]
    clear hl hf
    go_enter Try.func17, Try.ntmps17
    go_wp2
    go_ret
    exact ⟨rfl, Ext.refl _⟩

end Go.Proofs.Ytcbnjigaajpadaa

/-
  The document's answers of layer 3, by definition: a run of bits turned.
-/
namespace Go.Proofs.Ytcbnjigaajpadaa
open Go.RowKit

/-- What Turn answers. -/
def trn (bs : List Nat) (at_ : Int) (p : Nat) : List Nat :=
  if 0 ≤ at_ ∧ at_ < 8 * (bs.length : Int) ∧ p * 2 ^ at_.toNat < 2 ^ (8 * bs.length) then tn bs (p * 2 ^ at_.toNat) else bs

theorem trn_in {bs : List Nat} {a p : Nat} (h1 : a < 8 * bs.length) (h2 : p * 2 ^ a < 2 ^ (8 * bs.length)) : trn bs a p = tn bs (p * 2 ^ a) := by
  rw [trn, if_pos ⟨by omega, by omega, by simpa using h2⟩]
  simp
theorem trn_out {bs : List Nat} {at_ : Int} {p : Nat} (h : at_ < 0 ∨ 8 * (bs.length : Int) ≤ at_) : trn bs at_ p = bs := by
  rw [trn, if_neg (by omega)]
theorem trn_far {bs : List Nat} {a p : Nat} (h : 2 ^ (8 * bs.length) ≤ p * 2 ^ a) : trn bs a p = bs := by
  rw [trn, if_neg]
  rintro ⟨_, _, h3⟩
  rw [Int.toNat_natCast] at h3
  omega
theorem trn_len (bs : List Nat) (at_ : Int) (p : Nat) : (trn bs at_ p).length = bs.length := by
  unfold trn
  split
  · exact tn_len _ _
  · rfl
theorem trn_u8 {bs : List Nat} (h : U8 bs) (at_ : Int) (p : Nat) : U8 (trn bs at_ p) := by
  unfold trn
  split
  · exact tn_u8 _ _
  · exact h

/-- One bit of the run more, that is not turned. -/
theorem run_even {p t : Nat} (h : p / 2 ^ t % 2 = 0) : p % 2 ^ (t + 1) = p % 2 ^ t := by
  rw [Nat.pow_succ, Nat.mod_mul, h, Nat.mul_zero, Nat.add_zero]
/-- One bit of the run more, that is turned. -/
theorem run_odd {p t a : Nat} (h : p / 2 ^ t % 2 = 1) : (p % 2 ^ (t + 1)) * 2 ^ a = (p % 2 ^ t * 2 ^ a) ^^^ 2 ^ (a + t) := by
  have h1 : p % 2 ^ t * 2 ^ a < 2 ^ (a + t) := by
    rw [Nat.pow_add, Nat.mul_comm]
    exact Nat.mul_lt_mul_of_pos_left (Nat.mod_lt _ (Nat.two_pow_pos t)) (Nat.two_pow_pos a)
  have h2 := lowhigh (x := 1) h1
  rw [Nat.mul_one] at h2
  rw [Nat.pow_succ, Nat.mod_mul, h, Nat.mul_one, Nat.add_mul, ← h2, ← Nat.pow_add, Nat.add_comm t a]
theorem tn_more {bs : List Nat} {e k : Nat} (h : k < 8 * bs.length) : tn bs (e ^^^ 2 ^ k) = (tn bs e).set (k / 8) ((tn bs e).getD (k / 8) 0 ^^^ pw (k % 8)) := by
  unfold tn pw
  rw [← Nat.xor_assoc, upk_bit h]
theorem run_end {p t a m : Nat} (h : p / 2 ^ t = 0) (hm : a + t ≤ m) : p % 2 ^ t = p ∧ p * 2 ^ a < 2 ^ m := by
  have h1 : p < 2 ^ t := by
    rcases Nat.lt_or_ge p (2 ^ t) with h2 | h2
    · exact h2
    · have := Nat.div_pos h2 (Nat.two_pow_pos t); omega
  refine ⟨Nat.mod_eq_of_lt h1, ?_⟩
  calc p * 2 ^ a < 2 ^ t * 2 ^ a := Nat.mul_lt_mul_of_pos_right h1 (Nat.two_pow_pos a)
    _ = 2 ^ (a + t) := by rw [← Nat.pow_add, Nat.add_comm]
    _ ≤ 2 ^ m := Nat.pow_le_pow_right (by omega) hm
theorem run_far {p t a m : Nat} (h : 0 < p / 2 ^ t) (hm : m ≤ a + t) : 2 ^ m ≤ p * 2 ^ a := by
  have h1 : 2 ^ t ≤ p := by
    rcases Nat.lt_or_ge p (2 ^ t) with h2 | h2
    · rw [Nat.div_eq_of_lt h2] at h; omega
    · exact h2
  calc 2 ^ m ≤ 2 ^ (a + t) := Nat.pow_le_pow_right (by omega) hm
    _ = 2 ^ t * 2 ^ a := by rw [← Nat.pow_add, Nat.add_comm]
    _ ≤ p * 2 ^ a := Nat.mul_le_mul_right _ h1

set_option maxHeartbeats 1000000 in
theorem turn_any (A : Option Addr) (n c p : Nat) (at_ : Int) (bs : List Nat) (w : World) (hx : Rd .u8 w A n bs) (hu : U8 bs) (hn : n ≤ 140737488355328) (hp : p < 4294967296) :
    Calls Try.prog 21 #[.slice A n c, .int .i64 at_, .int .u32 p] w fun e w' => ∃ A' c', e = .returned (.slice A' n c') ∧ Own .u8 5 w' w.heap.size A' c' (trn bs at_ p) ∧ Ext w w' := by
  have hl := hx.len
  have Hl := Lib.hid hl
  by_cases hneg : at_ < 0
  · have HT := Lib.hid (trn_out (bs := bs) (p := p) (.inl hneg))
    clear hl
    go_enter Try.func21, Try.ntmps21
    go_wp2_with fail
    refine (copy_any _ _ _ _ _ hx hn).mono ?_
    rintro e w1 ⟨A1, c1, rfl, hown1, he1⟩
    go_wp2
    go_ret
    exact ⟨_, _, rfl, by rw [HT.out]; exact hown1, he1⟩
  · obtain ⟨a, rfl⟩ := Int.eq_ofNat_of_zero_le (show 0 ≤ at_ by omega)
    have b1 : decide ((a : Int) < 0) = false := by simp
    by_cases hfar : 8 * n ≤ a
    · have HT := Lib.hid (trn_out (bs := bs) (p := p) (at_ := (a : Int)) (.inr (by omega)))
      clear hl
      go_enter Try.func21, Try.ntmps21
      go_wp2_with fail
      refine (copy_any _ _ _ _ _ hx hn).mono ?_
      rintro e w1 ⟨A1, c1, rfl, hown1, he1⟩
      go_wp2
      go_ret
      exact ⟨_, _, rfl, by rw [HT.out]; exact hown1, he1⟩
    · clear hl
      go_enter Try.func21, Try.ntmps21
      go_wp2_with fail
      refine (copy_any _ _ _ _ _ hx hn).mono ?_
      rintro e w1 ⟨A1, c1, rfl, hown1, he1⟩
      go_wp2_with fail
      go_loopw [8, 9, 10, 11] (fun y k _ _ wr => ∃ t : Nat, a + t ≤ 8 * n ∧ y = .int .u64 (p / 2 ^ t : Nat) ∧ k = .int .i64 (a + t : Nat) ∧ Own .u8 5 wr w.heap.size A1 c1 (tn bs (p % 2 ^ t * 2 ^ a)) ∧ Ext w wr) (fun y _ _ _ _ => (intOf y).toNat)
      case atStart => exact ⟨0, by omega, by rw [Nat.pow_zero, Nat.div_one], rfl, by rw [Nat.pow_zero, Nat.mod_one, Nat.zero_mul, tn_zero hu]; exact hown1, he1⟩
      case round =>
        clear hown1 he1
        obtain ⟨t, ht, rfl, rfl, hown, he⟩ := hrel
        have hle : p / 2 ^ t < 4294967296 := Nat.lt_of_le_of_lt (Nat.div_le_self _ _) hp
        have hnx : p / 2 ^ (t + 1) = p / 2 ^ t / 2 := by rw [Nat.div_div_eq_div_mul, ← Nat.pow_succ]
        by_cases hpos : 0 < p / 2 ^ t
        · by_cases hend : 8 * n ≤ a + t
          · have HT := Lib.hid (trn_far (bs := bs) (run_far (a := a) (m := 8 * bs.length) hpos (by have := Hl.out; omega)))
            obtain ⟨y, hy⟩ : ∃ y, y = p / 2 ^ t := ⟨_, rfl⟩
            rw [← hy] at hpos hle ⊢
            clear hy hnx
            go_wp2_with fail
            refine (copy_any _ _ _ _ _ (hx.ext he) hn).mono ?_
            rintro e w2 ⟨A2, c2, rfl, hown2, he2⟩
            go_wp2
            go_ret
            exact ⟨_, _, rfl, by rw [HT.out]; exact hown2.mono he.size, he.trans he2⟩
          · have hkn : (a + t) / 8 < n := by omega
            have hev := fun h => congrArg (fun q => tn bs (q * 2 ^ a)) (run_even (p := p) (t := t) h)
            have hod := fun h => (congrArg (tn bs) (run_odd (p := p) (t := t) (a := a) h)).trans (tn_more (by have := Hl.out; omega))
            obtain ⟨D, hD⟩ : ∃ D, D = tn bs (p % 2 ^ t * 2 ^ a) := ⟨_, rfl⟩
            have hDl : D.length = n := by rw [hD, tn_len]; exact Hl.out
            have hDu : U8 D := by rw [hD]; exact tn_u8 _ _
            have hev2 : p / 2 ^ t % 2 = 0 → tn bs (p % 2 ^ (t + 1) * 2 ^ a) = D := fun h => (hev h).trans hD.symm
            clear hev
            rw [← hD] at hod hown
            have hv := hDu.at_ ((a + t) / 8)
            obtain ⟨y, hy⟩ : ∃ y, y = p / 2 ^ t := ⟨_, rfl⟩
            obtain ⟨k, hk⟩ : ∃ k, k = a + t := ⟨_, rfl⟩
            have hk1 : a + (t + 1) = k + 1 := by omega
            rw [← hy] at hpos hle hnx hev2 hod ⊢
            rw [← hk] at hkn hod hend hv ⊢
            have Hnx := Lib.hid hnx
            have Hk1 := Lib.hid hk1
            have Hev := Lib.hid hev2
            have Hod := Lib.hid hod
            have hk8 : k < 8 * n := by omega
            have ht1 : a + (t + 1) ≤ 8 * n := by omega
            clear hy hnx hk hk1 hev2 hod hD hDu ht hend
            by_cases hbit : y % 2 = 1
            · go_wp2_with fail
              go_loop [10, 11] (fun z j => ∃ q : Nat, q ≤ k % 8 ∧ j = .int .i64 q ∧ z = .int .u8 (pw q : Nat)) (fun _ j => k % 8 - (intOf j).toNat)
              case atStart => exact ⟨0, by omega, rfl, rfl⟩
              case round =>
                obtain ⟨q, hq, rfl, rfl⟩ := hrel
                have w3 : (k : Int).tmod 8 = (k : Int) % 8 := Int.tmod_eq_emod_of_nonneg (by omega)
                by_cases hq8 : q < k % 8
                · have hps := pw_succ q
                  have hpl := pw_le (show q + 1 ≤ 7 by omega)
                  rw [show pw 7 = 128 from rfl] at hpl
                  have Hps := Lib.hid hps
                  clear hps
                  have hpl2 : pw q * 2 ≤ 128 := by rw [← Hps.out]; exact hpl
                  go_wp2
                  go_round
                  case rel => exact ⟨q + 1, by omega, by go_num, by rw [Hps.out]; go_num⟩
                  case measure => simp [intOf]; omega
                · obtain rfl : q = k % 8 := by omega
                  obtain ⟨b, rfl, hbb, hbl, hc, hf, hset⟩ := hown.at_ (show k / 8 < D.length by rw [hDl]; exact hkn)
                  have hpl := pw_le (show k % 8 ≤ 7 by omega)
                  rw [show pw 7 = 128 from rfl] at hpl
                  have hnew := Hod.out hbit
                  obtain ⟨z, hz⟩ : ∃ z, z = pw (k % 8) := ⟨_, rfl⟩
                  obtain ⟨v, hv'⟩ : ∃ v, v = D.getD (k / 8) 0 := ⟨_, rfl⟩
                  rw [← hz] at hpl hnew ⊢
                  rw [← hv'] at hc hv hnew
                  have hxor : bits .xor .u8 (v : Int) (z : Int) = ((v ^^^ z : Nat) : Int) := u8_xor_nat _ _ hv (by omega)
                  obtain ⟨hs1, hs2⟩ := hset (v ^^^ z)
                  rw [← hnew] at hs1
                  have Hs1 := Lib.hid hs1
                  have He := Lib.hid (grownBy_ext he hs2 (fun g hg => by injection hg with hg; omega))
                  have f1 : IntKind.i64.wrap ((k : Int) / 8) = (k : Int) / 8 := IntWalk.i64_in _ (by omega)
                  have f2 : ((k : Int) / 8).toNat = k / 8 := by omega
                  have f3 : (0 : Int) ≤ (k : Int) / 8 := by omega
                  have f4 : (k : Int) / 8 < (n : Int) := by omega
                  clear hnew hset hs1 hs2 hz hv' hown he
                  go_wp2
                  go_roundw
                  case rel => exact ⟨t + 1, ht1, by rw [Hnx.out]; go_num, by rw [Hk1.out]; go_num, Hs1.out, He.out⟩
                  case measure => simp [intOf]; omega
            · go_wp2
              go_roundw
              case rel => exact ⟨t + 1, ht1, by rw [Hnx.out]; go_num, by rw [Hk1.out]; go_num, by rw [show tn bs (p % 2 ^ (t + 1) * 2 ^ a) = D from Hev.out (by omega)]; exact hown, he⟩
              case measure => simp [intOf]; omega
        · have h0 : p / 2 ^ t = 0 := Nat.eq_zero_of_not_pos hpos
          obtain ⟨h1, h2⟩ := run_end (a := a) (m := 8 * bs.length) h0 (by have := Hl.out; omega)
          rw [h1, ← trn_in (by have := Hl.out; omega) h2] at hown
          rw [h0]
          clear h0 h1 h2 hle hnx hpos
          go_wp2
          go_ret
          exact ⟨_, _, rfl, hown, he⟩

end Go.Proofs.Ytcbnjigaajpadaa

/-
  Layer 3: the document's examples; the laws of joined sums and of turned runs.
-/
namespace Go.Proofs.Ytcbnjigaajpadaa
open Go.RowKit

theorem crc_nine : crc [49, 50, 51, 52, 53, 54, 55, 56, 57] = 3808858755 := by decide +kernel
theorem ext_nine : ext (crc [49, 50, 51, 52]) [53, 54, 55, 56, 57] = 3808858755 := by decide +kernel
theorem join_nine : joined (crc [49, 50, 51, 52]) (crc [53, 54, 55, 56, 57]) 5 = 3808858755 := by decide +kernel
theorem sl_none : sl [] = [0, 0, 0, 0] := by decide +kernel
theorem sld_0 : decide (sld [0, 0, 0, 0]) = true := by decide +kernel
theorem sld_1 : decide (sld [0, 0, 0, 1]) = false := by decide +kernel
theorem u8s_one {a : List Nat} (h : U8 a) : U8s [a] := fun v hv => by simp at hv; subst hv; exact h
theorem u8s_two {a b : List Nat} (h : U8 a) (k : U8 b) : U8s [a, b] := fun v hv => by simp at hv; rcases hv with rfl | rfl <;> assumption
theorem u8s_three {a b c : List Nat} (h : U8 a) (k : U8 b) (l : U8 c) : U8s [a, b, c] := fun v hv => by simp at hv; rcases hv with rfl | rfl | rfl <;> assumption

/-- '[]byte("..")' of a constant: the row gets its mark. -/
theorem conv_const (W : World) (g : Nat) (C : Array Value) (n c : Nat) (hg : W.heap.size = g) :
    (convert 22 22 (.slice (some ⟨g, 0, none⟩) n c)).run Try.prog (W.alloc (.cells C 5)) = .ok (.slice (some ⟨g, 0, none⟩) n c) (W.alloc (.cells C 5 (C.size, C.size + 1))) := by
  subst hg
  exact Lib.run_convert_bytes_const W 22 5 C n c Try.underlying22 Try.underlying5

theorem Rd.mark_at (k : IntKind) (e : TypeId) (fr : Nat × Nat) (w : World) (xs : List Nat) {b n : Nat} (hb : w.heap.size = b) (hn : xs.length = n) : Rd k (w.alloc (.cells (xs.map fun x : Nat => Value.int k (x : Int)).toArray e fr)) (some ⟨b, 0, none⟩) n xs := by
  subst hb
  subst hn
  refine ⟨rfl, fun hn => ⟨w.heap.size, 0, rfl, by simp, fun j hj => ?_⟩⟩
  rw [cell_of_row _ w.heap.size (0 + j) _ e fr (heap_alloc_new w _)]
  simp [hj]

/-- The sum of one part, of two, of three. -/
theorem sum1_any (A : Option Addr) (bs : List Nat) (w : World) (hx : RdSS w A 1 [bs]) (hu : U8 bs) (hn : bs.length ≤ 180000000000000) :
    Calls Try.prog 11 #[.slice A 1 1] w fun e w' => e = .returned (.int .u32 (crc bs : Nat)) ∧ w = w' := by
  have h := sum_any A 1 1 [bs] w hx (u8s_one hu) (by intro v hv; simp at hv; subst hv; exact hn) (by decide)
  have hf : [bs].flatten = bs := by simp
  rwa [hf] at h
theorem sum2_any (A : Option Addr) (bs cs : List Nat) (w : World) (hx : RdSS w A 2 [bs, cs]) (hu : U8 bs) (hv : U8 cs) (hn : bs.length ≤ 180000000000000) (hm : cs.length ≤ 180000000000000) :
    Calls Try.prog 11 #[.slice A 2 2] w fun e w' => e = .returned (.int .u32 (crc (bs ++ cs) : Nat)) ∧ w = w' := by
  have h := sum_any A 2 2 [bs, cs] w hx (u8s_two hu hv) (by intro v hv; simp at hv; rcases hv with rfl | rfl <;> omega) (by decide)
  have hf : [bs, cs].flatten = bs ++ cs := by simp
  rwa [hf] at h
theorem sum3_any (A : Option Addr) (bs cs : List Nat) (w : World) (hx : RdSS w A 3 [bs, [], cs]) (hu : U8 bs) (hv : U8 cs) (hn : bs.length ≤ 180000000000000) (hm : cs.length ≤ 180000000000000) :
    Calls Try.prog 11 #[.slice A 3 3] w fun e w' => e = .returned (.int .u32 (crc (bs ++ cs) : Nat)) ∧ w = w' := by
  have h := sum_any A 3 3 [bs, [], cs] w hx (u8s_three hu (by intro v hv; cases hv) hv) (by intro v hv; simp at hv; rcases hv with rfl | rfl | rfl <;> first | omega | simp) (by decide)
  have hf : [bs, [], cs].flatten = bs ++ cs := by simp
  rwa [hf] at h

set_option maxHeartbeats 1600000 in
/-- The document's examples hold. -/
theorem alive3 (w : World) : Calls Try.prog 8 #[] w fun e w' => e = .returned (.bool true) ∧ Ext w w' := by
  have kc := conv_const
  go_enter Try.func8, Try.ntmps8
  go_wp2_with fail
  refine (sum2_any _ [49, 50, 51, 52] [53, 54, 55, 56, 57] _ ?_ (by decide) (by decide) (by decide) (by decide)).mono ?_
  · exact RdSS.two _ _ (by simp) ((Rd.mark_at .u8 5 _ w [49, 50, 51, 52] rfl rfl).ext ((Ext.refl _).alloc _)) (Rd.mark_at .u8 5 _ _ [53, 54, 55, 56, 57] (by simp) rfl)
  rintro e w1 ⟨rfl, hw⟩
  have hE1 : Ext w w1 := by rw [← hw]; repeat (first | exact Ext.refl _ | apply Ext.drew | apply Ext.alloc)
  clear hw
  rw [show [49, 50, 51, 52] ++ [53, 54, 55, 56, 57] = [49, 50, 51, 52, 53, 54, 55, 56, 57] from rfl, crc_nine]
  go_wp2_with fail
  refine (sum1_any _ [49, 50, 51, 52] _ ?_ (by decide) (by decide)).mono ?_
  · exact RdSS.one _ _ (by simp) (Rd.mark_at .u8 5 _ w1 [49, 50, 51, 52] rfl rfl)
  rintro e w2 ⟨rfl, hw⟩
  have hE2 : Ext w w2 := by rw [← hw]; repeat (first | exact hE1 | apply Ext.drew | apply Ext.alloc)
  clear hw
  have hl4 := crc_lt (show U8 [49, 50, 51, 52] by decide)
  have hl5 := crc_lt (show U8 [53, 54, 55, 56, 57] by decide)
  have hj := join_nine
  have hx := ext_nine
  obtain ⟨S4, hS4⟩ : ∃ S, S = crc [49, 50, 51, 52] := ⟨_, rfl⟩
  obtain ⟨S5, hS5⟩ : ∃ S, S = crc [53, 54, 55, 56, 57] := ⟨_, rfl⟩
  rw [← hS4] at hl4 hj hx ⊢
  rw [← hS5] at hl5 hj
  have HS4 := Lib.hid hS4
  have HS5 := Lib.hid hS5
  have Hj := Lib.hid hj
  have Hx := Lib.hid hx
  clear hS4 hS5 hj hx
  go_wp2_with fail
  refine (extend_any S4 _ _ _ [53, 54, 55, 56, 57] _ hl4 ?_ (by decide) (by decide)).mono ?_
  · exact Rd.mark_at .u8 5 _ w2 [53, 54, 55, 56, 57] rfl rfl
  rintro e w3 ⟨rfl, hw⟩
  have hE3 : Ext w w3 := by rw [← hw]; repeat (first | exact hE2 | apply Ext.drew | apply Ext.alloc)
  clear hw
  rw [Hx.out]
  go_wp2_with fail
  refine (sum1_any _ [49, 50, 51, 52] _ ?_ (by decide) (by decide)).mono ?_
  · exact RdSS.one _ _ (by simp) (Rd.mark_at .u8 5 _ w3 [49, 50, 51, 52] rfl rfl)
  rintro e w4 ⟨rfl, hw⟩
  have hE4 : Ext w w4 := by rw [← hw]; repeat (first | exact hE3 | apply Ext.drew | apply Ext.alloc)
  clear hw
  rw [← HS4.out]
  go_wp2_with fail
  refine (sum1_any _ [53, 54, 55, 56, 57] _ ?_ (by decide) (by decide)).mono ?_
  · exact RdSS.one _ _ (by simp) (Rd.mark_at .u8 5 _ w4 [53, 54, 55, 56, 57] rfl rfl)
  rintro e w5 ⟨rfl, hw⟩
  have hE5 : Ext w w5 := by rw [← hw]; repeat (first | exact hE4 | apply Ext.drew | apply Ext.alloc)
  clear hw
  rw [← HS5.out]
  go_wp2_with fail
  refine (join_any S4 S5 5 _ hl4 hl5 (by decide)).mono ?_
  rintro e w6 ⟨rfl, rfl⟩
  rw [show (5 : Int).toNat = 5 from rfl, Hj.out]
  go_wp2_with fail
  refine (seal_any _ _ _ [] _ (Rd.nil _ _ _) (by decide) (by decide)).mono ?_
  rintro e w6 ⟨A6, c6, rfl, hown6, he6⟩
  rw [sl_none] at hown6
  go_wp2_with fail
  refine (same_yes ((hown6.rd.ext ((Ext.refl _).alloc _))) ?_ (by decide)).mono ?_
  · exact Rd.lit_at .u8 5 w6 [0, 0, 0, 0] rfl rfl
  rintro e w7 ⟨rfl, q, hw⟩
  have hE7 : Ext w w7 := by rw [hw]; exact ((hE5.trans he6).alloc _).drewN q
  clear hw
  go_wp2_with fail
  refine (sealed_any _ _ _ [0, 0, 0, 0] _ ?_ (by decide) (by decide) (by decide) (by decide)).mono ?_
  · exact Rd.lit_at .u8 5 w7 [0, 0, 0, 0] rfl rfl
  rintro e w8 ⟨rfl, he8⟩
  rw [sld_0]
  go_wp2_with fail
  refine (sealed_any _ _ _ [0, 0, 0, 1] _ ?_ (by decide) (by decide) (by decide) (by decide)).mono ?_
  · exact Rd.lit_at .u8 5 w8 [0, 0, 0, 1] rfl rfl
  rintro e w9 ⟨rfl, he9⟩
  rw [sld_1]
  go_wp2_with fail
  go_ret
  exact ⟨rfl, (((hE7.alloc _).trans he8).alloc _).trans he9⟩

/-- Sealed bytes with a run turned are sealed just where nothing was turned. -/
theorem trn_sld {bs : List Nat} (h : U8 bs) (hs : sld bs) (at_ : Int) {p : Nat} (hp : p < 4294967296) : sld (trn bs at_ p) ↔ trn bs at_ p = bs := by
  unfold trn
  split
  · rename_i hc
    rw [sld_tn h hs hp hc.2.2, tn_eq h hc.2.2]
    constructor
    · rintro rfl; simp
    · intro h0
      rcases Nat.mul_eq_zero.1 h0 with h1 | h1
      · exact h1
      · have := Nat.two_pow_pos at_.toNat; omega
  · exact ⟨fun _ => rfl, fun _ => hs⟩

set_option maxHeartbeats 800000 in
theorem walk_CrcTells (A : Option Addr) (n c : Nat) (bs : List Nat) (at_ p : Int) (w : World) (hx : Rd .u8 w A n bs) (hu : U8 bs) (hn : n ≤ 140737488351232) (_h1 : -9223372036854775808 ≤ at_) (_h2 : at_ ≤ 9223372036854775807) (hp0 : 0 ≤ p) (hp : p < 4294967296) :
    Calls Try.prog 6 #[.slice A n c, .int .i64 at_, .int .u32 p] w fun e w' => e = .returned (.bool true) ∧ Ext w w' := by
  obtain ⟨p, rfl⟩ := Int.eq_ofNat_of_zero_le hp0
  have hpl : p < 4294967296 := by omega
  have hsu := sl_u8 hu
  have hsl : (sl bs).length = n + 4 := by rw [sl_len, hx.len]
  have htl : (trn (sl bs) at_ p).length = n + 4 := by rw [trn_len, hsl]
  have hd1 : decide (sld (sl bs)) = true := decide_eq_true (sld_seal hu)
  have hd2 : (decide (sld (trn (sl bs) at_ p)) == decide (trn (sl bs) at_ p = sl bs)) = true := by
    rw [beq_iff_eq, decide_eq_decide]
    exact trn_sld hsu (sld_seal hu) at_ hpl
  have Hsl := Lib.hid hsl
  have Htl := Lib.hid htl
  have Hd1 := Lib.hid hd1
  have Hd2 := Lib.hid hd2
  clear hsl htl hd1 hd2
  go_enter Try.func6, Try.ntmps6
  go_wp2_with fail
  refine (alive3 _).mono ?_
  rintro e w1 ⟨rfl, he1⟩
  go_wp2_with fail
  refine (copy_any _ _ _ _ _ (hx.ext he1) (by omega)).mono ?_
  rintro e w2 ⟨A2, c2, rfl, hown2, he2⟩
  go_wp2_with fail
  refine (seal_any _ _ _ bs _ (hown2.rd' hx.len) hu (by omega)).mono ?_
  rintro e w3 ⟨A3, c3, rfl, hown3, he3⟩
  obtain ⟨hcap, hcm⟩ := hown3.cap
  rw [Hsl.out] at hcap
  have hr3 := hown3.rd' Hsl.out
  go_wp2_with fail
  refine (turn_any _ _ _ p at_ (sl bs) _ hr3 hsu (by omega) hpl).mono ?_
  rintro e w4 ⟨A4, c4, rfl, hown4, he4⟩
  obtain ⟨hcap4, hcm4⟩ := hown4.cap
  rw [Htl.out] at hcap4
  have hr4 := hown4.rd' Htl.out
  go_wp2_with fail
  refine (sealed_any _ _ _ (sl bs) _ (hr3.ext he4) hsu (by omega) hcap hcm).mono ?_
  rintro e w5 ⟨rfl, he5⟩
  rw [Hd1.out]
  go_wp2_with fail
  refine (sealed_any _ _ _ (trn (sl bs) at_ p) _ (hr4.ext he5) (trn_u8 hsu _ _) (by omega) hcap4 hcm4).mono ?_
  rintro e w6 ⟨rfl, he6⟩
  go_wp2_with fail
  refine (same_any _ _ _ _ _ _ (trn (sl bs) at_ p) (sl bs) _ ((hr4.ext he5).ext he6) (((hr3.ext he4).ext he5).ext he6) (by omega) (by omega)).mono ?_
  rintro e w7 ⟨rfl, q, rfl⟩
  obtain ⟨B1, hB1⟩ : ∃ B, B = decide (sld (trn (sl bs) at_ p)) := ⟨_, rfl⟩
  obtain ⟨B2, hB2⟩ : ∃ B, B = decide (trn (sl bs) at_ p = sl bs) := ⟨_, rfl⟩
  rw [← hB1, ← hB2] at Hd2
  rw [← hB1, ← hB2]
  have hfin := Hd2.out
  have HB1 := Lib.hid hB1
  have HB2 := Lib.hid hB2
  clear hB1 hB2
  go_wp2_with fail
  go_ret
  exact ⟨rfl, (((((he1.trans he2).trans he3).trans he4).trans he5).trans he6).drewN _⟩

end Go.Proofs.Ytcbnjigaajpadaa

/-
  Layer 3: the laws of joined sums, of sealed bytes, of added sums.
-/
namespace Go.Proofs.Ytcbnjigaajpadaa
open Go.RowKit

theorem joined_zero (x y : Nat) : joined x y 0 = x ^^^ y := rfl

set_option maxHeartbeats 800000 in
theorem walk_CrcJoins (A : Option Addr) (n c : Nat) (xs : List Nat) (A2 : Option Addr) (n2 c2 : Nat) (ys : List Nat) (first second m : Int) (w : World) (hx : Rd .u8 w A n xs) (hu : U8 xs) (hn : n ≤ 140737488351232) (hy : Rd .u8 w A2 n2 ys) (hv : U8 ys) (hn2 : n2 ≤ 140737488351232)
    (hf0 : 0 ≤ first) (hf : first < 4294967296) (hs0 : 0 ≤ second) (hs : second < 4294967296) (_hm0 : -9223372036854775808 ≤ m) (hm : m ≤ 9223372036854775807) :
    Calls Try.prog 5 #[.slice A n c, .slice A2 n2 c2, .int .u32 first, .int .u32 second, .int .i64 m] w fun e w' => e = .returned (.bool true) ∧ Ext w w' := by
  obtain ⟨f, rfl⟩ := Int.eq_ofNat_of_zero_le hf0
  obtain ⟨s, rfl⟩ := Int.eq_ofNat_of_zero_le hs0
  have hfl : f < 4294967296 := by omega
  have hsl : s < 4294967296 := by omega
  have hjoin := (crc_append hu ys).symm
  rw [hy.len] at hjoin
  have h1l := crc_lt hu
  have h2l := crc_lt hv
  have hln := hx.len
  have hln2 := hy.len
  have hLx : xs.length ≤ 180000000000000 := by omega
  have hLy : ys.length ≤ 180000000000000 := by omega
  go_enter Try.func5, Try.ntmps5
  clear hln hln2
  go_wp2_with fail
  refine (alive3 _).mono ?_
  rintro e w1 ⟨rfl, he1⟩
  have hx1 := hx.ext he1
  have hy1 := hy.ext he1
  obtain ⟨S1, hS1⟩ : ∃ S, S = crc xs := ⟨_, rfl⟩
  obtain ⟨S2, hS2⟩ : ∃ S, S = crc ys := ⟨_, rfl⟩
  rw [← hS1] at hjoin h1l
  rw [← hS2] at hjoin h2l
  have Hj := Lib.hid hjoin
  have HS1 := Lib.hid hS1
  have HS2 := Lib.hid hS2
  clear hjoin hS1 hS2
  go_wp2_with fail
  refine (sum1_any _ xs _ ?_ hu hLx).mono ?_
  · exact RdSS.one _ _ (by simp) hx1
  rintro e w2 ⟨rfl, hw⟩
  have hE2 : Ext w1 w2 := by rw [← hw]; repeat (first | exact Ext.refl _ | apply Ext.drew | apply Ext.alloc)
  clear hw
  rw [← HS1.out]
  go_wp2_with fail
  refine (sum1_any _ ys _ ?_ hv hLy).mono ?_
  · exact RdSS.one _ _ (by simp) (hy1.ext hE2)
  rintro e w3 ⟨rfl, hw⟩
  have hE3 : Ext w1 w3 := by rw [← hw]; repeat (first | exact hE2 | apply Ext.drew | apply Ext.alloc)
  clear hw
  rw [← HS2.out]
  go_wp2_with fail
  refine (join_any S1 S2 _ _ h1l h2l (by omega)).mono ?_
  rintro e w4 ⟨rfl, rfl⟩
  rw [Int.toNat_natCast, Hj.out]
  go_wp2_with fail
  refine (sum2_any _ xs ys _ ?_ hu hv hLx hLy).mono ?_
  · exact RdSS.two _ _ (by simp) (hx1.ext hE3) (hy1.ext hE3)
  rintro e w5 ⟨rfl, hw⟩
  have hE5 : Ext w w5 := by rw [← hw]; repeat (first | exact he1.trans hE3 | apply Ext.drew | apply Ext.alloc)
  clear hw
  by_cases hpos : 0 < m
  · go_wp2_with fail
    go_ret
    exact ⟨rfl, hE5⟩
  · have b1 : decide (0 < m) = false := by simp; omega
    have h0 : m.toNat = 0 := by omega
    have H0 := Lib.hid h0
    clear h0
    go_wp2_with fail
    refine (join_any f s m _ hfl hsl hm).mono ?_
    rintro e w6 ⟨rfl, rfl⟩
    rw [H0.out, joined_zero]
    have hxo : bits .xor .u32 (f : Int) (s : Int) = ((f ^^^ s : Nat) : Int) := u32_xor_nat _ _ hfl hsl
    go_wp2_with fail
    go_ret
    exact ⟨rfl, hE5⟩

theorem RdSS.drew {w : World} {A : Option Addr} {n : Nat} {xss : List (List Nat)} (h : RdSS w A n xss) : RdSS w.drew A n xss := h

/-- Three rows that were made one behind the other lie apart. -/
theorem apart3 {w2 w3 w4 w5 : World} {A3 A4 A5 : Option Addr} {c3 c4 c5 n : Nat} {xs : List Nat} (h3 : Own .u8 5 w3 w2.heap.size A3 c3 xs) (e3 : Ext w2 w3) (h4 : Own .u8 5 w4 w3.heap.size A4 c4 xs) (e4 : Ext w3 w4)
    (h5 : Own .u8 5 w5 w4.heap.size A5 c5 xs) (e5 : Ext w4 w5) (hl : xs.length = n) (hu : U8 xs) (hn : n + 70 ≤ 180000000000000) :
    Calls Try.prog 14 #[.slice A3 n c3, .slice A4 n c4, .slice A5 n c5] w5 fun e w' => e = .returned (.bool true) ∧ Ext w2 w' := by
  refine apart_any A3 A4 A5 n c3 c4 c5 w2.heap.size xs w2 w5 ((h3.ext e4).ext e5) hl hu ((h4.ext e5).rd' hl) (h5.rd' hl) ?_ ?_ ((e3.trans e4).trans e5) (Nat.le_refl _) ((e3.trans e4).trans e5).size hn
  · intro a a2 ha ha2
    have := (h3.block a ha).2
    have := (h4.block a2 ha2).1
    omega
  · intro a a3 ha ha3
    have := (h3.block a ha).2
    have := (h5.block a3 ha3).1
    have := e4.size
    omega

theorem Ext.undrew {w w' : World} (h : Ext w.drew w') : Ext w w' := ⟨h.os, h.tape, h.output, h.size, h.block⟩

set_option maxHeartbeats 1600000 in
theorem walk_CrcSeals (A : Option Addr) (n c : Nat) (bs : List Nat) (w : World) (hx : Rd .u8 w A n bs) (hu : U8 bs) (hn : n ≤ 140737488351232) :
    Calls Try.prog 4 #[.slice A n c] w fun e w' => e = .returned (.bool true) ∧ Ext w w' := by
  have hsu := sl_u8 hu
  have hd1 : decide (sld (sl bs)) = true := decide_eq_true (sld_seal hu)
  have Hsl := Lib.hid (show (sl bs).length = n + 4 by rw [sl_len, hx.len])
  have Hd1 := Lib.hid hd1
  clear hd1
  go_enter Try.func4, Try.ntmps4
  go_wp2_with fail
  refine (alive3 _).mono ?_
  rintro e w1 ⟨rfl, he1⟩
  go_wp2_with fail
  refine (wide_any _ _ _ _ _ (hx.ext he1) (by omega)).mono ?_
  rintro e w2 ⟨A2, c2, rfl, hown2, he2⟩
  have hr2 := hown2.rd_take (n := n) (by rw [List.length_append, hx.len]; omega)
  rw [List.take_left' hx.len] at hr2
  have hri := hown2.rd' (n := n + 64) (by rw [List.length_append, hx.len]; rfl)
  obtain ⟨b, rfl, _, hb, hcap, hcm⟩ := hown2.form (by rw [List.length_append, marks_len]; omega)
  rw [List.length_append, hx.len, marks_len] at hcap
  have hx2 := (hx.ext he1).ext he2
  have hE2 := he1.trans he2
  have hnc : n ≤ c2 := by omega
  clear hown2 hx
  have tok1 : True := trivial
  go_wp2_with fail
  go_region_with (first
    | (go_at_call 15; have _t := tok1; refine (seal_any _ _ _ bs _ ?_ hu (by omega)).mono ?_; exact hr2; rintro e w3 ⟨A3, c3, rfl, hown3, he3⟩; clear _t tok1)
    | (go_at_call 15; refine (seal_any _ _ _ bs _ ?_ hu (by omega)).mono ?_; exact hr2.ext he3.undrew; rintro e w4 ⟨A4, c4, rfl, hown4, he4⟩)
    | (go_at_call 16; refine (refSeal_any _ _ _ bs _ ?_ hu (by omega)).mono ?_; exact (hx2.ext he3.undrew).ext he4; rintro e w5 ⟨A5, c5, rfl, hown5, he5⟩)
    | (go_at_call 14; refine (apart3 hown3 he3 hown4 he4 hown5 he5 Hsl.out hsu (by omega)).mono ?_; rintro e w6 ⟨rfl, he6⟩)
    | (go_at_call 13; refine (intact_yes (ys := bs) ?_ ?_ (by omega) (by omega)).mono ?_; exact hri.ext he6.undrew; exact hx2.ext he6.undrew; rintro e w7 ⟨rfl, q, rfl⟩))
  have hE6 : Ext w2 (w6.drewN q) := (he6.undrew).drewN q
  obtain ⟨w7, hw7⟩ : ∃ w7, w7 = w6.drewN q := ⟨_, rfl⟩
  rw [← hw7] at hE6
  go_wp2_with fail
  refine (sealed_any _ _ _ bs _ ?_ hu (by omega) hnc hcm).mono ?_
  · exact hr2.ext (he6.undrew.drewN q)
  rintro e w8 ⟨rfl, he8⟩
  have hE8 : Ext w2 w8 := (he6.undrew.drewN q).trans he8
  clear hw7 hE6
  go_wp2_with fail
  refine (refSealed_any _ _ _ bs _ (hx2.ext hE8) hu (by omega)).mono ?_
  rintro e w9 ⟨rfl, he9⟩
  obtain ⟨B1, hB1⟩ : ∃ B, B = decide (sld bs) := ⟨_, rfl⟩
  rw [← hB1]
  clear hB1
  go_wp2_with fail
  refine (seal_any _ _ _ bs _ (hx2.ext (hE8.trans he9)) hu (by omega)).mono ?_
  rintro e w10 ⟨A10, c10, rfl, hown10, he10⟩
  obtain ⟨hcap10, hcm10⟩ := hown10.cap
  rw [Hsl.out] at hcap10
  go_wp2_with fail
  refine (sealed_any _ _ _ (sl bs) _ (hown10.rd' Hsl.out) hsu (by omega) hcap10 hcm10).mono ?_
  rintro e w11 ⟨rfl, he11⟩
  rw [Hd1.out]
  have hE11 := ((hE8.trans he9).trans he10).trans he11
  go_wp2_with fail
  refine (intact_yes (ys := bs) (hri.ext hE11) (hx2.ext hE11) (by omega) (by omega)).mono ?_
  rintro e w12 ⟨rfl, q2, rfl⟩
  go_wp2_with fail
  go_ret
  exact ⟨rfl, (hE2.trans hE11).drewN _⟩

theorem Rd.take {k : IntKind} {w : World} {b o n : Nat} {xs : List Nat} (h : Rd k w (some ⟨b, o, none⟩) n xs) {m : Nat} (hm : m ≤ n) : Rd k w (some ⟨b, o, none⟩) m (xs.take m) :=
  ⟨by rw [List.length_take, h.len]; omega, fun h0 => by
    obtain ⟨b', o', e, hlt, hc⟩ := h.2 (by omega)
    injection e with e
    injection e with e1 e2
    subst e1 e2
    exact ⟨b, o, rfl, hlt, fun j hj => by rw [hc j (by omega)]; simp [List.getD, hj]⟩⟩
theorem Rd.drop {k : IntKind} {w : World} {b o n : Nat} {xs : List Nat} (h : Rd k w (some ⟨b, o, none⟩) n xs) {m : Nat} (hm : m ≤ n) : Rd k w (some ⟨b, o + m, none⟩) (n - m) (xs.drop m) :=
  ⟨by rw [List.length_drop, h.len], fun h0 => by
    obtain ⟨b', o', e, hlt, hc⟩ := h.2 (by omega)
    injection e with e
    injection e with e1 e2
    subst e1 e2
    exact ⟨b, o + m, rfl, hlt, fun j hj => by rw [Nat.add_assoc, hc (m + j) (by omega)]; simp [List.getD]⟩⟩

end Go.Proofs.Ytcbnjigaajpadaa

/-
  Layer 3: the law of added sums.
-/
namespace Go.Proofs.Ytcbnjigaajpadaa
open Go.RowKit

/-- 'append(out, x)' as one step of a region that draws. -/
theorem step_push {P : Program} {w0 w : World} {ops : Array Oper} {o : Oper} {a : Act} {K : Act → World → Prop} {Q : Exit → Act → World → Prop} {E : Prop} (k : IntKind) (x : Nat) (e : TypeId) (hgd : o.guard = none) (s y : Operand) (t : TypeId)
    (ho : o.op = .call { callee := .builtin .append, args := #[s, y], argTypes := #[t, t] })
    (z : Value) (bytes : Nat) (ht : P.underlying t = some (.slice e)) (hi : (P.info? e).map (fun i => (i.zero, i.size, i.bytes)) = some (some z, 1, bytes)) (hzs : z.cells.size = 1)
    {base : Nat} {A : Option Addr} {c : Nat} {xs : List Nat} (hown : Own k e w base A c xs) (n : Nat) (hn : xs.length = n) (hs : a.eval s = .slice A n c)
    {g : Nat} (hy : a.eval y = .slice (some ⟨g, 0, none⟩) 1 1) (hc : w.cell? ⟨g, 0, none⟩ = some (.int k (x : Int))) (hlen : ((n + 1) + (n + 1) / 4 + 192) * bytes ≤ 281474976710656) (hby : 0 < bytes) (hb : Below base w0 w) (hbase : base ≤ w.heap.size)
    (h : ∀ A' c' w', Own k e w' base A' c' (xs ++ [x]) → Below base w0 w' → base ≤ w'.heap.size → K (a.put o.dst (.slice A' (n + 1) c')) w') :
    if Region.wanted o (yielded ops a.tmps) = true then Oper.wp P o a w K Q else E := by
  have hw : Region.wanted o (yielded ops a.tmps) = true := by simp [Region.wanted, hgd]
  rw [if_pos hw]
  subst hn
  obtain ⟨i, hi0, hz, hsz, hbs⟩ := info_parts hi
  have hle : xs.length + 1 ≤ 281474976710656 := Nat.le_trans (Nat.le_trans (by omega) (Nat.le_mul_of_pos_right ((xs.length + 1) + (xs.length + 1) / 4 + 192) hby)) hlen
  refine wp_append_own_wide w s y t ho base e i z 1 bytes ht hi0 hz hsz hbs hzs (by decide) _ xs.length (xs.map fun x : Nat => Value.int k (x : Int)) hs hown
    ⟨g, 0, none⟩ 1 1 [.int k (x : Int)] hy rfl ?_ ?_ (by unfold maxLen; omega) hlen hbase ?_
  · intro j u hj
    match j, hj with
    | 0, hj => simp at hj; subst hj; simpa [Addr.add] using hc
  · intro u hu; simp at hu; subst hu; rfl
  · intro v' w' hown' hg _
    have hform : ∃ A' c', v' = .slice A' (xs.length + 1) c' := by
      rcases hown'.2 with ⟨_, h0⟩ | ⟨g, cap, cur, hv, _⟩
      · omega
      · exact ⟨_, _, hv⟩
    obtain ⟨A', c', rfl⟩ := hform
    have hb' : Below base w0 w' := Below.grown hb hg hbase (fun g hg' => (hown.lt g hg').1)
    refine h A' c' w' ?_ hb' ?_
    · unfold Own
      simpa using hown'
    · have := hg.size
      omega

theorem heap_last (w : World) (o : Obj) {g : Nat} (h : g = w.heap.size) : (w.alloc o).heap[g]? = some o := by subst h; exact heap_alloc_new w o
theorem heap_prev (w : World) (o : Obj) {g : Nat} {x : Obj} (h : g < w.heap.size) (k : w.heap[g]? = some x) : (w.alloc o).heap[g]? = some x := (Go.heap_alloc_old w o h).trans k
theorem heap_dr (w : World) {g : Nat} {x : Obj} (k : w.heap[g]? = some x) : w.drew.heap[g]? = some x := k
theorem RdSS.of_block {w : World} {g n c : Nat} {A : Option Addr} {e : TypeId} {xs : List Nat} (hb : w.heap[g]? = some (.cells #[.slice A n c] e)) (h : Rd .u8 w A n xs) : RdSS w (some ⟨g, 0, none⟩) 1 [xs] :=
  ⟨rfl, fun _ => ⟨g, 0, rfl, (Array.getElem?_eq_some_iff.1 hb).1, fun j hj => by
    obtain rfl : j = 0 := by omega
    exact ⟨A, n, c, cell_of_row w g 0 _ e (0, 0) hb, h⟩⟩⟩

theorem xor3_take {x y z : List Nat} {j : Nat} (h1 : j < x.length) (h2 : j < y.length) (h3 : j < z.length) :
    xor3 (x.take (j + 1)) (y.take (j + 1)) (z.take (j + 1)) = xor3 (x.take j) (y.take j) (z.take j) ++ [x.getD j 0 ^^^ y.getD j 0 ^^^ z.getD j 0] := by
  induction j generalizing x y z with
  | zero =>
    match x, y, z, h1, h2, h3 with
    | a :: x, b :: y, c :: z, _, _, _ => simp [xor3]
  | succ j ih =>
    match x, y, z, h1, h2, h3 with
    | a :: x, b :: y, c :: z, h1, h2, h3 =>
      simp only [List.length_cons] at h1 h2 h3
      have := ih (x := x) (y := y) (z := z) (by omega) (by omega) (by omega)
      simp only [List.take_succ_cons, xor3, List.getD_cons_succ, List.cons_append, this]
theorem xor3_len {x y z : List Nat} (h1 : y.length = x.length) (h2 : z.length = x.length) : (xor3 x y z).length = x.length := by
  induction x generalizing y z with
  | nil => rfl
  | cons a x ih =>
    match y, z, h1, h2 with
    | b :: y, c :: z, h1, h2 => simp only [xor3, List.length_cons]; rw [ih (by simpa using h1) (by simpa using h2)]
theorem xor3_u8 {x y z : List Nat} (hx : U8 x) (hy : U8 y) (hz : U8 z) : U8 (xor3 x y z) := by
  induction x generalizing y z with
  | nil => intro v hv; cases hv
  | cons a x ih =>
    match y, z with
    | [], _ => intro v hv; cases hv
    | b :: y, [] => intro v hv; cases hv
    | b :: y, c :: z =>
      intro v hv
      rw [xor3] at hv
      rcases List.mem_cons.1 hv with rfl | hv
      · exact Nat.xor_lt_two_pow (n := 8) (Nat.xor_lt_two_pow (n := 8) (hx a (by simp)) (hy b (by simp))) (hz c (by simp))
      · exact ih (fun v h => hx v (by simp [h])) (fun v h => hy v (by simp [h])) (fun v h => hz v (by simp [h])) v hv

theorem Rd.take_any {k : IntKind} {w : World} {A : Option Addr} {n : Nat} {xs : List Nat} (h : Rd k w A n xs) {m : Nat} (hm : m ≤ n) : Rd k w A m (xs.take m) :=
  ⟨by rw [List.length_take, h.len]; omega, fun h0 => by
    obtain ⟨b, o, e, hlt, hc⟩ := h.2 (by omega)
    exact ⟨b, o, e, hlt, fun j hj => by rw [hc j (by omega)]; simp [List.getD, hj]⟩⟩

end Go.Proofs.Ytcbnjigaajpadaa

/-
  A region that draws its order, by an invariant over what has come up.
-/
namespace Go.Proofs.Ytcbnjigaajpadaa
open Go

theorem getD_false {l : Array Bool} {i : Nat} (h : l.getD i true = false) : l.toList[i]? = some false := by
  rw [Array.getD_eq_getD_getElem?] at h
  rw [Array.getElem?_toList]
  cases hi : l[i]? with
  | none => rw [hi] at h; cases h
  | some b => rw [hi] at h; exact congrArg some h

theorem count_turn {l : Array Bool} {i : Nat} (h : l.getD i true = false) : (l.setIfInBounds i true).toList.count false + 1 = l.toList.count false := by
  have h0 := getD_false h
  obtain ⟨hi, h1⟩ := List.getElem?_eq_some_iff.1 h0
  have : 0 < l.toList.count false := List.count_pos_iff.2 (List.mem_of_getElem? h0)
  rw [Array.toList_setIfInBounds, List.count_set hi, h1, if_pos (by decide), if_neg (by decide)]
  omega

theorem wpAny_inv {P : Program} {md : Region.Mode} {ops : Array Oper} {Q : Exit → Act → World → Prop} (I : Array Bool → Act → World → Prop)
    (hstep : ∀ listed a w i, I listed a w → i ∈ Region.ready md ops listed → wpOp P ops Q i (I (listed.setIfInBounds i true)) a w)
    (hdone : ∀ listed a w, I listed a w → Region.ready md ops listed = [] → Q .normal a w) :
    ∀ (fuel : Nat) (listed : Array Bool) (a : Act) (w : World), listed.toList.count false ≤ fuel → I listed a w → wpAny P md ops Q fuel listed a w
  | 0, listed, a, w, hf, h => by
    have hr : Region.ready md ops listed = [] := by
      rw [List.eq_nil_iff_forall_not_mem]
      intro i hi
      have := count_turn (mem_ready.1 hi).1
      omega
    exact ⟨hr, hdone _ _ _ h hr⟩
  | fuel + 1, listed, a, w, hf, h =>
    ⟨fun hr => hdone _ _ _ h hr, fun i hi => wpOp_mono (fun a' w' h' => wpAny_inv I hstep hdone fuel _ a' w' (by have := count_turn (mem_ready.1 hi).1; omega) h') (hstep listed a w i h hi)⟩

end Go.Proofs.Ytcbnjigaajpadaa

/-
  A region that draws its order: what each of its operations leaves, whichever order they come up in.
-/
namespace Go.Proofs.Ytcbnjigaajpadaa
open Go Go.RowKit

theorem evalSame (a : Act) (d : Nat) (v : Value) (h : d < a.tmps.size) : (a.put (some d) v).eval (.tmp d) = v := by
  simp [Act.put, Act.eval, h]
theorem evalNe (a : Act) (d j : Nat) (v : Value) (h : d ≠ j) : (a.put (some d) v).eval (.tmp j) = a.eval (.tmp j) := by
  simp [Act.put, Act.eval, Array.getD_eq_getD_getElem?, h]

/-- Each operation has a slot of its own, and waits for earlier ones alone. -/
def okR (n : Nat) (ops : Array Oper) : Bool :=
  (List.range ops.size).all (fun j => match ops[j]? with
    | some o => (match o.dst with | some d => decide (d < n) | none => false) && o.after.all (fun e => !(Region.binds .any e) || decide (e.on < j))
    | none => true) &&
  (List.range ops.size).all (fun i => (List.range ops.size).all fun j => i == j || decide ((ops[i]?).bind (·.dst) ≠ (ops[j]?).bind (·.dst)))

theorem okR_at {n : Nat} {ops : Array Oper} (h : okR n ops = true) {j : Nat} {o : Oper} (hj : ops[j]? = some o) :
    (∃ d, o.dst = some d ∧ d < n) ∧ ∀ e ∈ o.after, Region.binds .any e = true → e.on < j := by
  have hlt : j < ops.size := (Array.getElem?_eq_some_iff.1 hj).1
  unfold okR at h
  rw [Bool.and_eq_true] at h
  have h1 := List.all_eq_true.1 h.1 j (List.mem_range.2 hlt)
  rw [hj] at h1
  simp only [Bool.and_eq_true] at h1
  obtain ⟨h2, h3⟩ := h1
  constructor
  · cases hd : o.dst with
    | none => rw [hd] at h2; cases h2
    | some d => rw [hd] at h2; exact ⟨d, rfl, of_decide_eq_true h2⟩
  · intro e he hb
    obtain ⟨i, hi, rfl⟩ := Array.mem_iff_getElem.1 he
    have h5 := (Array.all_eq_true.1 h3) i hi
    rw [hb] at h5
    simpa using h5

theorem okR_ne {n : Nat} {ops : Array Oper} (h : okR n ops = true) {i j : Nat} {o p : Oper} (hi : ops[i]? = some o) (hj : ops[j]? = some p) (hij : i ≠ j) : o.dst ≠ p.dst := by
  have h1 : i < ops.size := (Array.getElem?_eq_some_iff.1 hi).1
  have h2 : j < ops.size := (Array.getElem?_eq_some_iff.1 hj).1
  unfold okR at h
  rw [Bool.and_eq_true] at h
  have h3 := List.all_eq_true.1 (List.all_eq_true.1 h.2 i (List.mem_range.2 h1)) j (List.mem_range.2 h2)
  rw [hi, hj] at h3
  simpa [hij] using h3

theorem all_listed {n : Nat} {ops : Array Oper} {listed : Array Bool} (h : okR n ops = true) (hs : listed.size = ops.size) (hr : Region.ready .any ops listed = []) :
    ∀ (m j : Nat), j < m → j < ops.size → listed.getD j false = true
  | 0, j, hm, _ => absurd hm (Nat.not_lt_zero _)
  | m + 1, j, hm, hj => by
    have hjo : ops[j]? = some ops[j] := Array.getElem?_eq_getElem hj
    have hjl : listed[j]? = some listed[j] := Array.getElem?_eq_getElem (by omega)
    cases hv : listed[j] with
    | true => rw [Array.getD_eq_getD_getElem?, hjl, hv]; rfl
    | false =>
      have : j ∈ Region.ready .any ops listed := by
        refine mem_ready.2 ⟨by rw [Array.getD_eq_getD_getElem?, hjl, hv]; rfl, ops[j], hjo, fun e he hb => ?_⟩
        have := (okR_at h hjo).2 e he hb
        exact all_listed h hs hr m e.on (by omega) (by omega)
      rw [hr] at this
      cases this

theorem wp_region_posts {P : Program} {ops : Array Oper} {Q : Exit → Act → World → Prop} {id : Nat} {a0 : Act} {w0 : World} (hm : P.follows .mixedOrders = true)
    (hok : okR a0.tmps.size ops = true) (Post : Nat → Value → World → Prop) (stable : ∀ j v w w', Post j v w → Ext w w' → Post j v w')
    (hstep : ∀ i o a w, ops[i]? = some o → Ext w0 w → (∀ s, (∀ (j : Nat) oj, ops[j]? = some oj → oj.dst ≠ some s) → a.eval (.tmp s) = a0.eval (.tmp s)) →
      (∀ e ∈ o.after, Region.binds .any e = true → ∀ oe d, ops[e.on]? = some oe → oe.dst = some d → Post e.on (a.eval (.tmp d)) w) →
      ∀ K : Act → World → Prop, (∀ v w', Ext w w' → Post i v w' → K (a.put o.dst v) w') → wpOp P ops Q i K a w)
    (hdone : ∀ a w, Ext w0 w → a.defers = a0.defers → a.tmps.size = a0.tmps.size → (∀ s, (∀ (j : Nat) oj, ops[j]? = some oj → oj.dst ≠ some s) → a.eval (.tmp s) = a0.eval (.tmp s)) →
      (∀ (j : Nat) oj d, ops[j]? = some oj → oj.dst = some d → Post j (a.eval (.tmp d)) w) → Q .normal a w) :
    (Code.region id ops true).wp P Q a0 w0 := by
  refine wp_region_any hm ?_
  refine wpAny_inv (fun listed a w => listed.size = ops.size ∧ Ext w0 w ∧ a.defers = a0.defers ∧ a.tmps.size = a0.tmps.size ∧
      (∀ s, (∀ (j : Nat) oj, ops[j]? = some oj → oj.dst ≠ some s) → a.eval (.tmp s) = a0.eval (.tmp s)) ∧
      (∀ (j : Nat) oj d, ops[j]? = some oj → oj.dst = some d → listed.getD j false = true → Post j (a.eval (.tmp d)) w)) ?_ ?_ _ _ _ _ ?_ ?_
  · rintro listed a w i ⟨h1, h2, h3, h4, h5, h6⟩ hi
    obtain ⟨hl, o, ho, hall⟩ := mem_ready.1 hi
    have hil : i < ops.size := (Array.getElem?_eq_some_iff.1 ho).1
    obtain ⟨d, hd, hdn⟩ := (okR_at hok ho).1
    refine hstep i o a w ho h2 h5 (fun e he hb oe d' h7 h8 => h6 _ _ _ h7 h8 (hall e he hb)) _ (fun v w' hE hP => ?_)
    rw [hd]
    refine ⟨by simp [h1], h2.trans hE, h3, by simp [Act.put, h4], fun s hs => ?_, fun j oj d' hj hd' hlj => ?_⟩
    · have : d ≠ s := fun e => hs i o ho (by rw [hd, e])
      rw [evalNe _ _ _ _ this]
      exact h5 s hs
    · by_cases hji : j = i
      · subst hji
        rw [ho] at hj
        injection hj with hj
        subst hj
        rw [hd] at hd'
        injection hd' with hd'
        subst hd'
        rw [evalSame _ _ _ (show _ < a.tmps.size from h4 ▸ hdn)]
        exact hP
      · have hne := okR_ne hok ho hj (Ne.symm hji)
        rw [hd, hd'] at hne
        rw [evalNe _ _ _ _ (fun e => hne (congrArg some e))]
        have hlj' : listed.getD j false = true := by
          rw [Array.getD_eq_getD_getElem?] at hlj ⊢
          rw [Array.getElem?_setIfInBounds, if_neg (Ne.symm hji)] at hlj
          exact hlj
        exact stable _ _ _ _ (h6 j oj d' hj hd' hlj') hE
  · rintro listed a w ⟨h1, h2, h3, h4, h5, h6⟩ hr
    exact hdone a w h2 h3 h4 h5 (fun j oj d hj hd => h6 j oj d hj hd (all_listed hok h1 hr _ j (Nat.lt_succ_self j) (Array.getElem?_eq_some_iff.1 hj).1))
  · rw [Array.toList_replicate, List.count_replicate_self]
    exact Nat.le_refl _
  · refine ⟨by simp, (Ext.refl w0).drew, rfl, rfl, fun _ _ => rfl, fun j oj d hj hd hl => ?_⟩
    rw [Array.getD_eq_getD_getElem?, Array.getElem?_replicate] at hl
    split at hl <;> cases hl

/-- No operation writes this slot. -/
def notDst (ops : Array Oper) (s : Nat) : Bool := ops.all fun o => o.dst != some s
theorem notDst_spec {ops : Array Oper} {s : Nat} (h : notDst ops s = true) : ∀ (j : Nat) oj, ops[j]? = some oj → oj.dst ≠ some s := fun j oj hj e => by
  obtain ⟨hl, rfl⟩ := Array.getElem?_eq_some_iff.1 hj
  have := Array.all_eq_true.1 h j hl
  rw [e] at this
  simp at this

/-- What an operation leaves: this very value, or a new row of one slice. -/
inductive Lv where
  | val (v : Value)
  | row (x : Value)
def Lv.ok (e : TypeId) : Lv → Value → World → Prop
  | .val x, v, _ => v = x
  | .row x, v, w => ∃ g, v = .slice (some ⟨g, 0, none⟩) 1 1 ∧ w.heap[g]? = some (.cells #[x] e)
theorem Lv.stable {e : TypeId} {d : Lv} {v : Value} {w w' : World} (h : d.ok e v w) (he : Ext w w') : d.ok e v w' := by
  cases d with
  | val x => exact h
  | row x =>
    obtain ⟨g, h1, h2⟩ := h
    exact ⟨g, h1, (he.block g (Array.getElem?_eq_some_iff.1 h2).1).trans h2⟩

/-- An operation without a guard, by its step. -/
theorem op_by {P : Program} {ops : Array Oper} {Q : Exit → Act → World → Prop} {i : Nat} {o : Oper} {a : Act} {w : World} {K : Act → World → Prop} (hi : ops[i]? = some o) (hg : o.guard = none)
    (h : Oper.wp P o a w K Q) : wpOp P ops Q i K a w := by
  unfold wpOp
  simp only [hi]
  rw [if_pos (by simp [Region.wanted, hg])]
  exact .inl h

theorem lt_succ_all {n : Nat} {p : Nat → Prop} (h : ∀ i, i < n → p i) (h1 : p n) : ∀ i, i < n + 1 → p i := fun i hi => by
  rcases Nat.lt_or_eq_of_le (Nat.le_of_lt_succ hi) with h2 | h2
  · exact h i h2
  · exact h2 ▸ h1

end Go.Proofs.Ytcbnjigaajpadaa

/-
  Layer 3: the steps of the law of added sums, one by one, whatever came up ahead of them.
-/
namespace Go.Proofs.Ytcbnjigaajpadaa
open Go.RowKit
set_option maxRecDepth 100000

section
variable {o : Oper} {a : Act} {w : World}
theorem o_move {x : Operand} (ho : o.op = .move x) : (execOp a.eval o).run Try.prog w = .ok (.value (a.eval x)) w := by
  unfold execOp
  rw [ho]
  rfl
theorem o_assign {x : Operand} (ho : o.op = .assign x) : (execOp a.eval o).run Try.prog w = .ok (.value (a.eval x)) w := by
  unfold execOp
  rw [ho]
  rfl
theorem o_slice {s t : Nat} {A : Option Addr} {n c j : Nat} (ho : o.op = .slice 22 (.tmp s) none (some (.tmp t)) none) (h1 : a.eval (.tmp s) = .slice A n c) (h2 : a.eval (.tmp t) = .int .i64 (j : Int)) (hj0 : (0 : Int) ≤ (j : Int)) (hi : (j : Int) ≤ (c : Int)) :
    (execOp a.eval o).run Try.prog w = .ok (.value (.slice A j c)) w := by
  unfold execOp
  rw [ho]
  simp only [h1, h2, Option.map_some, Option.map_none]
  go_simp
theorem o_row {x : Operand} {A : Option Addr} {n c : Nat} (ho : o.op = .buildSlice 37 1 #[(0, x)]) (h1 : a.eval x = .slice A n c) :
    (execOp a.eval o).run Try.prog w = .ok (.value (.slice (some ⟨w.heap.size, 0, none⟩) 1 1)) (w.alloc (.cells #[.slice A n c] 22)) := by
  unfold execOp
  rw [ho]
  simp only [List.map_toArray, List.map_cons, h1, List.map_nil]
  go_simp
theorem o_xor {s t : Nat} {S1 S2 : Nat} (ho : o.op = .binOp BinOp.xor 25 (.tmp s) (.tmp t) 25) (h1 : a.eval (.tmp s) = .int .u32 (S1 : Int)) (h2 : a.eval (.tmp t) = .int .u32 (S2 : Int)) (e1 : bits .xor .u32 (S1 : Int) (S2 : Int) = ((S1 ^^^ S2 : Nat) : Int)) :
    (execOp a.eval o).run Try.prog w = .ok (.value (.int .u32 ((S1 ^^^ S2 : Nat) : Int))) w := by
  unfold execOp
  rw [ho]
  simp only [h1, h2]
  go_simp
theorem o_eql {s t : Nat} {S : Nat} (ho : o.op = .binOp BinOp.eql 25 (.tmp s) (.tmp t) 25) (h1 : a.eval (.tmp s) = .int .u32 (S : Int)) (h2 : a.eval (.tmp t) = .int .u32 (S : Int)) :
    (execOp a.eval o).run Try.prog w = .ok (.value (.bool true)) w := by
  unfold execOp
  rw [ho]
  simp only [h1, h2]
  go_simp
theorem o_call {s : Nat} {x : Value} {K : Act → World → Prop} {Q : Exit → Act → World → Prop} {S : Nat} (ho : o.op = .call { callee := .value (.func 11), args := #[.tmp s], argTypes := #[37] }) (h1 : a.eval (.tmp s) = x)
    (hc : Calls Try.prog 11 #[x] w fun e w' => e = .returned (.int .u32 (S : Int)) ∧ w = w') (hk : K (a.put o.dst (.int .u32 (S : Int))) w) : Oper.wp Try.prog o a w K Q := by
  have h1' : a.tmps[s]?.getD undef = x := by
    rw [← h1]
    simp [Act.eval, Array.getD_eq_getD_getElem?]
  unfold Oper.wp execOp
  rw [ho]
  go_simp
  (with_reducible refine hc.mono ?_)
  rintro e w1 ⟨rfl, rfl⟩
  exact hk
end

theorem op_val {P : Program} {ops : Array Oper} {Q : Exit → Act → World → Prop} {i : Nat} {o : Oper} {a : Act} {w w' : World} {K : Act → World → Prop} {v : Value} (hi : ops[i]? = some o) (hg : o.guard = none)
    (h : (execOp a.eval o).run P w = .ok (.value v) w') (hk : K (a.put o.dst v) w') : wpOp P ops Q i K a w := by
  refine op_by hi hg ?_
  unfold Oper.wp
  rw [h]
  exact hk

/-- What each step of the last line leaves. -/
def addW (x a b c p q r m s s1 s2 s12 s3 : Value) : Nat → Lv
  | 0 => .val x
  | 1 => .row x
  | 2 => .val s
  | 3 => .val a
  | 4 => .val m
  | 5 => .val p
  | 6 => .row p
  | 7 => .val s1
  | 8 => .val b
  | 9 => .val m
  | 10 => .val q
  | 11 => .row q
  | 12 => .val s2
  | 13 => .val s12
  | 14 => .val c
  | 15 => .val m
  | 16 => .val r
  | 17 => .row r
  | 18 => .val s3
  | 19 => .val s
  | _ => .val (.bool true)

end Go.Proofs.Ytcbnjigaajpadaa
