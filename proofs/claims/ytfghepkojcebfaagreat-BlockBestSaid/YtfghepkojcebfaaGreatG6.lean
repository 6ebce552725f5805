import Derived.Test.YtfghepkojcebfaaGreatG5
import Derived.Lib.AppendZeros
import Derived.Laws.CopyOwn
import Derived.Deep.RegionLaw
import Derived.Deep.WholeRow
import Derived.Stop.BytesEq
import Derived.Test.YtfghepkojcebfaaGreatG4
import Derived.Test.YtfghepkojcebfaaGreatG1
import Derived.Test.YtfghepkojcebfaaGreatG3
import Derived.Test.YtfghepkojcebfaaGreatG2

/-
  The document's answers of layer 3, by definition: numbers read from bytes, sealed bytes.
-/
namespace Go.Proofs.YtfghepkojcebfaaGreat
open Go.RowKit
set_option maxRecDepth 100000

theorem digit_up {N i : Nat} : N / 2 ^ (8 * i) = N / 2 ^ (8 * (i + 1)) * 256 + N / 2 ^ (8 * i) % 2 ^ 8 := by
  have h : N / 2 ^ (8 * (i + 1)) = N / 2 ^ (8 * i) / 256 := by rw [Nat.mul_succ, Nat.pow_add, Nat.div_div_eq_div_mul]
  rw [h]
  omega

set_option maxHeartbeats 400000 in
theorem value_any (A : Option Addr) (n c a m : Nat) (bs : List Nat) (w : World) (hx : Rd .u8 w A n bs) (hu : U8 bs) (hn : n ≤ 180000000000000) (ha : a + m ≤ n) (hm : m ≤ 8) :
    Calls Tryz.prog 71 #[.slice A n c, .int .i64 a, .int .i64 m] w fun e w' => e = .returned (.tuple #[.int .u64 (pk 8 (cut bs a m) : Nat), .bool true]) ∧ w = w' := by
  have hl := hx.len
  have hcl := cut_len (bs := bs) (a := a) (m := m) (by omega)
  have hcu := cut_u8 hu a m
  obtain ⟨N, hN⟩ : ∃ N, N = pk 8 (cut bs a m) := ⟨_, rfl⟩
  have hNl : N < 2 ^ (8 * m) := by have := pk_lt (U8_wd.1 hcu); rwa [hcl, ← hN] at this
  have hN64 : N < 18446744073709551616 := Nat.lt_of_lt_of_le hNl (by have := Nat.pow_le_pow_right (show 0 < 2 by omega) (show 8 * m ≤ 64 by omega); simpa using this)
  have hdig : ∀ i, i < m → N / 2 ^ (8 * i) % 2 ^ 8 = bs.getD (a + i) 0 := fun i hi => by rw [hN, pk_at (U8_wd.1 hcu), cut_at hi]
  rw [← hN]
  have Hl := Lib.hid hl
  have HN := Lib.hid hNl
  have H64 := Lib.hid hN64
  have Hd := Lib.hid hdig
  clear hl hcl hcu hN hNl hN64 hdig
  have b1 : decide ((a : Int) < 0) = false := by simp
  go_enter Tryz.func71, Tryz.ntmps71
  go_wp2
  go_loop [8, 9] (fun v i => ∃ j : Nat, j ≤ m ∧ i = .int .i64 ((j : Int) - 1) ∧ v = .int .u64 (N / 2 ^ (8 * j) : Nat)) (fun _ i => (intOf i + 1).toNat)
  case atStart => exact ⟨m, Nat.le_refl _, by go_num, by rw [Nat.div_eq_of_lt HN.out]; rfl⟩
  case round =>
    obtain ⟨j, hj, rfl, rfl⟩ := hrel
    by_cases hpos : 0 < j
    · obtain ⟨i, rfl⟩ : ∃ i, j = i + 1 := ⟨j - 1, by omega⟩
      obtain ⟨b, o, rfl, hbl, hc⟩ := hx.at_ (show a + i < n by omega)
      have hup := digit_up (N := N) (i := i)
      rw [Hd.out i (by omega)] at hup
      have hv := hu.at_ (a + i)
      have hle : N / 2 ^ (8 * i) < 18446744073709551616 := Nat.lt_of_le_of_lt (Nat.div_le_self _ _) H64.out
      obtain ⟨x, hx'⟩ : ∃ x, x = bs.getD (a + i) 0 := ⟨_, rfl⟩
      obtain ⟨V, hV⟩ : ∃ V, V = N / 2 ^ (8 * (i + 1)) := ⟨_, rfl⟩
      rw [← hx'] at hc hup hv
      rw [← hV] at hup ⊢
      rw [hup] at hle
      have Hup := Lib.hid hup
      clear hup hx' hV
      go_wp2
      go_round
      case rel => exact ⟨i, by omega, by go_num, by rw [Hup.out]; go_num⟩
      case measure => simp [intOf]
    · obtain rfl : j = 0 := by omega
      rw [Nat.mul_zero, Nat.pow_zero, Nat.div_one]
      go_wp2
      go_ret2
      exact ⟨rfl, rfl⟩

/-- The bytes with their sum behind them. -/
def sl (bs : List Nat) : List Nat := bs ++ upk 8 4 (crc bs)
theorem sl_len (bs : List Nat) : (sl bs).length = bs.length + 4 := by rw [sl, List.length_append, upk_len]
theorem sl_u8 {bs : List Nat} (h : U8 bs) : U8 (sl bs) := u8_append h (U8_wd.2 (upk_wd _ _ _))

set_option maxHeartbeats 400000 in
theorem refSeal_any (A : Option Addr) (n c : Nat) (bs : List Nat) (w : World) (hx : Rd .u8 w A n bs) (hu : U8 bs) (hn : n + 4 ≤ 180000000000000) :
    Calls Tryz.prog 26 #[.slice A n c] w fun e w' => ∃ A' c', e = .returned (.slice A' (n + 4 : Nat) c') ∧ Own .u8 5 w' w.heap.size A' c' (sl bs) ∧ Ext w w' := by
  have hcr := crc_lt hu
  go_enter Tryz.func26, Tryz.ntmps26
  go_wp2_with fail
  refine (refSum_any _ _ _ _ _ hx hu (by omega)).mono ?_
  rintro e w1 ⟨rfl, rfl⟩
  go_wp2_with fail
  refine (low_any (crc bs) 4 _ (by omega) (by omega)).mono ?_
  rintro e w1 ⟨A1, c1, rfl, hown1, he1⟩
  go_wp2_with fail
  refine (cat_any _ _ _ _ _ _ _ _ _ (hx.ext he1) hown1.rd (by rw [upk_len]; exact hn)).mono ?_
  rintro e w2 ⟨A2, c2, rfl, hown2, he2⟩
  go_wp2
  go_ret
  exact ⟨_, _, rfl, hown2.mono he1.size, he1.trans he2⟩

set_option maxHeartbeats 400000 in
theorem refSealed_any (A : Option Addr) (n c : Nat) (bs : List Nat) (w : World) (hx : Rd .u8 w A n bs) (hu : U8 bs) (hn : n ≤ 140737488355328) :
    Calls Tryz.prog 42 #[.slice A n c] w fun e w' => e = .returned (.bool (decide (sld bs))) ∧ Ext w w' := by
  have hl := hx.len
  by_cases h4 : 4 ≤ n
  · obtain ⟨m, rfl⟩ : ∃ m, n = m + 4 := ⟨n - 4, by omega⟩
    have hc1 : cut bs m 4 = bs.drop m := by rw [cut]; exact List.take_of_length_le (by rw [List.length_drop]; omega)
    have hp1 : piece bs 0 m = bs.take m := by unfold piece; simp
    have hs : sld bs ↔ pk 8 (bs.drop m) = crc (bs.take m) := by
      unfold sld
      rw [hl, Nat.add_sub_cancel]
      exact ⟨fun h => h.2, fun h => ⟨by omega, h⟩⟩
    have hdl : (bs.drop m).length = 4 := by rw [List.length_drop]; omega
    have hv : pk 8 (bs.drop m) < 4294967296 := by have := pk_lt (U8_wd.1 (u8_drop hu m)); rwa [hdl] at this
    have hcr := crc_lt (u8_take hu m)
    have hlt : (bs.take m).length ≤ 140737488355328 := by rw [List.length_take]; omega
    obtain ⟨V, hV⟩ : ∃ V, V = pk 8 (bs.drop m) := ⟨_, rfl⟩
    rw [← hV] at hs hv
    have Hs := Lib.hid hs
    have HV := Lib.hid hV
    have Hc := Lib.hid hc1
    have Hp := Lib.hid hp1
    clear hs hV hc1 hp1 hl
    go_enter Tryz.func42, Tryz.ntmps42
    go_wp2_with fail
    refine (value_any _ _ _ m 4 bs _ hx hu (by omega) (by omega) (by omega)).mono ?_
    rintro e w1 ⟨rfl, rfl⟩
    rw [Hc.out, ← HV.out]
    go_wp2_with fail
    refine (piece_any _ _ _ _ _ bs _ hx (by omega) (by omega)).mono ?_
    rintro e w1 ⟨A1, c1, rfl, hown1, he1⟩
    rw [Hp.out] at hown1
    go_wp2_with fail
    rw [Hp.out]
    refine (refSum_any _ _ _ (bs.take m) _ hown1.rd (u8_take hu m) (by omega)).mono ?_
    rintro e w2 ⟨rfl, rfl⟩
    obtain ⟨C, hC⟩ : ∃ C, C = crc (bs.take m) := ⟨_, rfl⟩
    rw [← hC] at hcr Hs ⊢
    have hd : decide (sld bs) = decide (V = C) := by simp [Hs.out]
    have Hd := Lib.hid hd
    clear hC hd
    go_wp2
    go_ret
    have hbe : ((V : Int) == (C : Int)) = decide (V = C) := by
      by_cases h : V = C
      · subst h; simp
      · have h2 : (V : Int) ≠ (C : Int) := by omega
        simp [h, h2]
    exact ⟨by rw [Hd.out]; exact congrArg (fun b => Ending.returned (.bool b)) hbe, he1⟩
  · have hf : ¬ sld bs := fun h => by have := h.1; omega
    rw [decide_eq_false hf]
    go_enter Tryz.func42, Tryz.ntmps42
    go_wp2
    go_ret
    exact ⟨rfl, Ext.refl _⟩

end Go.Proofs.YtfghepkojcebfaaGreat

/-
  The program's layer 3: a sum in four bytes; bytes sealed.
-/
namespace Go.Proofs.YtfghepkojcebfaaGreat
open Go.RowKit
set_option maxRecDepth 100000

theorem four_upk (s : Nat) : upk 8 4 s = [s % 256, s / 256 % 256, s / 65536 % 256, s / 16777216 % 256] := by
  simp only [upk, Nat.div_div_eq_div_mul]

/-- A sum in four bytes, as an array. -/
def FourPost (s : Nat) (w : World) (e : Ending) (w' : World) : Prop :=
  ∃ a b c d : Nat, upk 8 4 s = [a, b, c, d] ∧ e = .returned (.agg #[.int .u8 (a : Int), .int .u8 (b : Int), .int .u8 (c : Int), .int .u8 (d : Int)]) ∧ Ext w w'

theorem written_any (s : Nat) (w : World) (hs : s < 4294967296) : Calls Tryz.prog 64 #[.int .u32 (s : Int)] w (FourPost s w) := by
  have hd : s / 16777216 % 256 = s / 16777216 := by omega
  have H := Lib.hid ((four_upk s).trans (by rw [hd]))
  clear hd
  go_enter Tryz.func64, Tryz.ntmps64
  go_wp2
  refine bodyPost_ret (v := .agg #[.int .u8 ((s % 256 : Nat) : Int), .int .u8 ((s / 256 % 256 : Nat) : Int), .int .u8 ((s / 65536 % 256 : Nat) : Int), .int .u8 ((s / 16777216 : Nat) : Int)]) (by simp [results, Tryz.results64, go_sem]) rfl ?_
  exact ⟨_, _, _, _, H.out, rfl, (Ext.refl w).alloc _⟩

set_option maxHeartbeats 400000 in
theorem seal_any (A : Option Addr) (n c : Nat) (bs : List Nat) (w : World) (hx : Rd .u8 w A n bs) (hu : U8 bs) (hn : n + 4 ≤ 180000000000000) :
    Calls Tryz.prog 58 #[.slice A n c] w fun e w' => ∃ A' c', e = .returned (.slice A' (n + 4 : Nat) c') ∧ Own .u8 5 w' w.heap.size A' c' (sl bs) ∧ Ext w w' := by
  have hcr := crc_lt hu
  have hl := hx.len
  have hf1 : [bs].flatten = bs := by simp
  have H1 := RdSS.one 25 w (c := c) rfl hx
  have hl2 : ∀ xs ∈ [bs], xs.length ≤ 180000000000000 := by intro v hv; simp at hv; subst hv; omega
  have Hf1 := Lib.hid hf1
  have HH1 := Lib.hid H1
  have Hl2 := Lib.hid hl2
  clear hf1 H1 hl2 hl
  go_enter Tryz.func58, Tryz.ntmps58
  go_wp2_with fail
  refine (sum_any _ _ _ [bs] _ HH1.out (fun v hv => by simp at hv; subst hv; exact hu) Hl2.out (by omega)).mono ?_
  rintro e w1 ⟨rfl, rfl⟩
  rw [Hf1.out]
  go_wp2_with fail
  refine (written_any _ _ hcr).mono ?_
  rintro e w2 ⟨a, b, c', d, hf, rfl, he2⟩
  have h4 := Rd.lit_at .u8 86 w2 [a, b, c', d] rfl (n := 4) rfl
  have hxw := (((hx.ext ((Ext.refl w).alloc (.cells #[.slice A n c] 25))).ext he2).ext ((Ext.refl w2).alloc (.cells #[.int .u8 (a : Int), .int .u8 (b : Int), .int .u8 (c' : Int), .int .u8 (d : Int)] 86)))
  have H2 := Lib.hid (RdSS.two 25 (b := w2.heap.size + 1) (c := c) (c2 := 4) _ (by simp) hxw h4)
  have hE := ((Ext.refl w).alloc (.cells #[.slice A n c] 25)).trans he2
  have hlen : [bs, [a, b, c', d]].flatten.length = n + 4 := by simp [hx.len]
  have hfl : [bs, [a, b, c', d]].flatten = sl bs := by simp [sl, hf]
  have Hlen := Lib.hid hlen
  have Hfl := Lib.hid hfl
  clear hf h4 hxw hlen hfl HH1 Hl2 he2
  go_wp2_with fail
  refine (concat_any _ _ _ [bs, [a, b, c', d]] _ H2.out (by rw [Hlen.out]; exact hn) (by omega)).mono ?_
  rintro e w3 ⟨A3, c3, rfl, hown3, he3⟩
  rw [Hfl.out] at hown3
  rw [Hlen.out]
  have hE2 := hE.trans (((Ext.refl w2).alloc _).alloc _) |>.trans he3
  have hsz := hE.size
  go_wp2_with fail
  go_ret
  exact ⟨_, _, rfl, hown3.mono (by simp; omega), hE2⟩

theorem sld_four {bs : List Nat} {m : Nat} {a b c d x y z t : Nat} (hl : bs.length = m + 4) (hd : bs.drop m = [x, y, z, t]) (hu : U8 bs) (hf : upk 8 4 (crc (bs.take m)) = [a, b, c, d]) :
    sld bs ↔ (x = a ∧ y = b ∧ z = c ∧ t = d) := by
  have hs := sld_split (t := bs.take m) (q := bs.drop m) (by rw [List.length_drop]; omega)
  rw [List.take_append_drop] at hs
  have hq := upk_pk (U8_wd.1 (u8_drop hu m))
  have hdl : (bs.drop m).length = 4 := by rw [List.length_drop]; omega
  rw [hdl] at hq
  have hcr := crc_lt (u8_take hu m)
  rw [hs]
  constructor
  · intro h
    rw [h, hf, hd] at hq
    simp at hq
    exact ⟨hq.1.symm, hq.2.1.symm, hq.2.2.1.symm, hq.2.2.2.symm⟩
  · rintro ⟨rfl, rfl, rfl, rfl⟩
    rw [hd, ← hf, pk_upk]
    exact Nat.mod_eq_of_lt hcr

/-- 'copy(row[:], s)' in a region that draws, the row an array that the call has just laid: behind it the array holds the cells. -/
theorem step_copy_new {P : Program} {ops : Array Oper} {o : Oper} {a : Act} {w : World} {K : Act → World → Prop} {Q : Exit → Act → World → Prop} {E : Prop} (hgd : o.guard = none) (d s : Operand) (dT sT : TypeId)
    (ho : o.op = .call { callee := .builtin .copy, args := #[d, s], argTypes := #[dT, sT] }) (elem : TypeId) (hu : P.underlying dT = some (.slice elem)) (hsz : (P.info? elem).map (·.size) = some 1)
    (old : Array Value) (T : TypeId) (ad : Addr) (dLen dCap sLen sCap : Nat) (cs : List Value) (hd : a.eval d = .slice (some ⟨w.heap.size, 0, none⟩) dLen dCap) (hs : a.eval s = .slice (some ad) sLen sCap)
    (hold : old.size = cs.length) (hn : cs.length = Nat.min sLen dLen) (hsrc : ∀ j v, cs[j]? = some v → (w.alloc (.cells old T)).drew.cell? (ad.add j) = some v) (h1 : ∀ v ∈ cs, v.oneCell' = true)
    (h : K (a.put o.dst (goInt cs.length)) (w.alloc (.cells cs.toArray T)).drew) :
    if Region.wanted o (yielded ops a.tmps) = true then Oper.wp P o a (w.alloc (.cells old T)).drew K Q else E := by
  have hw : Region.wanted o (yielded ops a.tmps) = true := by simp [Region.wanted, hgd]
  rw [if_pos hw]
  have hrun := run_copy_row (P := P) (w.alloc (.cells old T)).drew dT sT o.type elem w.heap.size 0 dLen dCap ad sLen sCap old T cs hu hsz (heap_alloc_new w _) hn hsrc (by omega) h1
  have hrow : (old.toList.take 0 ++ cs ++ old.toList.drop (0 + cs.length)).toArray = cs.toArray := by
    rw [List.take_zero, List.nil_append, List.drop_eq_nil_of_le (by rw [Array.length_toList]; omega), List.append_nil]
  have hset : (w.alloc (.cells old T)).drew.setRow w.heap.size cs.toArray = (w.alloc (.cells cs.toArray T)).drew := by
    rw [← World.setRow_alloc_new w old cs.toArray T]
    rfl
  rw [hrow, hset] at hrun
  unfold Oper.wp
  simp [execOp, ho, resolve, invoke, builtin, hd, hs, hrun, Result.andThen]
  exact h

theorem cell_nat {x : Nat} (h : x < 256) : Extern.Stop.cell (UInt8.ofNat x) = Value.int .u8 (x : Int) := by
  have : (UInt8.ofNat x).toNat = x := by rw [UInt8.toNat_ofNat']; exact Nat.mod_eq_of_lt h
  simp [Extern.Stop.cell, this]
theorem eq4 {x y z t a b c d : Nat} (hx : U8 [x, y, z, t]) (ha : U8 [a, b, c, d]) (w : World) :
    (Op.equalIn 10000 86 (.agg #[.int .u8 (x : Int), .int .u8 (y : Int), .int .u8 (z : Int), .int .u8 (t : Int)]) (.agg #[.int .u8 (a : Int), .int .u8 (b : Int), .int .u8 (c : Int), .int .u8 (d : Int)])).run Tryz.prog w =
      .ok (decide (x = a) && (decide (y = b) && (decide (z = c) && decide (t = d)))) w := by
  have h := run_equalIn_bytes (P := Tryz.prog) w 9998 86 5 4 Tryz.underlying86 Tryz.underlying5 (fun w => by kernel_rfl) [UInt8.ofNat x, UInt8.ofNat y, UInt8.ofNat z, UInt8.ofNat t] [UInt8.ofNat a, UInt8.ofNat b, UInt8.ofNat c, UInt8.ofNat d] rfl rfl
  have hx0 := hx x (by simp)
  have hx1 := hx y (by simp)
  have hx2 := hx z (by simp)
  have hx3 := hx t (by simp)
  have ha0 := ha a (by simp)
  have ha1 := ha b (by simp)
  have ha2 := ha c (by simp)
  have ha3 := ha d (by simp)
  simp only [List.map_cons, List.map_nil, cell_nat hx0, cell_nat hx1, cell_nat hx2, cell_nat hx3, cell_nat ha0, cell_nat ha1, cell_nat ha2, cell_nat ha3] at h
  refine h.trans (congrArg (fun t => Result.ok t w) ?_)
  have hi : ∀ {p q : Nat}, p < 256 → q < 256 → (UInt8.ofNat p = UInt8.ofNat q ↔ p = q) := by
    intro p q hp hq
    rw [← UInt8.toNat_inj, UInt8.toNat_ofNat', UInt8.toNat_ofNat', Nat.mod_eq_of_lt hp, Nat.mod_eq_of_lt hq]
  rw [Bool.eq_iff_iff]
  simp [hi hx0 ha0, hi hx1 ha1, hi hx2 ha2, hi hx3 ha3]

theorem four_cells {w : World} {g : Nat} {x y z t : Value} {T : TypeId} (h : w.heap[g]? = some (.cells #[x, y, z, t] T)) :
    w.cell? ⟨g, 0, none⟩ = some x ∧ w.cell? ⟨g, 1, none⟩ = some y ∧ w.cell? ⟨g, 2, none⟩ = some z ∧ w.cell? ⟨g, 3, none⟩ = some t :=
  ⟨cell_of_row w g 0 _ T (0, 0) h, cell_of_row w g 1 _ T (0, 0) h, cell_of_row w g 2 _ T (0, 0) h, cell_of_row w g 3 _ T (0, 0) h⟩

set_option maxHeartbeats 800000 in
theorem sealed_any (A : Option Addr) (n c : Nat) (bs : List Nat) (w : World) (hx : Rd .u8 w A n bs) (hu : U8 bs) (hn : n ≤ 180000000000000) (hc : n ≤ c) (_hcm : c ≤ 9223372036854775807) :
    Calls Tryz.prog 40 #[.slice A n c] w fun e w' => e = .returned (.bool (decide (sld bs))) ∧ Ext w w' := by
  have hl := hx.len
  by_cases h4 : 4 ≤ n
  · obtain ⟨m, rfl⟩ : ∃ m, n = m + 4 := ⟨n - 4, by omega⟩
    obtain ⟨b, o, rfl, hbl, hcell⟩ := hx.2 (by omega)
    have c0 := hcell m (by omega)
    have c1 := hcell (m + 1) (by omega)
    have c2 := hcell (m + 2) (by omega)
    have c3 := hcell (m + 3) (by omega)
    obtain ⟨x, hxx⟩ : ∃ x, x = bs.getD m 0 := ⟨_, rfl⟩
    obtain ⟨y, hyy⟩ : ∃ x, x = bs.getD (m + 1) 0 := ⟨_, rfl⟩
    obtain ⟨z, hzz⟩ : ∃ x, x = bs.getD (m + 2) 0 := ⟨_, rfl⟩
    obtain ⟨t, htt⟩ : ∃ x, x = bs.getD (m + 3) 0 := ⟨_, rfl⟩
    rw [← hxx] at c0
    rw [← hyy] at c1
    rw [← hzz] at c2
    rw [← htt] at c3
    have Hxx := Lib.hid hxx
    have Hyy := Lib.hid hyy
    have Hzz := Lib.hid hzz
    have Htt := Lib.hid htt
    have Hcell := Lib.hid hcell
    have Hone : Hid (∀ v ∈ [Value.int .u8 (x : Int), .int .u8 (y : Int), .int .u8 (z : Int), .int .u8 (t : Int)], v.oneCell' = true) := Lib.hid (by intro v hv; simp at hv; rcases hv with rfl | rfl | rfl | rfl <;> rfl)
    have Hsrc := Lib.hid (show ∀ (j : Nat) (v : Value), [Value.int .u8 (x : Int), .int .u8 (y : Int), .int .u8 (z : Int), .int .u8 (t : Int)][j]? = some v → (w.alloc (.cells #[.int .u8 0, .int .u8 0, .int .u8 0, .int .u8 0] 86)).drew.cell? ((⟨b, o + m, none⟩ : Addr).add j) = some v from by
      intro j v hj
      have he : Ext w (w.alloc (.cells #[.int .u8 0, .int .u8 0, .int .u8 0, .int .u8 0] 86)).drew := ((Ext.refl w).alloc _).drew
      rw [show (⟨b, o + m, none⟩ : Addr).add j = ⟨b, o + (m + j), none⟩ from by simp [Addr.add, Nat.add_assoc], Below.cell he (p := ⟨b, o + (m + j), none⟩) hbl]
      match j, hj with
      | 0, hj => simp at hj; subst hj; exact c0
      | 1, hj => simp at hj; subst hj; exact c1
      | 2, hj => simp at hj; subst hj; exact c2
      | 3, hj => simp at hj; subst hj; exact c3
      | j + 4, hj => simp at hj)
    have hf1 : [bs.take m].flatten = bs.take m := by simp
    have hl2 : ∀ xs ∈ [bs.take m], xs.length ≤ 180000000000000 := by intro v hv; simp at hv; subst hv; rw [List.length_take]; omega
    have hrd : Rd .u8 (w.alloc (.cells #[.int .u8 (x : Int), .int .u8 (y : Int), .int .u8 (z : Int), .int .u8 (t : Int)] 86)) (some ⟨b, o, none⟩) m (bs.take m) :=
      ⟨by rw [List.length_take, hl]; omega, fun _ => ⟨b, o, rfl, by simp; omega, fun j hj => by
        have := hcell j (by omega)
        rw [show (bs.take m).getD j 0 = bs.getD j 0 from by simp [List.getD, hj], Below.cell ((Ext.refl w).alloc _) (p := ⟨b, o + j, none⟩) hbl]
        exact this⟩⟩
    have H1 := Lib.hid (RdSS.one 25 (b := w.heap.size + 1) (c := c) _ (by simp) hrd)
    have HU : Hid (U8s [bs.take m]) := Lib.hid (fun v hv => by simp at hv; subst hv; exact u8_take hu m)
    have Hcr := Lib.hid (crc_lt (u8_take hu m))
    have Hf1 := Lib.hid hf1
    have Hl2 := Lib.hid hl2
    clear hf1 hl2 hrd
    have Hu4 : Hid (U8 [x, y, z, t]) := Lib.hid (by
      intro v hv
      simp at hv
      rcases hv with rfl | rfl | rfl | rfl
      · rw [Hxx.out]; exact hu.at_ _
      · rw [Hyy.out]; exact hu.at_ _
      · rw [Hzz.out]; exact hu.at_ _
      · rw [Htt.out]; exact hu.at_ _)
    have Hdr : Hid (bs.drop m = [x, y, z, t]) := Lib.hid (by
      apply List.ext_getElem
      · rw [List.length_drop, hl]; simp
      · intro j h1 h2
        have h3 : j < 4 := h2
        have h4 : m + j < bs.length := by omega
        rw [List.getElem_drop]
        have hg : ∀ i, (hi : i < bs.length) → bs[i] = bs.getD i 0 := fun i hi => by simp [List.getD, hi]
        rw [hg _ h4]
        rcases (show j = 0 ∨ j = 1 ∨ j = 2 ∨ j = 3 by omega) with rfl | rfl | rfl | rfl
        · exact Hxx.out.symm
        · exact Hyy.out.symm
        · exact Hzz.out.symm
        · exact Htt.out.symm)
    have Hll := Lib.hid hl
    have hmm : (m : Int) ≤ (m : Int) + 4 := by omega
    have hcne : ¬ c = m := by omega
    clear hxx hyy hzz htt hcell hl c0 c1 c2 c3
    go_enter Tryz.func40, Tryz.ntmps40
    go_wp2_with fail
    go_region_law (refine step_copy_new rfl (.tmp 10) (.tmp 13) 25 25 rfl 5 Tryz.underlying25 (by kernel_rfl) #[.int .u8 0, .int .u8 0, .int .u8 0, .int .u8 0] 86 ⟨b, o + m, none⟩ 4 4 4 (c - m) [.int .u8 (x : Int), .int .u8 (y : Int), .int .u8 (z : Int), .int .u8 (t : Int)] rfl rfl rfl rfl Hsrc.out Hone.out ?_)
    go_wp2_with fail
    go_region_with (first
      | (go_at_call 65; refine (sum_any _ _ _ [bs.take m] _ ?_ HU.out Hl2.out (by omega)).mono ?_; exact H1.out; rintro e w1 ⟨rfl, rfl⟩; rw [Hf1.out])
      | (go_at_call 64; refine (written_any _ _ Hcr.out).mono ?_; rintro e w3 ⟨a', b', c', d', hf, rfl, he⟩; obtain ⟨k0, k1, k2, k3⟩ := four_cells ((he.block w.heap.size (by simp; omega)).trans (heap_alloc2_old w _ _)); have heq := eq4 Hu4.out (hf ▸ U8_wd.2 (upk_wd _ _ _)); have Hf := Lib.hid hf; have He := Lib.hid he; clear hf he))
    all_goals
      go_wp2_with fail
      go_ret
      refine ⟨?_, Ext.trans (by repeat (first | exact Ext.refl _ | apply Ext.drew | apply Ext.alloc)) He.out⟩
      rw [show decide (sld bs) = (decide (x = a') && (decide (y = b') && (decide (z = c') && decide (t = d')))) from by rw [Bool.eq_iff_iff]; simpa using sld_four Hll.out Hdr.out hu Hf.out]
      rfl
  · have hf : ¬ sld bs := fun h => by have := h.1; omega
    rw [decide_eq_false hf]
    clear hl hf
    go_enter Tryz.func40, Tryz.ntmps40
    go_wp2
    go_ret
    exact ⟨rfl, Ext.refl _⟩

end Go.Proofs.YtfghepkojcebfaaGreat

/-
  Layer 12: what fits a kind; cells checked; a body sealed.
-/
namespace Go.Proofs.YtfghepkojcebfaaGreat
open Go.RowKit
set_option maxRecDepth 100000

theorem isKindB_any (k : Int) (w : World) : Calls Tryz.prog 28 #[.int .i64 k] w fun e w' => e = .returned (.bool (kindK k)) ∧ Ext w w' := by
  have hc := check_any k true true 0 none 0 0 [] w (Rd.nil ..) (by intro x hx; cases hx) (by decide) (by decide) (by decide)
  have hk : (chk k true true 0 [] == 0) = kindK k := by
    unfold chk
    by_cases h : 1 ≤ k ∧ k ≤ 8
    · rw [kindK_yes h, if_neg (by simpa using h)]; rfl
    · rw [kindK_no h, if_pos h]; rfl
  obtain ⟨R, hR⟩ : ∃ R, R = chk k true true 0 [] := ⟨_, rfl⟩
  rw [← hR] at hc hk
  have HC := Lib.hid hc
  have HK := Lib.hid hk
  clear hc hk hR
  go_enter Tryz.func28, Tryz.ntmps28
  go_wp2_with fail
  refine HC.out.mono ?_
  rintro e w1 ⟨rfl, he⟩
  go_wp2_with fail
  go_ret
  exact ⟨by rw [← HK.out]; rfl, he⟩

theorem bindex_any (A : Option Addr) (n c : Nat) (xs : List Int) (v : Int) (w : World) (hx : RdG shZ w A n xs) (hn : n ≤ 281474976710656) :
    Calls Tryz.prog 84 #[.slice A n c, .int .i64 v] w fun e w' => (∃ i : Int, e = .returned (.int .i64 i) ∧ (0 ≤ i ↔ v ∈ xs)) ∧ w = w' := by
  have hl := hx.len
  have Hl := Lib.hid hl
  have Hx := Lib.hid hx
  clear hl hx
  go_enter Tryz.func84, Tryz.ntmps84
  go_wp2_with fail
  go_loop [8] (fun i => ∃ j : Nat, j ≤ n ∧ i = .int .i64 (j : Int) ∧ Hid (∀ q, q < j → xs.getD q 0 ≠ v)) (fun i => n - (intOf i).toNat)
  case atStart => exact ⟨0, Nat.zero_le _, rfl, Lib.hid (fun q hq => absurd hq (by omega))⟩
  case round =>
    obtain ⟨j, hj, rfl, HJ⟩ := hrel
    by_cases hlt : j < n
    · obtain ⟨b, o, rfl, hb, hcell⟩ := Hx.out.atZ hlt
      have hmem : xs.getD j 0 ∈ xs := by
        have h2 : j < xs.length := by rw [Hl.out]; exact hlt
        simp only [List.getD, List.getElem?_eq_getElem h2, Option.getD_some]
        exact List.getElem_mem _
      have Hmem := Lib.hid hmem
      obtain ⟨x, hx⟩ : ∃ x, x = xs.getD j 0 := ⟨_, rfl⟩
      rw [← hx] at hcell Hmem
      have HX := Lib.hid hx
      clear hx hmem
      by_cases hv : v = x
      · subst hv
        go_wp2_with fail
        go_ret
        exact ⟨⟨(j : Int), rfl, fun _ => Hmem.out, fun _ => by omega⟩, rfl⟩
      · have hvb : (v == x) = false := beq_eq_false_iff_ne.2 hv
        go_wp2_with fail
        go_round
        case rel =>
          refine ⟨j + 1, hlt, by go_num, Lib.hid (fun q hq => ?_)⟩
          by_cases h : q < j
          · exact HJ.out q h
          · obtain rfl : q = j := by omega
            rw [← HX.out]; exact fun e => hv e.symm
        case measure => simp [intOf]; omega
    · obtain rfl : j = n := by omega
      go_wp2
      go_ret
      refine ⟨⟨-1, rfl, ?_⟩, rfl⟩
      have hno : ¬ v ∈ xs := fun h => by
        obtain ⟨q, hq, e⟩ := List.getElem_of_mem h
        refine HJ.out q (by rw [← Hl.out]; exact hq) ?_
        simp [List.getD, hq, e]
      exact ⟨fun h => absurd h (by decide), fun h => absurd h hno⟩

theorem bcontains_any (A : Option Addr) (n c : Nat) (xs : List Int) (v : Int) (w : World) (hx : RdG shZ w A n xs) (hn : n ≤ 281474976710656) :
    Calls Tryz.prog 51 #[.slice A n c, .int .i64 v] w fun e w' => e = .returned (.bool (decide (v ∈ xs))) ∧ w = w' := by
  have HI := Lib.hid (bindex_any A n c xs v w hx hn)
  clear hx
  go_enter Tryz.func51, Tryz.ntmps51
  go_wp2_with fail
  refine HI.out.mono ?_
  rintro e w1 ⟨⟨i, rfl, hi⟩, rfl⟩
  have Hi := Lib.hid hi
  clear hi
  go_wp2_with fail
  go_ret
  exact ⟨by rw [← decide_eq_decide.2 Hi.out]; rfl, rfl⟩

/-- The codecs of a kind. -/
def codecs (k : Int) : List Int := if numK k then [1, 2, 3] else [1, 4, 5]
theorem codecsFor_any (k : Int) (w : World) : Calls Tryz.prog 52 #[.int .i64 k] w fun e w' => ∃ A c, e = .returned (.slice A 3 c) ∧ RdG shZ w' A 3 (codecs k) ∧ Ext w w' := by
  have HN := Lib.hid (number_any k w)
  have hrow : ∀ (a b d : Int), RdG shZ (w.alloc (.cells #[.int .i64 a, .int .i64 b, .int .i64 d] 3)) (some ⟨w.heap.size, 0, none⟩) 3 [a, b, d] := fun a b d => by
    refine ⟨rfl, fun _ => ⟨w.heap.size, 0, rfl, by simp, fun j x hj i u hu => ?_⟩⟩
    have hi : i = 0 := by
      have := (List.getElem?_eq_some_iff.1 hu).1
      simp [shZ] at this
      exact this
    subst hi
    have hu' : u = .int .i64 x := by simpa [shZ] using hu.symm
    subst hu'
    rw [cell_of_row _ w.heap.size (0 + j * shZ.sz + 0) _ _ (0, 0) (heap_alloc_new w _)]
    rcases (show j = 0 ∨ j = 1 ∨ j = 2 by have := (List.getElem?_eq_some_iff.1 hj).1; simp at this; omega) with rfl | rfl | rfl <;> (simp [shZ] at hj ⊢; exact hj)
  have HR := Lib.hid hrow
  clear hrow
  obtain ⟨B, hB⟩ : ∃ B, B = numK k := ⟨_, rfl⟩
  rw [← hB] at HN
  have HB := Lib.hid hB
  clear hB
  cases B with
  | true =>
    go_enter Tryz.func52, Tryz.ntmps52
    go_wp2_with fail
    refine HN.out.mono ?_
    rintro e w1 ⟨rfl, rfl⟩
    go_wp2_with fail
    go_ret
    exact ⟨_, _, rfl, by unfold codecs; rw [← HB.out]; exact HR.out 1 2 3, (Ext.refl _).alloc _⟩
  | false =>
    go_enter Tryz.func52, Tryz.ntmps52
    go_wp2_with fail
    refine HN.out.mono ?_
    rintro e w1 ⟨rfl, rfl⟩
    go_wp2_with fail
    go_ret
    exact ⟨_, _, rfl, by unfold codecs; rw [← HB.out]; exact HR.out 1 4 5, (Ext.refl _).alloc _⟩

theorem isFor_any (k v : Int) (w : World) : Calls Tryz.prog 29 #[.int .i64 k, .int .i64 v] w fun e w' => e = .returned (.bool (decide (v ∈ codecs k))) ∧ Ext w w' := by
  have HC := Lib.hid (codecsFor_any k w)
  go_enter Tryz.func29, Tryz.ntmps29
  go_wp2_with fail
  refine HC.out.mono ?_
  rintro e w1 ⟨A, c, rfl, hr, he⟩
  have HD := Lib.hid (bcontains_any A 3 c (codecs k) v w1 hr (by decide))
  clear hr
  go_wp2_with fail
  refine HD.out.mono ?_
  rintro e w2 ⟨rfl, rfl⟩
  go_wp2_with fail
  go_ret
  exact ⟨rfl, he⟩

/-- A body under its sum, where a block may be so long. -/
def sealE (b : List Nat) : Int := if 65000 < b.length + 4 then 4 else 0
def sealL (b : List Nat) : List Nat := if 65000 < b.length + 4 then [] else sl b
theorem bseal_any (A : Option Addr) (n c : Nat) (b : List Nat) (w : World) (hx : Rd .u8 w A n b) (hu : U8 b) (hn : n ≤ 140737488355328) :
    Calls Tryz.prog 32 #[.slice A n c] w fun e w' => ∃ A' c', e = .returned (.tuple #[.slice A' (sealL b).length c', .int .i64 (sealE b)]) ∧ Own .u8 5 w' w.heap.size A' c' (sealL b) ∧ Ext w w' := by
  have hl := hx.len
  by_cases hbig : 65000 < n + 4
  · have h1 : sealE b = 4 := by unfold sealE; rw [hl, if_pos hbig]
    have h2 : sealL b = [] := by unfold sealL; rw [hl, if_pos hbig]
    rw [h1, h2]
    have hI : (65000 : Int) < (n : Int) + 4 := by omega
    clear hx h1 h2 hl hbig
    go_enter Tryz.func32, Tryz.ntmps32
    go_wp2_with fail
    go_ret2
    exact ⟨none, 0, rfl, Own.nil .., Ext.refl _⟩
  · have h1 : sealE b = 0 := by unfold sealE; rw [hl, if_neg hbig]
    have h2 : sealL b = sl b := by unfold sealL; rw [hl, if_neg hbig]
    have h3 : (sl b).length = n + 4 := by rw [sl_len, hl]
    have HS := Lib.hid (seal_any A n c b w hx hu (by omega))
    rw [h1, h2, h3]
    have hI : ¬ (65000 : Int) < (n : Int) + 4 := by omega
    have Hbig := Lib.hid hbig
    clear hx h1 h2 hl h3 hbig
    go_enter Tryz.func32, Tryz.ntmps32
    go_wp2_with fail
    refine HS.out.mono ?_
    rintro e w1 ⟨A', c', rfl, ho, he⟩
    go_wp2_with fail
    go_ret2
    exact ⟨A', c', rfl, ho, he⟩

/-- The first error of a kind's cells. -/
def chkA (k : Int) : List Ci → Int
  | [] => 0
  | x :: r => if chk k true x.nul x.num x.txt ≠ 0 then chk k true x.nul x.num x.txt else chkA k r
def chkB (k : Int) (xs : List Ci) : Int := if 4096 < xs.length then 4 else chkA k xs
theorem chkA_at {k : Int} {xs : List Ci} {j : Nat} {x : Ci} (h : xs[j]? = some x) : chkA k (xs.drop j) = if chk k true x.nul x.num x.txt ≠ 0 then chk k true x.nul x.num x.txt else chkA k (xs.drop (j + 1)) := by
  obtain ⟨h1, h2⟩ := List.getElem?_eq_some_iff.1 h
  rw [List.drop_eq_getElem_cons h1, h2]; rfl

set_option maxHeartbeats 1000000 in
theorem checkB_any (k : Int) (A : Option Addr) (n c : Nat) (xs : List Ci) (w : World) (hx : RdX w A n xs) (hn : n ≤ 281474976710656) :
    Calls Tryz.prog 30 #[.int .i64 k, .slice A n c] w fun e w' => e = .returned (.int .i64 (chkB k xs)) ∧ Ext w w' := by
  have hl := hx.1
  by_cases hbig : 4096 < n
  · have hE : chkB k xs = 4 := by unfold chkB; rw [hl, if_pos hbig]
    have HE := Lib.hid hE
    clear hE hl hx
    go_enter Tryz.func30, Tryz.ntmps30
    go_wp2_with fail
    go_ret
    exact ⟨by rw [HE.out]; rfl, Ext.refl _⟩
  · have hE : chkB k xs = chkA k xs := by unfold chkB; rw [hl, if_neg hbig]
    rw [hE]
    obtain ⟨E, hEE⟩ : ∃ E, E = chkA k xs := ⟨_, rfl⟩
    rw [← hEE]
    have HE := Lib.hid hEE
    have Hx := Lib.hid hx
    have Hl := Lib.hid hl
    clear hE hEE hl hx
    go_enter Tryz.func30, Tryz.ntmps30
    go_wp2_with fail
    go_loopw [13] (fun i wr => ∃ j : Nat, j ≤ n ∧ i = .int .i64 (j : Int) ∧ Ext w wr ∧ Hid (chkA k (xs.drop j) = E)) (fun i _ => n - (intOf i).toNat)
    case atStart => exact ⟨0, Nat.zero_le _, rfl, Ext.refl _, Lib.hid (by rw [List.drop_zero, HE.out])⟩
    case round =>
      obtain ⟨j, hj, rfl, hE, HJ⟩ := hrel
      by_cases hlt : j < n
      · obtain ⟨b, o, x, rfl, hb, hxj, hc0, hc1, hc2, hin⟩ := (Hx.out.ext hE).at_ hlt
        have hin' := (hin.rd.ext ((Ext.refl wr).alloc (.cells #[.bool x.nul, .int .i64 x.num, .slice x.A x.txt.length x.c] 53)))
        have hcall := check_any k true x.nul x.num x.A x.txt.length x.c x.txt _ hin' hin.u8 hin.lo hin.hi (by have := hin.len; omega)
        have hat := chkA_at (k := k) hxj
        rw [HJ.out] at hat
        obtain ⟨R, hR⟩ : ∃ R, R = chk k true x.nul x.num x.txt := ⟨_, rfl⟩
        rw [← hR] at hcall hat
        have HC := Lib.hid hcall
        have Hat := Lib.hid hat
        have HEx := Lib.hid hE
        clear hcall hat hR hxj hin hin' hE
        by_cases h0 : R = 0
        · subst h0
          go_wp2_with fail
          refine HC.out.mono ?_
          rintro e w1 ⟨rfl, he1⟩
          go_wp2_with fail
          go_roundw
          case rel => exact ⟨j + 1, hlt, by go_num, (HEx.out.alloc _).trans he1, Lib.hid (by rw [Hat.out, if_neg (by simp)])⟩
          case measure => simp [intOf]; omega
        · have hneb : (R == 0) = false := beq_eq_false_iff_ne.2 h0
          go_wp2_with fail
          refine HC.out.mono ?_
          rintro e w1 ⟨rfl, he1⟩
          go_wp2_with fail
          go_ret
          exact ⟨by rw [Hat.out, if_pos h0]; rfl, (HEx.out.alloc _).trans he1⟩
      · obtain rfl : j = n := by omega
        have h0 : E = 0 := by
          have := HJ.out
          rw [List.drop_of_length_le (Nat.le_of_eq Hl.out)] at this
          exact this.symm
        go_wp2
        go_ret
        exact ⟨by rw [h0]; rfl, hE⟩

end Go.Proofs.YtfghepkojcebfaaGreat

/-
  Layer 8: lists of numbers with a sign: copied, compared, set apart; lists of runs compared.
-/
namespace Go.Proofs.YtfghepkojcebfaaGreat
open Go.RowKit
set_option maxRecDepth 100000

theorem Tryz.infoI64 : (Tryz.prog.info? 2).map (fun i => (i.zero, i.size, i.bytes)) = some (some (.int .i64 0), 1, 8) := by kernel_rfl

end Go.Proofs.YtfghepkojcebfaaGreat

/-
  How wide an unsigned number of 64 bits is.
-/
namespace Go.Proofs.YtfghepkojcebfaaGreat
open Go.RowKit
set_option maxRecDepth 100000

theorem Tryz.infoU64 : (Tryz.prog.info? 66).map (fun i => (i.zero, i.size, i.bytes)) = some (some (.int .u64 0), 1, 8) := by kernel_rfl

end Go.Proofs.YtfghepkojcebfaaGreat

/-
  Layer 9: the least and the greatest of numbers.
-/
namespace Go.Proofs.YtfghepkojcebfaaGreat
open Go.RowKit
set_option maxRecDepth 100000

/-- The least and the greatest of numbers with a sign; of none 0. -/
def lo : List Int → Int
  | [] => 0
  | x :: r => r.foldl min x
def hi : List Int → Int
  | [] => 0
  | x :: r => r.foldl max x
theorem lo_snoc {xs : List Int} (h : xs ≠ []) (v : Int) : lo (xs ++ [v]) = min (lo xs) v := by
  cases xs with
  | nil => exact absurd rfl h
  | cons x r => simp [lo, List.foldl_append]
theorem hi_snoc {xs : List Int} (h : xs ≠ []) (v : Int) : hi (xs ++ [v]) = max (hi xs) v := by
  cases xs with
  | nil => exact absurd rfl h
  | cons x r => simp [hi, List.foldl_append]
theorem take_ne {T : Type} {xs : List T} {j : Nat} (h : 1 ≤ j) (hj : j ≤ xs.length) : xs.take j ≠ [] := by
  intro e
  have := congrArg List.length e
  rw [List.length_take, List.length_nil] at this
  omega
theorem lo_take {xs : List Int} {j : Nat} (h : 1 ≤ j) (hj : j < xs.length) : lo (xs.take (j + 1)) = min (lo (xs.take j)) (xs.getD j 0) := by
  rw [take_nextG xs j (x := xs.getD j 0) (by rw [List.getD, List.getElem?_eq_getElem hj]; rfl), lo_snoc (take_ne h (by omega))]
theorem hi_take {xs : List Int} {j : Nat} (h : 1 ≤ j) (hj : j < xs.length) : hi (xs.take (j + 1)) = max (hi (xs.take j)) (xs.getD j 0) := by
  rw [take_nextG xs j (x := xs.getD j 0) (by rw [List.getD, List.getElem?_eq_getElem hj]; rfl), hi_snoc (take_ne h (by omega))]
theorem lo_one {xs : List Int} (h : 0 < xs.length) : lo (xs.take 1) = xs.getD 0 0 := by
  cases xs with
  | nil => simp at h
  | cons x r => rfl
theorem hi_one {xs : List Int} (h : 0 < xs.length) : hi (xs.take 1) = xs.getD 0 0 := by
  cases xs with
  | nil => simp at h
  | cons x r => rfl

set_option maxHeartbeats 800000 in
theorem minZ_any (A : Option Addr) (n c : Nat) (xs : List Int) (w : World) (hx : RdG shZ w A n xs) (hp : 0 < n) (hn : n ≤ 281474976710656) :
    Calls Tryz.prog 128 #[.slice A n c] w fun e w' => e = .returned (.int .i64 (lo xs)) ∧ w = w' := by
  have Hl := Lib.hid hx.len
  obtain ⟨b, o, rfl, hbl, hc⟩ := hx.atZ hp
  obtain ⟨x, hxe⟩ : ∃ x, x = xs.getD 0 0 := ⟨_, rfl⟩
  have H0 := Lib.hid (show x = lo (xs.take 1) by rw [lo_one (by have := Hl.out; omega)]; exact hxe)
  rw [← hxe, Nat.add_zero] at hc
  clear hxe
  go_enter Tryz.func128, Tryz.ntmps128
  go_wp2_with fail
  go_loop [3, 4] (fun y i => ∃ (j : Nat) (v : Int), 1 ≤ j ∧ j ≤ n ∧ i = .int .i64 j ∧ y = .int .i64 v ∧ Hid (v = lo (xs.take j))) (fun _ i => n - (intOf i).toNat)
  case atStart => exact ⟨1, x, Nat.le_refl _, by omega, rfl, rfl, H0⟩
  case round =>
    obtain ⟨j, v, hj1, hj, rfl, rfl, HV⟩ := hrel
    by_cases hlt : j < n
    · obtain ⟨b', o', hA, _, hc2⟩ := hx.atZ hlt
      injection hA with hA
      injection hA with hb' ho'
      subst hb' ho'
      have HN := Lib.hid (lo_take hj1 (show j < xs.length by have := Hl.out; omega))
      obtain ⟨u, hu⟩ : ∃ u, u = xs.getD j 0 := ⟨_, rfl⟩
      rw [← hu] at hc2 HN
      clear hu
      go_wp2_with fail
      go_round
      case rel => exact ⟨j + 1, min v u, by omega, by omega, by go_num, by first | rfl | (congr 1; omega), Lib.hid (by rw [HN.out, ← HV.out])⟩
      case measure => simp [intOf]; omega
    · obtain rfl : j = n := by omega
      go_wp2_with fail
      go_ret
      exact ⟨by rw [HV.out, List.take_of_length_le (by have := Hl.out; omega)]; rfl, rfl⟩

set_option maxHeartbeats 800000 in
theorem pleast_any (A : Option Addr) (n c : Nat) (xs : List Int) (w : World) (hx : RdG shZ w A n xs) (hp : 0 < n) (hn : n ≤ 281474976710656) :
    Calls Tryz.prog 140 #[.slice A n c] w fun e w' => e = .returned (.int .i64 (lo xs)) ∧ w = w' := by
  have Hl := Lib.hid hx.len
  obtain ⟨b, o, rfl, hbl, hc⟩ := hx.atZ hp
  obtain ⟨x, hxe⟩ : ∃ x, x = xs.getD 0 0 := ⟨_, rfl⟩
  have H0 := Lib.hid (show x = lo (xs.take 1) by rw [lo_one (by have := Hl.out; omega)]; exact hxe)
  have HX := Lib.hid hxe
  rw [← hxe, Nat.add_zero] at hc
  clear hxe
  go_enter Tryz.func140, Tryz.ntmps140
  go_wp2_with fail
  go_loop [3, 4] (fun y i => ∃ (j : Nat) (v : Int), j ≤ n ∧ i = .int .i64 j ∧ y = .int .i64 v ∧ Hid (j = 0 ∧ v = x ∨ 1 ≤ j ∧ v = lo (xs.take j))) (fun _ i => n - (intOf i).toNat)
  case atStart => exact ⟨0, x, by omega, rfl, rfl, Lib.hid (.inl ⟨rfl, rfl⟩)⟩
  case round =>
    obtain ⟨j, v, hj, rfl, rfl, HV⟩ := hrel
    by_cases hlt : j < n
    · obtain ⟨b', o', hA, _, hc2⟩ := hx.atZ hlt
      injection hA with hA
      injection hA with hb' ho'
      subst hb' ho'
      obtain ⟨u, hu⟩ : ∃ u, u = xs.getD j 0 := ⟨_, rfl⟩
      have HN := Lib.hid (show lo (xs.take (j + 1)) = min v u by
        rcases HV.out with ⟨h1, h2⟩ | ⟨h1, h2⟩
        · subst h1
          rw [← HX.out] at hu
          rw [← H0.out, hu, h2]
          exact (Int.min_self x).symm
        · rw [lo_take h1 (by have := Hl.out; omega), h2, hu])
      rw [← hu] at hc2
      clear hu
      by_cases hlu : u < v
      · have HN2 := Lib.hid (show u = lo (xs.take (j + 1)) by rw [HN.out]; omega)
        go_wp2_with fail
        go_round
        case rel => exact ⟨j + 1, u, by omega, by go_num, rfl, Lib.hid (.inr ⟨by omega, HN2.out⟩)⟩
        case measure => simp [intOf]; omega
      · have HN2 := Lib.hid (show v = lo (xs.take (j + 1)) by rw [HN.out]; omega)
        have hd : decide (u < v) = false := decide_eq_false hlu
        go_wp2_with fail
        go_round
        case rel => exact ⟨j + 1, v, by omega, by go_num, rfl, Lib.hid (.inr ⟨by omega, HN2.out⟩)⟩
        case measure => simp [intOf]; omega
    · obtain rfl : j = n := by omega
      have HE := Lib.hid (show v = lo xs by
        rcases HV.out with ⟨h1, h2⟩ | ⟨h1, h2⟩
        · omega
        · rw [h2, List.take_of_length_le (by have := Hl.out; omega)])
      go_wp2_with fail
      go_ret
      exact ⟨by rw [HE.out]; rfl, rfl⟩

/-- The least and the greatest of numbers without a sign. -/
def loN : List Nat → Nat
  | [] => 0
  | x :: r => r.foldl min x
def hiN : List Nat → Nat
  | [] => 0
  | x :: r => r.foldl max x
theorem loN_snoc {xs : List Nat} (h : xs ≠ []) (v : Nat) : loN (xs ++ [v]) = min (loN xs) v := by
  cases xs with
  | nil => exact absurd rfl h
  | cons x r => simp [loN, List.foldl_append]
theorem hiN_snoc {xs : List Nat} (h : xs ≠ []) (v : Nat) : hiN (xs ++ [v]) = max (hiN xs) v := by
  cases xs with
  | nil => exact absurd rfl h
  | cons x r => simp [hiN, List.foldl_append]
theorem loN_take {xs : List Nat} {j : Nat} (h : 1 ≤ j) (hj : j < xs.length) : loN (xs.take (j + 1)) = min (loN (xs.take j)) (xs.getD j 0) := by
  rw [take_nextG xs j (x := xs.getD j 0) (by rw [List.getD, List.getElem?_eq_getElem hj]; rfl), loN_snoc (take_ne h (by omega))]
theorem hiN_take {xs : List Nat} {j : Nat} (h : 1 ≤ j) (hj : j < xs.length) : hiN (xs.take (j + 1)) = max (hiN (xs.take j)) (xs.getD j 0) := by
  rw [take_nextG xs j (x := xs.getD j 0) (by rw [List.getD, List.getElem?_eq_getElem hj]; rfl), hiN_snoc (take_ne h (by omega))]
theorem loN_one {xs : List Nat} (h : 0 < xs.length) : loN (xs.take 1) = xs.getD 0 0 := by
  cases xs with
  | nil => simp at h
  | cons x r => rfl
theorem hiN_one {xs : List Nat} (h : 0 < xs.length) : hiN (xs.take 1) = xs.getD 0 0 := by
  cases xs with
  | nil => simp at h
  | cons x r => rfl

set_option maxHeartbeats 800000 in
theorem minU_any (A : Option Addr) (n c : Nat) (xs : List Nat) (w : World) (hx : Rd .u64 w A n xs) (hp : 0 < n) (hn : n ≤ 281474976710656) :
    Calls Tryz.prog 180 #[.slice A n c] w fun e w' => e = .returned (.int .u64 (loN xs : Nat)) ∧ w = w' := by
  have Hl := Lib.hid hx.len
  obtain ⟨b, o, rfl, hbl, hc⟩ := hx.at_ hp
  obtain ⟨x, hxe⟩ : ∃ x, x = xs.getD 0 0 := ⟨_, rfl⟩
  have H0 := Lib.hid (show x = loN (xs.take 1) by rw [loN_one (by have := Hl.out; omega)]; exact hxe)
  rw [← hxe, Nat.add_zero] at hc
  clear hxe
  go_enter Tryz.func180, Tryz.ntmps180
  go_wp2_with fail
  go_loop [3, 4] (fun y i => ∃ (j : Nat) (v : Nat), 1 ≤ j ∧ j ≤ n ∧ i = .int .i64 j ∧ y = .int .u64 (v : Nat) ∧ Hid (v = loN (xs.take j))) (fun _ i => n - (intOf i).toNat)
  case atStart => exact ⟨1, x, Nat.le_refl _, by omega, rfl, rfl, H0⟩
  case round =>
    obtain ⟨j, v, hj1, hj, rfl, rfl, HV⟩ := hrel
    by_cases hlt : j < n
    · obtain ⟨b', o', hA, _, hc2⟩ := hx.at_ hlt
      injection hA with hA
      injection hA with hb' ho'
      subst hb' ho'
      have HN := Lib.hid (loN_take hj1 (show j < xs.length by have := Hl.out; omega))
      obtain ⟨u, hu⟩ : ∃ u, u = xs.getD j 0 := ⟨_, rfl⟩
      rw [← hu] at hc2 HN
      clear hu
      go_wp2_with fail
      go_round
      case rel => exact ⟨j + 1, min v u, by omega, by omega, by go_num, by first | rfl | (congr 1; omega), Lib.hid (by rw [HN.out, ← HV.out])⟩
      case measure => simp [intOf]; omega
    · obtain rfl : j = n := by omega
      go_wp2_with fail
      go_ret
      exact ⟨by rw [HV.out, List.take_of_length_le (by have := Hl.out; omega)]; rfl, rfl⟩

set_option maxHeartbeats 800000 in
theorem maxU_any (A : Option Addr) (n c : Nat) (xs : List Nat) (w : World) (hx : Rd .u64 w A n xs) (hp : 0 < n) (hn : n ≤ 281474976710656) :
    Calls Tryz.prog 181 #[.slice A n c] w fun e w' => e = .returned (.int .u64 (hiN xs : Nat)) ∧ w = w' := by
  have Hl := Lib.hid hx.len
  obtain ⟨b, o, rfl, hbl, hc⟩ := hx.at_ hp
  obtain ⟨x, hxe⟩ : ∃ x, x = xs.getD 0 0 := ⟨_, rfl⟩
  have H0 := Lib.hid (show x = hiN (xs.take 1) by rw [hiN_one (by have := Hl.out; omega)]; exact hxe)
  rw [← hxe, Nat.add_zero] at hc
  clear hxe
  go_enter Tryz.func181, Tryz.ntmps181
  go_wp2_with fail
  go_loop [3, 4] (fun y i => ∃ (j : Nat) (v : Nat), 1 ≤ j ∧ j ≤ n ∧ i = .int .i64 j ∧ y = .int .u64 (v : Nat) ∧ Hid (v = hiN (xs.take j))) (fun _ i => n - (intOf i).toNat)
  case atStart => exact ⟨1, x, Nat.le_refl _, by omega, rfl, rfl, H0⟩
  case round =>
    obtain ⟨j, v, hj1, hj, rfl, rfl, HV⟩ := hrel
    by_cases hlt : j < n
    · obtain ⟨b', o', hA, _, hc2⟩ := hx.at_ hlt
      injection hA with hA
      injection hA with hb' ho'
      subst hb' ho'
      have HN := Lib.hid (hiN_take hj1 (show j < xs.length by have := Hl.out; omega))
      obtain ⟨u, hu⟩ : ∃ u, u = xs.getD j 0 := ⟨_, rfl⟩
      rw [← hu] at hc2 HN
      clear hu
      go_wp2_with fail
      go_round
      case rel => exact ⟨j + 1, max v u, by omega, by omega, by go_num, by first | rfl | (congr 1; omega), Lib.hid (by rw [HN.out, ← HV.out])⟩
      case measure => simp [intOf]; omega
    · obtain rfl : j = n := by omega
      go_wp2_with fail
      go_ret
      exact ⟨by rw [HV.out, List.take_of_length_le (by have := Hl.out; omega)]; rfl, rfl⟩

end Go.Proofs.YtfghepkojcebfaaGreat

/-
  Layer 8 as mathematics: numbers as runs, runs as numbers, runs as bytes.
-/
namespace Go.Proofs.YtfghepkojcebfaaGreat
open Go.RowKit
set_option maxRecDepth 100000

/-- One number more: the last run grows, or a new one begins. -/
def gat (rs : List (Int × Int)) (v : Int) : List (Int × Int) :=
  match rs.getLast? with
  | none => [(v, 1)]
  | some r => if r.1 = v then rs.dropLast ++ [(v, r.2 + 1)] else rs ++ [(v, 1)]
theorem gat_nil (v : Int) : gat [] v = [(v, 1)] := rfl
theorem gat_same (rs : List (Int × Int)) (v c : Int) : gat (rs ++ [(v, c)]) v = rs ++ [(v, c + 1)] := by simp [gat]
theorem gat_new {rs : List (Int × Int)} {u c v : Int} (h : u ≠ v) : gat (rs ++ [(u, c)]) v = rs ++ [(u, c)] ++ [(v, 1)] := by simp [gat, h]

/-- The numbers as runs. -/
def rsp (vs : List Int) : List (Int × Int) := vs.foldl gat []
theorem rsp_nil : rsp [] = [] := rfl
theorem rsp_snoc (vs : List Int) (v : Int) : rsp (vs ++ [v]) = gat (rsp vs) v := by simp [rsp, List.foldl_append]

/-- The numbers that runs tell. -/
def flat (rs : List (Int × Int)) : List Int := (rs.map fun r => List.replicate r.2.toNat r.1).flatten
theorem flat_nil : flat [] = [] := rfl
theorem flat_cons (r : Int × Int) (rs : List (Int × Int)) : flat (r :: rs) = List.replicate r.2.toNat r.1 ++ flat rs := by simp [flat]
theorem flat_append (a b : List (Int × Int)) : flat (a ++ b) = flat a ++ flat b := by simp [flat]

/-- The value of the last run; ahead of all runs l. -/
def lastV : Option Int → List (Int × Int) → Option Int
  | l, [] => l
  | _, r :: rs => lastV (some r.1) rs
theorem lastV_append (l : Option Int) (a b : List (Int × Int)) : lastV l (a ++ b) = lastV (lastV l a) b := by
  induction a generalizing l with
  | nil => rfl
  | cons r rs ih => exact ih _
theorem lastV_snoc (l : Option Int) (a : List (Int × Int)) (r : Int × Int) : lastV l (a ++ [r]) = some r.1 := by rw [lastV_append]; rfl

def R64 (v : Int) : Prop := -9223372036854775808 ≤ v ∧ v ≤ 9223372036854775807

/-- Runs as few as can be: counts of one at least, no two neighbours of one value. -/
def GoodR : Option Int → List (Int × Int) → Prop
  | _, [] => True
  | l, r :: rs => l ≠ some r.1 ∧ 1 ≤ r.2 ∧ R64 r.1 ∧ GoodR (some r.1) rs
theorem GoodR.append {l : Option Int} {a b : List (Int × Int)} : GoodR l (a ++ b) ↔ GoodR l a ∧ GoodR (lastV l a) b := by
  induction a generalizing l with
  | nil => simp [GoodR, lastV]
  | cons r rs ih => simp [GoodR, lastV, ih, and_assoc]
theorem GoodR.mem {l : Option Int} {rs : List (Int × Int)} (h : GoodR l rs) : ∀ r ∈ rs, 1 ≤ r.2 ∧ R64 r.1 := by
  induction rs generalizing l with
  | nil => intro r hr; cases hr
  | cons q rs ih =>
    intro r hr
    rcases List.mem_cons.1 hr with rfl | hr
    · exact ⟨h.2.1, h.2.2.1⟩
    · exact ih h.2.2.2 r hr

theorem snoc_or {T : Type} (l : List T) : l = [] ∨ ∃ a b, l = a ++ [b] := by
  rcases List.eq_nil_or_concat l with h | ⟨a, b, h⟩
  · exact .inl h
  · exact .inr ⟨a, b, by rw [h, List.concat_eq_append]⟩

theorem gat_good {rs : List (Int × Int)} {v : Int} (h : GoodR none rs) (hv : R64 v) : GoodR none (gat rs v) ∧ flat (gat rs v) = flat rs ++ [v] ∧ lastV none (gat rs v) = some v := by
  rcases snoc_or rs with rfl | ⟨a, ⟨u, c⟩, rfl⟩
  · exact ⟨⟨by simp, Int.le_refl 1, hv, trivial⟩, by simp [gat_nil, flat], rfl⟩
  · obtain ⟨h1, h2⟩ := GoodR.append.1 h
    by_cases huv : u = v
    · subst huv
      rw [gat_same, lastV_snoc]
      refine ⟨GoodR.append.2 ⟨h1, h2.1, by have := h2.2.1; show 1 ≤ c + 1; simp at this; omega, h2.2.2.1, trivial⟩, ?_, rfl⟩
      have hc := h2.2.1
      simp at hc
      rw [flat_append, flat_append, List.append_assoc]
      congr 1
      simp only [flat, List.map_cons, List.map_nil, List.flatten_cons, List.flatten_nil, List.append_nil]
      rw [show (c + 1).toNat = c.toNat + 1 from by omega, List.replicate_succ']
    · rw [gat_new huv, lastV_snoc]
      refine ⟨GoodR.append.2 ⟨h, by rw [lastV_snoc]; simpa using huv, Int.le_refl 1, hv, trivial⟩, ?_, rfl⟩
      rw [flat_append]
      rfl

def R64s (vs : List Int) : Prop := ∀ v ∈ vs, R64 v
theorem foldl_good {vs : List Int} : ∀ {rs : List (Int × Int)}, GoodR none rs → R64s vs → GoodR none (vs.foldl gat rs) ∧ flat (vs.foldl gat rs) = flat rs ++ vs := by
  induction vs with
  | nil => intro rs h _; exact ⟨h, by simp⟩
  | cons v r ih =>
    intro rs h hv
    obtain ⟨h1, h2, _⟩ := gat_good h (hv v (by simp))
    obtain ⟨h3, h4⟩ := ih h1 (fun u hu => hv u (by simp [hu]))
    exact ⟨h3, by rw [List.foldl_cons, h4, h2]; simp⟩
theorem rsp_good {vs : List Int} (h : R64s vs) : GoodR none (rsp vs) := (foldl_good (rs := []) trivial h).1
theorem rsp_flat {vs : List Int} (h : R64s vs) : flat (rsp vs) = vs := (foldl_good (rs := []) trivial h).2

theorem flat_last {l : Option Int} {rs : List (Int × Int)} (h : GoodR l rs) (hn : rs ≠ []) : (flat rs).getLast? = lastV none rs := by
  rcases snoc_or rs with rfl | ⟨a, ⟨u, c⟩, rfl⟩
  · exact absurd rfl hn
  · obtain ⟨_, h2⟩ := GoodR.append.1 h
    have hc := h2.2.1
    simp at hc
    rw [lastV_snoc, flat_append, flat_cons, flat_nil, List.append_nil]
    obtain ⟨m, hm⟩ : ∃ m, c.toNat = m + 1 := ⟨c.toNat - 1, by omega⟩
    simp only [hm]
    rw [List.replicate_succ', ← List.append_assoc, List.getLast?_append]
    simp
theorem rsp_last {vs : List Int} (h : R64s vs) : lastV none (rsp vs) = vs.getLast? := by
  by_cases hn : rsp vs = []
  · have := rsp_flat h
    rw [hn] at this
    rw [hn, ← this]
    rfl
  · rw [← flat_last (rsp_good h) hn, rsp_flat h]

theorem flat_len_le {l : Option Int} {rs : List (Int × Int)} (h : GoodR l rs) : rs.length ≤ (flat rs).length ∧ ∀ r ∈ rs, r.2 ≤ (flat rs).length := by
  induction rs generalizing l with
  | nil => exact ⟨Nat.le_refl _, fun r hr => by cases hr⟩
  | cons q rs ih =>
    obtain ⟨h1, h2⟩ := ih h.2.2.2
    have hc := h.2.1
    rw [flat_cons, List.length_append, List.length_replicate]
    refine ⟨by rw [List.length_cons]; omega, fun r hr => ?_⟩
    rcases List.mem_cons.1 hr with rfl | hr
    · omega
    · have := h2 r hr; omega

/-- n times the value v, behind runs whose last isn't v's: one run more. -/
theorem foldl_rep {rs : List (Int × Int)} {v : Int} (h : lastV none rs ≠ some v) (n : Nat) : (List.replicate (n + 1) v).foldl gat rs = rs ++ [(v, ((n + 1 : Nat) : Int))] := by
  induction n with
  | zero =>
    rcases snoc_or rs with rfl | ⟨a, ⟨u, c⟩, rfl⟩
    · rfl
    · rw [lastV_snoc] at h
      rw [show List.replicate (0 + 1) v = [v] from rfl, List.foldl_cons, List.foldl_nil, gat_new (by simpa using h)]
      rfl
  | succ n ih => rw [List.replicate_succ', List.foldl_append, ih, List.foldl_cons, List.foldl_nil, gat_same]; congr 2
theorem foldl_flat {rs : List (Int × Int)} : ∀ {acc : List (Int × Int)}, GoodR (lastV none acc) rs → (flat rs).foldl gat acc = acc ++ rs := by
  induction rs with
  | nil => intro acc _; simp [flat]
  | cons q rs ih =>
    intro acc h
    obtain ⟨v, c⟩ := q
    have hc := h.2.1
    simp at hc
    obtain ⟨m, hm⟩ : ∃ m : Nat, c = ((m + 1 : Nat) : Int) := ⟨c.toNat - 1, by omega⟩
    subst hm
    rw [flat_cons, List.foldl_append]
    simp only [Int.toNat_natCast]
    rw [foldl_rep h.1 m, ih (by rw [lastV_snoc]; exact h.2.2.2)]
    simp
theorem rsp_of_flat {rs : List (Int × Int)} (h : GoodR none rs) : rsp (flat rs) = rs := foldl_flat (acc := []) h

/-- What Join answers, when the runs so far have told vs. -/
def joinF : List Int → List (Int × Int) → List Int × Int
  | vs, [] => (vs, 0)
  | vs, r :: rs => if r.2 < 1 then ([], 1) else if vs.getLast? = some r.1 then ([], 5) else if 4096 - (vs.length : Int) < r.2 then ([], 4) else joinF (vs ++ List.replicate r.2.toNat r.1) rs
theorem joinF_at {vs : List Int} {rs : List (Int × Int)} {j : Nat} {r : Int × Int} (h : rs[j]? = some r) :
    joinF vs (rs.drop j) = if r.2 < 1 then ([], 1) else if vs.getLast? = some r.1 then ([], 5) else if 4096 - (vs.length : Int) < r.2 then ([], 4) else joinF (vs ++ List.replicate r.2.toNat r.1) (rs.drop (j + 1)) := by
  obtain ⟨h1, rfl⟩ := List.getElem?_eq_some_iff.1 h
  rw [List.drop_eq_getElem_cons h1]
  rfl
theorem joinF_end {vs : List Int} {rs : List (Int × Int)} {j : Nat} (h : rs.length ≤ j) : joinF vs (rs.drop j) = (vs, 0) := by
  rw [List.drop_of_length_le h]; rfl
theorem joinF_len {rs : List (Int × Int)} : ∀ {vs : List Int}, vs.length ≤ 4096 → (joinF vs rs).1.length ≤ 4096 := by
  induction rs with
  | nil => intro vs h; exact h
  | cons r rs ih =>
    intro vs h
    rw [joinF]
    split
    · simp
    · split
      · simp
      · split
        · simp
        · refine ih ?_
          rw [List.length_append, List.length_replicate]
          omega
theorem last_rep (vs : List Int) (v : Int) (n : Nat) : (vs ++ List.replicate (n + 1) v).getLast? = some v := by
  rw [List.replicate_succ', ← List.append_assoc, List.getLast?_append]; simp
theorem joinF_good {rs : List (Int × Int)} : ∀ {vs : List Int}, GoodR vs.getLast? rs → vs.length + (flat rs).length ≤ 4096 → joinF vs rs = (vs ++ flat rs, 0) := by
  induction rs with
  | nil => intro vs _ _; simp [joinF, flat]
  | cons r rs ih =>
    intro vs h hl
    obtain ⟨v, c⟩ := r
    have hc := h.2.1
    simp at hc
    obtain ⟨m, hm⟩ : ∃ m : Nat, c = ((m + 1 : Nat) : Int) := ⟨c.toNat - 1, by omega⟩
    subst hm
    rw [flat_cons, List.length_append, List.length_replicate] at hl
    simp only [Int.toNat_natCast] at hl
    rw [joinF, if_neg (by simp; omega), if_neg h.1, if_neg (by simp; omega)]
    simp only [Int.toNat_natCast]
    rw [ih (by rw [last_rep]; exact h.2.2.2) (by rw [List.length_append, List.length_replicate]; omega), flat_cons]
    simp
theorem join_rsp {vs : List Int} (h : R64s vs) (hl : vs.length ≤ 4096) : joinF [] (rsp vs) = (vs, 0) := by
  rw [joinF_good (vs := []) (rsp_good h) (by rw [rsp_flat h]; simpa using hl), rsp_flat h]; rfl

/-- Runs as bytes. -/
def encL (rs : List (Int × Int)) : List Nat := (rs.map fun r => vput (foldS r.1).toNat ++ vput r.2.toNat).flatten
theorem encL_nil : encL [] = [] := rfl
theorem encL_cons (r : Int × Int) (rs : List (Int × Int)) : encL (r :: rs) = vput (foldS r.1).toNat ++ (vput r.2.toNat ++ encL rs) := by simp [encL]
theorem encL_snoc (rs : List (Int × Int)) (r : Int × Int) : encL (rs ++ [r]) = encL rs ++ vput (foldS r.1).toNat ++ vput r.2.toNat := by simp [encL]
def encR (rs : List (Int × Int)) : List Nat := vput rs.length ++ encL rs

/-- What Decode answers, when the runs so far have told vs, m are left, and the next begins at place a. -/
def decR (bs : List Nat) : Nat → List Int → Int → List Int × Int
  | 0, vs, a => if a < (bs.length : Int) then ([], 3) else (vs, 0)
  | m + 1, vs, a =>
    if (vget bs a).2.2 ≠ 0 then ([], (vget bs a).2.2) else
    if (vget bs (vget bs a).2.1).2.2 ≠ 0 then ([], (vget bs (vget bs a).2.1).2.2) else
    if (vget bs (vget bs a).2.1).1 = 0 ∨ vs.getLast? = some (unfS (vget bs a).1) then ([], 5) else
    if 4096 - (vs.length : Int) < (vget bs (vget bs a).2.1).1 then ([], 4) else
    decR bs m (vs ++ List.replicate (vget bs (vget bs a).2.1).1 (unfS (vget bs a).1)) (vget bs (vget bs a).2.1).2.1
def decode8 (bs : List Nat) : List Int × Int :=
  if (vget bs 0).2.2 ≠ 0 then ([], (vget bs 0).2.2) else if 4096 < (vget bs 0).1 then ([], 4) else decR bs (vget bs 0).1 [] (vget bs 0).2.1

theorem unf_range {u : Nat} (h : u < 18446744073709551616) : R64 (unfS u) := by unfold R64 unfS; split <;> omega
theorem fold_range {v : Int} (h : R64 v) : 0 ≤ foldS v ∧ foldS v < 18446744073709551616 := by unfold R64 at h; unfold foldS; split <;> omega
theorem unf_fold (v : Int) : unfS (foldS v) = v := by unfold unfS foldS; split <;> split <;> omega
theorem fold_unf {u : Int} (h : 0 ≤ u) : foldS (unfS u) = u := by unfold unfS foldS; split <;> split <;> omega

/-- What vput has written is got. -/
theorem vget_put {bs rest : List Nat} {a u : Nat} (hu : u < 18446744073709551616) (ha : a ≤ bs.length) (h : bs.drop a = vput u ++ rest) :
    vget bs (a : Int) = (u, (a : Int) + (vput u).length, 0) ∧ a + (vput u).length ≤ bs.length ∧ bs.drop (a + (vput u).length) = rest := by
  refine ⟨?_, ?_, ?_⟩
  · rw [vput_len]
    exact vget_ok ha (by rw [h]; exact vgetF_vput hu rest)
  · have := congrArg List.length h
    rw [List.length_drop, List.length_append] at this
    omega
  · rw [← List.drop_drop, h, List.drop_left]

/-- What has been written is decoded. -/
theorem decR_enc {bs rest : List Nat} {rs : List (Int × Int)} : ∀ {vs : List Int} {a : Nat}, a ≤ bs.length → bs.drop a = encL rs ++ rest → GoodR vs.getLast? rs → vs.length + (flat rs).length ≤ 4096 →
    decR bs rs.length vs (a : Int) = if rest = [] then (vs ++ flat rs, 0) else ([], 3) := by
  induction rs with
  | nil =>
    intro vs a ha hd _ _
    have hl := congrArg List.length hd
    rw [encL_nil, List.nil_append, List.length_drop] at hl
    rw [List.length_nil, decR]
    by_cases hr : rest = []
    · subst hr
      rw [if_pos rfl, if_neg (by simp at hl; omega)]
      simp [flat]
    · rw [if_neg hr, if_pos]
      have : 0 < rest.length := List.length_pos_iff.2 hr
      omega
  | cons r rs ih =>
    intro vs a ha hd hg hl
    obtain ⟨v, c⟩ := r
    have hc := hg.2.1
    simp at hc
    obtain ⟨m, hm⟩ : ∃ m : Nat, c = ((m + 1 : Nat) : Int) := ⟨c.toNat - 1, by omega⟩
    subst hm
    obtain ⟨f0, f1⟩ := fold_range hg.2.2.1
    simp only at f0 f1
    obtain ⟨u, hu⟩ : ∃ u : Nat, foldS v = (u : Int) := ⟨(foldS v).toNat, by omega⟩
    have huv : unfS (u : Int) = v := by rw [← hu, unf_fold]
    rw [flat_cons, List.length_append, List.length_replicate] at hl
    simp only [Int.toNat_natCast] at hl
    rw [encL_cons, List.append_assoc, List.append_assoc] at hd
    simp only [Int.toNat_natCast, hu] at hd
    obtain ⟨g1, b1, d1⟩ := vget_put (by omega) ha hd
    obtain ⟨g2, b2, d2⟩ := vget_put (by omega) b1 d1
    rw [Int.natCast_add] at g2
    rw [List.length_cons, decR, g1]
    simp only [ne_eq, not_true_eq_false, if_false]
    rw [g2]
    simp only [not_true_eq_false, if_false]
    rw [huv, if_neg (by rintro (h | h); omega; exact hg.1 h), if_neg (by omega)]
    rw [show (a : Int) + ((vput u).length : Int) + ((vput (m + 1)).length : Int) = ((a + (vput u).length + (vput (m + 1)).length : Nat) : Int) from by omega]
    rw [ih b2 d2 (by rw [last_rep]; exact hg.2.2.2) (by rw [List.length_append, List.length_replicate]; omega), flat_cons]
    simp

theorem encR_len (rs : List (Int × Int)) : (encR rs).length = (vput rs.length).length + (encL rs).length := by rw [encR, List.length_append]
theorem decode8_enc {rs : List (Int × Int)} (rest : List Nat) (h : GoodR none rs) (hl : (flat rs).length ≤ 4096) : decode8 (encR rs ++ rest) = if rest = [] then (flat rs, 0) else ([], 3) := by
  have hn := (flat_len_le h).1
  obtain ⟨g1, b1, d1⟩ := vget_put (bs := encR rs ++ rest) (a := 0) (u := rs.length) (rest := encL rs ++ rest) (by omega) (Nat.zero_le _) (by rw [List.drop_zero, encR, List.append_assoc])
  rw [decode8, show (0 : Int) = ((0 : Nat) : Int) from rfl, g1]
  simp only [ne_eq]
  rw [← Int.natCast_add, decR_enc (vs := []) b1 d1 h (by simpa using hl), if_neg (by simp), if_neg (by omega)]
  simp

/-- Bytes that are decoded are those of the runs. -/
theorem decR_only {bs : List Nat} (hb : U8 bs) : ∀ {m : Nat} {vs out : List Int} {a : Int}, 0 ≤ a → a ≤ bs.length → vs.length ≤ 4096 → decR bs m vs a = (out, 0) →
    ∃ rs, rs.length = m ∧ GoodR vs.getLast? rs ∧ out = vs ++ flat rs ∧ bs.drop a.toNat = encL rs ∧ out.length ≤ 4096 := by
  intro m
  induction m with
  | zero =>
    intro vs out a h0 ha hl h
    rw [decR] at h
    by_cases hlt : a < (bs.length : Int)
    · rw [if_pos hlt] at h; injection h with _ h; exact absurd h (by decide)
    · rw [if_neg hlt] at h
      injection h with h _
      subst h
      exact ⟨[], rfl, trivial, by simp [flat], by rw [List.drop_of_length_le (by omega)]; rfl, hl⟩
  | succ m ih =>
    intro vs out a h0 ha hl h
    rcases hg1 : vget bs a with ⟨u, a1, e1⟩
    rw [decR, hg1] at h
    simp only at h
    by_cases he1 : e1 = 0
    · subst he1
      rcases hg2 : vget bs a1 with ⟨k, a2, e2⟩
      rw [hg2] at h
      simp only [ne_eq, not_true_eq_false, if_false] at h
      by_cases he2 : e2 = 0
      · subst he2
        simp only [not_true_eq_false, if_false] at h
        by_cases h3 : k = 0 ∨ vs.getLast? = some (unfS u)
        · rw [if_pos h3] at h; injection h with _ h; exact absurd h (by decide)
        rw [if_neg h3] at h
        by_cases h4 : 4096 - (vs.length : Int) < k
        · rw [if_pos h4] at h; injection h with _ h; exact absurd h (by decide)
        rw [if_neg h4] at h
        obtain ⟨p1, p2, p3, p4, p5⟩ := vget_at hb hg1
        obtain ⟨q1, q2, q3, q4, q5⟩ := vget_at hb hg2
        obtain ⟨t, rfl⟩ : ∃ t, k = t + 1 := ⟨k - 1, by omega⟩
        obtain ⟨rs, r1, r2, r3, r4, r5⟩ := ih (by omega) q3 (by rw [List.length_append, List.length_replicate]; omega) h
        rw [last_rep] at r2
        refine ⟨(unfS u, ((t + 1 : Nat) : Int)) :: rs, by rw [List.length_cons, r1], ⟨fun hh => h3 (.inr hh), by show (1 : Int) ≤ ((t + 1 : Nat) : Int); omega, unf_range p4, r2⟩, ?_, ?_, r5⟩
        · rw [r3, flat_cons]; simp
        · rw [encL_cons, ← r4]
          simp only [Int.toNat_natCast]
          rw [fold_unf (by omega), Int.toNat_natCast, p5, q5, show a1.toNat = a.toNat + (a1.toNat - a.toNat) from by omega, ← List.drop_drop]
          generalize hD : bs.drop a.toNat = D
          rw [show a2.toNat = a.toNat + ((a1.toNat - a.toNat) + (a2.toNat - a1.toNat)) from by omega, ← List.drop_drop, hD, ← List.drop_drop]
          rw [show a.toNat + (a1.toNat - a.toNat) - a.toNat = a1.toNat - a.toNat from by omega, show a.toNat + (a1.toNat - a.toNat + (a2.toNat - a1.toNat)) - (a.toNat + (a1.toNat - a.toNat)) = a2.toNat - a1.toNat from by omega]
          rw [List.take_append_drop, List.take_append_drop]
      · rw [if_pos he2] at h; injection h with _ h; exact absurd h he2
    · rw [if_pos he1] at h; injection h with _ h; exact absurd h he1

theorem decode8_only {bs : List Nat} {vs : List Int} (hb : U8 bs) (h : decode8 bs = (vs, 0)) : ∃ rs, GoodR none rs ∧ vs = flat rs ∧ bs = encR rs ∧ vs.length ≤ 4096 ∧ rs = rsp vs := by
  rcases hg : vget bs 0 with ⟨m, a, e⟩
  rw [decode8, hg] at h
  simp only at h
  by_cases he : e = 0
  · subst he
    simp only [ne_eq, not_true_eq_false, if_false] at h
    by_cases hm : 4096 < m
    · rw [if_pos hm] at h; injection h with _ h; exact absurd h (by decide)
    rw [if_neg hm] at h
    obtain ⟨p1, p2, p3, p4, p5⟩ := vget_at hb hg
    obtain ⟨rs, r1, r2, r3, r4, r5⟩ := decR_only hb (by omega) p3 (by simp) h
    rw [List.nil_append] at r3
    refine ⟨rs, r2, r3, ?_, r5, by rw [r3, rsp_of_flat r2]⟩
    rw [encR, r1, p5, ← r4]
    simp
  · rw [if_pos he] at h; injection h with _ h; exact absurd h he
theorem decode8_err {bs : List Nat} (he : (decode8 bs).2 ≠ 0) : (decode8 bs).1 = [] := by
  have hR : ∀ m vs a, (decR bs m vs a).2 ≠ 0 → (decR bs m vs a).1 = [] := by
    intro m
    induction m with
    | zero =>
      intro vs a h
      rw [decR] at h ⊢
      split
      · rfl
      · rename_i h2; rw [if_neg h2] at h; exact absurd rfl h
    | succ m ih =>
      intro vs a h
      rw [decR] at h ⊢
      split
      · rfl
      · rename_i h2; rw [if_neg h2] at h
        split
        · rfl
        · rename_i h3; rw [if_neg h3] at h
          split
          · rfl
          · rename_i h4; rw [if_neg h4] at h
            split
            · rfl
            · rename_i h5; rw [if_neg h5] at h
              exact ih _ _ h
  unfold decode8 at he ⊢
  split
  · rfl
  · rename_i h2; rw [if_neg h2] at he
    split
    · rfl
    · rename_i h3; rw [if_neg h3] at he
      exact hR _ _ _ he

/-- What Split and Encode answer. -/
def split8 (vs : List Int) : List (Int × Int) × Int := if 4096 < vs.length then ([], 4) else (rsp vs, 0)
def encode8 (vs : List Int) : List Nat × Int := if 4096 < vs.length then ([], 4) else (encR (rsp vs), 0)

end Go.Proofs.YtfghepkojcebfaaGreat

namespace Go.Proofs.YtfghepkojcebfaaGreat
open Go.RowKit
set_option maxRecDepth 100000

set_option maxHeartbeats 400000 in
theorem power_nat (k : Nat) (w : World) (hk : k ≤ 63) :
    Calls Tryz.prog 99 #[.int .i64 k] w fun e w' => e = .returned (.int .u64 (pw k)) ∧ w' = w := by
  go_enter Tryz.func99, Tryz.ntmps99
  go_wp2
  go_loop [3, 4] (fun p i => ∃ j : Nat, j ≤ k ∧ i = .int .i64 j ∧ p = .int .u64 (pw j)) (fun _ i => k - (intOf i).toNat)
  case atStart => exact ⟨0, by omega, rfl, rfl⟩
  case round =>
    obtain ⟨j, hj, rfl, rfl⟩ := hrel
    by_cases hlt : j < k
    · go_wp2
      go_round
      case rel =>
        refine ⟨j + 1, by omega, by go_num, ?_⟩
        have h1 := pw_succ j
        have h2 := pw_le (show j + 1 ≤ 63 by omega)
        rw [pw_63] at h2
        rw [pw_succ, IntKind.wrap_u64, Int.emod_eq_of_lt (by omega) (by omega)]; go_num
      case measure => simp [intOf]; omega
    · obtain rfl : j = k := by omega
      go_wp2
      go_ret
      exact ⟨rfl, rfl⟩

theorem power_any (k : Int) (w : World) (h0 : 0 ≤ k) (hk : k ≤ 63) :
    Calls Tryz.prog 99 #[.int .i64 k] w fun e w' => e = .returned (.int .u64 (pw k.toNat)) ∧ w' = w := by
  obtain ⟨n, rfl⟩ := Int.eq_ofNat_of_zero_le h0
  exact power_nat n w (by omega)

end Go.Proofs.YtfghepkojcebfaaGreat
