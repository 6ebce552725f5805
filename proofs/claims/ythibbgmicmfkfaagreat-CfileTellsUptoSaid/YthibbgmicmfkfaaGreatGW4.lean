import Derived.Test.YthibbgmicmfkfaaGreatGW3
import Derived.Lib.AppendZeros
import Derived.Lib.SliceRun
import Derived.Laws.CopyOwn
import Derived.Deep.RegionLaw
import Derived.Deep.WholeRow
import Derived.Stop.BytesEq
namespace Go.Proofs.YthibbgmicmfkfaaGreat
open Go.RowKit
set_option maxRecDepth 100000
theorem Tryz.infoCell : (Tryz.prog.info? 61).map (fun i => (i.zero, i.size, i.bytes)) = some (some (.agg #[.bool false, .int .i64 0, .slice none 0 0]), 3, 40) := by kernel_rfl
def Ci.cells (x : Ci) : List Value := [.bool x.nul, .int .i64 x.num, .slice x.A x.txt.length x.c]
def xcells (xs : List Ci) : List Value := (xs.map Ci.cells).flatten
theorem xcells_snoc (xs : List Ci) (x : Ci) : xcells (xs ++ [x]) = xcells xs ++ x.cells := by simp [xcells]
theorem xcells_len (xs : List Ci) : (xcells xs).length = xs.length * 3 := by
 induction xs with
 | nil => rfl
 | cons f r ih =>
   have : xcells (f :: r) = f.cells ++ xcells r := by simp [xcells]
   rw [this, List.length_append, ih, List.length_cons]
   show 3 + _ = _
   omega
theorem xcells_at {xs : List Ci} {j : Nat} {x : Ci} (h : xs[j]? = some x) (i : Nat) (hi : i < 3) : (xcells xs)[j * 3 + i]? = x.cells[i]? := by
 induction xs generalizing j with
 | nil => simp at h
 | cons f r ih =>
   have hc : xcells (f :: r) = f.cells ++ xcells r := by simp [xcells]
   have hf : f.cells.length = 3 := rfl
   rw [hc]
   cases j with
   | zero =>
     simp at h
     subst h
     rw [Nat.zero_mul, Nat.zero_add, List.getElem?_append_left (by omega)]
   | succ j =>
     rw [List.getElem?_append_right (by omega), hf, ← ih (j := j) (by simpa using h)]
     congr 1
     omega
def OwnX (w : World) (base : Nat) (A : Option Addr) (c : Nat) (xs : List Ci) : Prop := w.ownsRow base 61 3 (.slice A xs.length c) xs.length (xcells xs)
def TxtX (w : World) (base : Nat) (xs : List Ci) : Prop :=
 (∀ x ∈ xs, Own .u8 5 w base x.A x.c x.txt) ∧ xs.Pairwise fun f g => ∀ p q, f.A = some p → g.A = some q → p.block < q.block
theorem OwnX.nil (w : World) (base : Nat) : OwnX w base none 0 [] := World.ownsRow_nil w base _ 3
theorem OwnX.made {base : Nat} (w : World) (hb : base ≤ w.heap.size) : OwnX (w.alloc (.cells #[] 61)) base (some ⟨w.heap.size, 0, none⟩) 0 [] :=
 World.ownsRow_made w #[] 0 hb (by simp [maxLen]) (by simp)
theorem OwnX.ext {w w' : World} {base c : Nat} {A : Option Addr} {xs : List Ci} (h : OwnX w base A c xs) (hb : Ext w w') : OwnX w' base A c xs := by
 refine World.ownsRow.kept (row := none) h ⟨hb.os, hb.tape, hb.output, hb.size, fun i hi _ => hb.block i hi⟩ ?_
 cases hv : (Value.slice A xs.length c).ownBlock <;> simp
theorem TxtX.nil (w : World) (base : Nat) : TxtX w base [] := ⟨fun f h => (by cases h), .nil⟩
theorem TxtX.ext {w w' : World} {base : Nat} {xs : List Ci} (h : TxtX w base xs) (hb : Ext w w') : TxtX w' base xs := ⟨fun f hf => (h.1 f hf).ext hb, h.2⟩
theorem own_neX {w : World} {base base' c c' : Nat} {A A' : Option Addr} {fs : List Ci} {xs : List Nat} (h : OwnX w base A c fs) (k : Own .u8 5 w base' A' c' xs) : ∀ a, A' = some a → some a.block ≠ (Value.slice A fs.length c).ownBlock := by
 rintro a rfl e
 rcases h.2 with ⟨hv, _⟩ | ⟨g, cap, cur, hv, hg, hh, _⟩
 · rw [hv] at e; simp [Value.ownBlock] at e
 · rw [hv] at e
   simp [Value.ownBlock] at e
   rcases k.2 with ⟨hv', _⟩ | ⟨g', cap', cur', hv', _, hh', _⟩
   · cases hv'
   · injection hv' with hA
     injection hA with hA
     subst hA
     simp at e
     subst e
     rw [hh] at hh'
     injection hh' with hh'
     injection hh' with h1 h2 h3
     exact absurd h2 (by decide)
theorem TxtX.grown {w w' : World} {base base' c : Nat} {A : Option Addr} {fs gs : List Ci} (h : TxtX w base fs) (k : OwnX w base' A c gs) (hg : w.grownBy w' (Value.slice A gs.length c).ownBlock) : TxtX w' base fs :=
 ⟨fun f hf => (h.1 f hf).grown hg (own_neX k (h.1 f hf)), h.2⟩
theorem TxtX.snoc {w : World} {base base' : Nat} {fs : List Ci} {f : Ci} (h : TxtX w base fs) (hf : Own .u8 5 w base' f.A f.c f.txt) (hb : base ≤ base') (hl : ∀ g ∈ fs, ∀ p, g.A = some p → p.block < base') : TxtX w base (fs ++ [f]) := by
 refine ⟨fun g hg => ?_, ?_⟩
 · rcases List.mem_append.1 hg with h1 | h1
   · exact h.1 g h1
   · simp at h1; subst h1; exact hf.mono hb
 · rw [List.pairwise_append]
   refine ⟨h.2, by simp, fun g hg f' hf' p q hp hq => ?_⟩
   simp at hf'
   subst hf'
   exact Nat.lt_of_lt_of_le (hl g hg p hp) (hf.block q hq).1
theorem OwnX.rdX {w : World} {base c : Nat} {A : Option Addr} {xs : List Ci} (h : OwnX w base A c xs) (k : ∀ x ∈ xs, x.In w) : RdX w A xs.length xs := by
 refine ⟨rfl, fun hn => ?_⟩
 rcases h.2 with ⟨_, h0⟩ | ⟨g, cap, cur, hv, hg, hh, hnc, hcm, hcs, htake⟩
 · omega
 · injection hv with hA hl hc
   subst hA
   have hlt : g < w.heap.size := (Array.getElem?_eq_some_iff.1 hh).1
   refine ⟨g, 0, rfl, hlt, fun j x hj => ?_⟩
   have hjl : j < xs.length := (List.getElem?_eq_some_iff.1 hj).1
   have hat : ∀ i, i < xs.length * 3 → cur[i]? = (xcells xs)[i]? := fun i hi => by
     rw [← htake, List.getElem?_take, if_pos hi]
     simp
   refine ⟨?_, ?_, ?_, k x (List.mem_of_getElem? hj)⟩
   · rw [cell_of_row w g _ cur _ (0, 0) hh, Nat.zero_add, hat _ (by omega)]; exact xcells_at hj 0 (by omega)
   · rw [cell_of_row w g _ cur _ (0, 0) hh, Nat.zero_add, hat _ (by omega)]; exact xcells_at hj 1 (by omega)
   · rw [cell_of_row w g _ cur _ (0, 0) hh, Nat.zero_add, hat _ (by omega)]; exact xcells_at hj 2 (by omega)
theorem wpList_pushX {w0 w : World} {ops : Array Oper} {rest : List Oper} {o : Oper} {a : Act} {Q : Exit → Act → World → Prop} (f : Ci) (hgd : o.guard = none) (s y : Operand)
   (ho : o.op = .call { callee := .builtin .append, args := #[s, y], argTypes := #[25, 25] })
   {base : Nat} {A : Option Addr} {c : Nat} {fs : List Ci} (hown : OwnX w base A c fs) (n : Nat) (hn : fs.length = n) (hs : a.eval s = .slice A n c)
   {g : Nat} (hy : a.eval y = .slice (some ⟨g, 0, none⟩) 1 1) (hg : w.heap[g]? = some (.cells #[.bool f.nul, .int .i64 f.num, .slice f.A f.txt.length f.c] 61))
   (hlen : n ≤ 4398046511104) (hb : Below base w0 w) (hbase : base ≤ w.heap.size)
   (h : ∀ A' c' w', OwnX w' base A' c' (fs ++ [f]) → w.grownBy w' (Value.slice A fs.length c).ownBlock → Below base w0 w' → base ≤ w'.heap.size → wpList Tryz.prog ops Q rest (a.put o.dst (.slice A' (n + 1) c')) w') :
   wpList Tryz.prog ops Q (o :: rest) a w := by
 subst hn
 obtain ⟨i, hi0, hz, hsz, hbs⟩ := info_parts Tryz.infoCell
 refine wpList_append_own_wide w hgd s y 25 ho base 61 i _ 3 40 Tryz.underlying25 hi0 hz hsz hbs rfl (by decide) _ fs.length (xcells fs) hs hown
   ⟨g, 0, none⟩ 1 1 f.cells hy rfl ?_ ?_ (by unfold maxLen; omega) (by omega) hbase ?_
 · intro j u hj
   have hcr : w.cell? ((⟨g, 0, none⟩ : Addr).add j) = #[Value.bool f.nul, .int .i64 f.num, .slice f.A f.txt.length f.c][j]? := by
     rw [show (⟨g, 0, none⟩ : Addr).add j = ⟨g, j, none⟩ from by unfold Addr.add; split <;> simp_all]
     exact cell_of_row w g j _ _ (0, 0) hg
   rw [hcr, ← hj]
   simp [Ci.cells]
 · intro u hu
   simp [Ci.cells] at hu
   rcases hu with rfl | rfl | rfl <;> rfl
 · intro v' w' hown' hgr _
   have hform : ∃ A' c', v' = .slice A' (fs.length + 1) c' := by
     rcases hown'.2 with ⟨_, h0⟩ | ⟨g, cap, cur, hv, _⟩
     · omega
     · exact ⟨_, _, hv⟩
   obtain ⟨A', c', rfl⟩ := hform
   have hb' : Below base w0 w' := Below.grown hb hgr hbase (fun g hg' => (hown.lt g hg').1)
   refine h A' c' w' ?_ hgr hb' ?_
   · unfold OwnX
     rw [List.length_append, xcells_snoc]
     exact hown'
   · have := hgr.size
     omega
def cb (s : Nat) : Nat := if s % 2 = 1 then s / 2 ^^^ 2197175160 else s / 2
def cN : Nat → Nat → Nat
 | 0, s => s
 | k + 1, s => cN k (cb s)
theorem cb_odd {s : Nat} (h : s % 2 = 1) : cb s = s / 2 ^^^ 2197175160 := by simp [cb, h]
theorem cb_even {s : Nat} (h : s % 2 = 0) : cb s = s / 2 := by simp [cb, h]
theorem xor4 (a b c d : Nat) : (a ^^^ b) ^^^ (c ^^^ d) = (a ^^^ c) ^^^ (b ^^^ d) := by
 rw [Nat.xor_assoc, Nat.xor_assoc, ← Nat.xor_assoc b, Nat.xor_comm b c, Nat.xor_assoc c]
theorem xor_can (a b : Nat) : (a ^^^ b) ^^^ b = a := by rw [Nat.xor_assoc, Nat.xor_self, Nat.xor_zero]
theorem xor_can' (a b : Nat) : b ^^^ (b ^^^ a) = a := by rw [← Nat.xor_assoc, Nat.xor_self, Nat.zero_xor]
theorem xor_eq0 {a b : Nat} (h : a ^^^ b = 0) : a = b := by rw [← xor_can a b, h, Nat.zero_xor]
theorem xor_half (a b : Nat) : (a ^^^ b) / 2 = a / 2 ^^^ b / 2 := Nat.xor_div_two_pow (n := 1)
theorem xor_par (a b : Nat) : (a ^^^ b) % 2 = (a % 2 ^^^ b % 2) := by have := Nat.xor_mod_two_pow (a := a) (b := b) (n := 1); simpa using this
theorem cb_xor (a b : Nat) : cb (a ^^^ b) = cb a ^^^ cb b := by
 have hp := xor_par a b
 have hh := xor_half a b
 rcases Nat.mod_two_eq_zero_or_one a with h1 | h1 <;> rcases Nat.mod_two_eq_zero_or_one b with h2 | h2 <;> rw [h1, h2] at hp
 · rw [cb_even hp, cb_even h1, cb_even h2, hh]
 · rw [cb_odd hp, cb_even h1, cb_odd h2, hh, Nat.xor_assoc]
 · rw [cb_odd hp, cb_odd h1, cb_even h2, hh, Nat.xor_assoc, Nat.xor_assoc, Nat.xor_comm (b / 2)]
 · rw [cb_even hp, cb_odd h1, cb_odd h2, hh, xor4, Nat.xor_self, Nat.xor_zero]
theorem cN_xor (k a b : Nat) : cN k (a ^^^ b) = cN k a ^^^ cN k b := by
 induction k generalizing a b with
 | zero => rfl
 | succ k ih => simp only [cN]; rw [cb_xor, ih]
theorem cN_zero (k : Nat) : cN k 0 = 0 := by
 induction k with
 | zero => rfl
 | succ k ih => simpa [cN, cb] using ih
theorem cb_dbl (x : Nat) : cb (2 * x) = x := by rw [cb_even (by omega)]; omega
theorem cN_shift (k x : Nat) : cN k (2 ^ k * x) = x := by
 induction k with
 | zero => simp [cN]
 | succ k ih => rw [cN, Nat.pow_succ, Nat.mul_comm (2 ^ k) 2, Nat.mul_assoc, cb_dbl, ih]
theorem cN_add (j k s : Nat) : cN (j + k) s = cN k (cN j s) := by
 induction j generalizing s with
 | zero => simp [cN]
 | succ j ih => rw [Nat.succ_add, cN, ih, cN]
theorem cN_succ (k s : Nat) : cN (k + 1) s = cb (cN k s) := by rw [cN_add]; rfl
theorem cb_lt {s : Nat} (h : s < 4294967296) : cb s < 4294967296 := by
 unfold cb
 split
 · exact Nat.xor_lt_two_pow (n := 32) (by omega) (by omega)
 · omega
theorem cN_lt (k : Nat) {s : Nat} (h : s < 4294967296) : cN k s < 4294967296 := by
 induction k generalizing s with
 | zero => exact h
 | succ k ih => exact ih (cb_lt h)
theorem cb_inj0 {s : Nat} (h : s < 4294967296) (h0 : cb s = 0) : s = 0 := by
 rcases Nat.mod_two_eq_zero_or_one s with h1 | h1
 · rw [cb_even h1] at h0; omega
 · rw [cb_odd h1] at h0
   have := xor_eq0 h0
   omega
theorem cN_inj0 (k : Nat) {s : Nat} (h : s < 4294967296) (h0 : cN k s = 0) : s = 0 := by
 induction k generalizing s with
 | zero => exact h0
 | succ k ih => exact cb_inj0 h (ih (cb_lt h) h0)
theorem xor_lt32 {a b : Nat} (ha : a < 4294967296) (hb : b < 4294967296) : a ^^^ b < 4294967296 := Nat.xor_lt_two_pow (n := 32) ha hb
theorem cN_inj (k : Nat) {a b : Nat} (ha : a < 4294967296) (hb : b < 4294967296) (h : cN k a = cN k b) : a = b := by
 refine xor_eq0 (cN_inj0 k (xor_lt32 ha hb) ?_)
 rw [cN_xor, h, Nat.xor_self]
theorem lowhigh {w v x : Nat} (h : v < 2 ^ w) : v + 2 ^ w * x = v ^^^ 2 ^ w * x := by
 have h1 : (v ^^^ 2 ^ w * x) % 2 ^ w = v := by rw [Nat.xor_mod_two_pow, Nat.mul_mod_right, Nat.xor_zero, Nat.mod_eq_of_lt h]
 have h2 : (v ^^^ 2 ^ w * x) / 2 ^ w = x := by rw [Nat.xor_div_two_pow, Nat.div_eq_of_lt h, Nat.zero_xor, Nat.mul_div_cancel_left _ (Nat.two_pow_pos w)]
 have := Nat.mod_add_div (v ^^^ 2 ^ w * x) (2 ^ w)
 rw [h1, h2] at this
 exact this
def creg (s : Nat) (bs : List Nat) : Nat := cN (8 * bs.length) (s ^^^ pk 8 bs)
theorem creg_nil (s : Nat) : creg s [] = s := by simp [creg, pk, cN]
theorem creg_cons (s : Nat) {v : Nat} {r : List Nat} (hv : v < 256) : creg s (v :: r) = creg (cN 8 (s ^^^ v)) r := by
 unfold creg
 rw [List.length_cons, Nat.mul_succ, Nat.add_comm, cN_add, pk, lowhigh (w := 8) (by simpa using hv), ← Nat.xor_assoc, cN_xor 8, cN_shift]
theorem creg_append {a : List Nat} (ha : U8 a) (s : Nat) (b : List Nat) : creg s (a ++ b) = creg (creg s a) b := by
 induction a generalizing s with
 | nil => rw [creg_nil]; rfl
 | cons v r ih =>
   have hv : v < 256 := ha v List.mem_cons_self
   rw [List.cons_append, creg_cons s hv, creg_cons s hv, ih (fun x hx => ha x (List.mem_cons_of_mem _ hx))]
theorem creg_snoc {a : List Nat} (ha : U8 a) (s : Nat) {v : Nat} (hv : v < 256) : creg s (a ++ [v]) = cN 8 (creg s a ^^^ v) := by
 rw [creg_append ha, creg_cons _ hv, creg_nil]
theorem creg_lt {a : List Nat} (ha : U8 a) {s : Nat} (hs : s < 4294967296) : creg s a < 4294967296 := by
 induction a generalizing s with
 | nil => rw [creg_nil]; exact hs
 | cons v r ih =>
   have hv : v < 256 := ha v List.mem_cons_self
   rw [creg_cons s hv]
   exact ih (fun x hx => ha x (List.mem_cons_of_mem _ hx)) (cN_lt 8 (xor_lt32 hs (by omega)))
def crc (bs : List Nat) : Nat := creg 4294967295 bs ^^^ 4294967295
theorem crc_lt {a : List Nat} (ha : U8 a) : crc a < 4294967296 := xor_lt32 (creg_lt ha (by decide)) (by decide)
theorem crc_nil : crc [] = 0 := by rw [crc, creg_nil, Nat.xor_self]
theorem crc_reg (a : List Nat) : crc a ^^^ 4294967295 = creg 4294967295 a := by rw [crc, xor_can]
theorem pk_append (w : Nat) (a b : List Nat) : pk w (a ++ b) = pk w a + 2 ^ (w * a.length) * pk w b := by
 induction a with
 | nil => simp [pk]
 | cons v r ih => rw [List.cons_append, pk, ih, pk, List.length_cons, two_pow_mul_succ, Nat.mul_add, Nat.mul_assoc, Nat.add_assoc]
def sld (bs : List Nat) : Prop := 4 ≤ bs.length ∧ pk 8 (bs.drop (bs.length - 4)) = crc (bs.take (bs.length - 4))
instance (bs : List Nat) : Decidable (sld bs) := by unfold sld; infer_instance
theorem u8_append {a b : List Nat} (h : U8 a) (k : U8 b) : U8 (a ++ b) := fun v hv => (List.mem_append.1 hv).elim (h v) (k v)
theorem creg_four (s : Nat) {q : List Nat} (h : q.length = 4) : creg s q = cN 32 (s ^^^ pk 8 q) := by rw [creg, h]
theorem sld_split {t q : List Nat} (hq : q.length = 4) : sld (t ++ q) ↔ pk 8 q = crc t := by
 unfold sld
 rw [List.length_append, hq, Nat.add_sub_cancel, List.drop_left, List.take_left]
 exact ⟨fun h => h.2, fun h => ⟨by omega, h⟩⟩
theorem sld_reg {bs : List Nat} (h : U8 bs) (hl : 4 ≤ bs.length) : sld bs ↔ creg 4294967295 bs = cN 32 4294967295 := by
 have hs : bs = bs.take (bs.length - 4) ++ bs.drop (bs.length - 4) := (List.take_append_drop _ _).symm
 have hq : (bs.drop (bs.length - 4)).length = 4 := by rw [List.length_drop]; omega
 have ht := u8_take h (bs.length - 4)
 have hu := u8_drop h (bs.length - 4)
 generalize bs.take (bs.length - 4) = t at *
 generalize bs.drop (bs.length - 4) = q at *
 subst hs
 rw [sld_split hq, creg_append ht, creg_four _ hq, crc]
 have hr := creg_lt ht (s := 4294967295) (by decide)
 have hv : pk 8 q < 4294967296 := by have := pk_lt (U8_wd.1 hu); rw [hq] at this; exact this
 constructor
 · intro e
   rw [e, xor_can']
 · intro e
   have := cN_inj 32 (xor_lt32 hr hv) (by decide) e
   rw [← xor_can' (pk 8 q) (creg 4294967295 t), this]
theorem sld_seal {t : List Nat} (ht : U8 t) : sld (t ++ upk 8 4 (crc t)) := by
 rw [sld_split (upk_len 8 4 _), pk_upk]
 exact Nat.mod_eq_of_lt (crc_lt ht)
def tn (bs : List Nat) (e : Nat) : List Nat := upk 8 bs.length (pk 8 bs ^^^ e)
theorem tn_len (bs : List Nat) (e : Nat) : (tn bs e).length = bs.length := upk_len _ _ _
theorem tn_u8 (bs : List Nat) (e : Nat) : U8 (tn bs e) := U8_wd.2 (upk_wd _ _ _)
theorem tn_zero {bs : List Nat} (h : U8 bs) : tn bs 0 = bs := by rw [tn, Nat.xor_zero, upk_pk (U8_wd.1 h)]
theorem pk_tn {bs : List Nat} (h : U8 bs) {e : Nat} (he : e < 2 ^ (8 * bs.length)) : pk 8 (tn bs e) = pk 8 bs ^^^ e := by
 rw [tn, pk_upk, Nat.mod_eq_of_lt (Nat.xor_lt_two_pow (pk_lt (U8_wd.1 h)) he)]
theorem creg_tn {bs : List Nat} (h : U8 bs) {e : Nat} (he : e < 2 ^ (8 * bs.length)) (s : Nat) : creg s (tn bs e) = creg s bs ^^^ cN (8 * bs.length) e := by
 rw [creg, tn_len, pk_tn h he, ← Nat.xor_assoc, cN_xor]
 rfl
theorem run_left {p k m : Nat} (hp : p < 4294967296) (h : p * 2 ^ k < 2 ^ m) (h0 : cN m (p * 2 ^ k) = 0) : p = 0 := by
 by_cases hk : k ≤ m
 · obtain ⟨j, rfl⟩ : ∃ j, m = k + j := ⟨m - k, by omega⟩
   rw [cN_add, Nat.mul_comm, cN_shift] at h0
   exact cN_inj0 j hp h0
 · rcases Nat.eq_zero_or_pos p with h1 | h1
   · exact h1
   · have h2 : 2 ^ m ≤ 2 ^ k := Nat.pow_le_pow_right (by omega) (by omega)
     have h3 : 2 ^ k ≤ p * 2 ^ k := Nat.le_mul_of_pos_left _ h1
     omega
theorem sld_tn {bs : List Nat} (h : U8 bs) (hs : sld bs) {p k : Nat} (hp : p < 4294967296) (he : p * 2 ^ k < 2 ^ (8 * bs.length)) : sld (tn bs (p * 2 ^ k)) ↔ p = 0 := by
 have hl := hs.1
 rw [sld_reg (tn_u8 _ _) (by rw [tn_len]; exact hl), creg_tn h he, (sld_reg h hl).1 hs]
 constructor
 · intro q
   have h2 := xor_can' (cN (8 * bs.length) (p * 2 ^ k)) (cN 32 4294967295)
   rw [q, Nat.xor_self] at h2
   exact run_left hp he h2.symm
 · rintro rfl
   rw [Nat.zero_mul, cN_zero, Nat.xor_zero]
theorem upk_bit {n N k : Nat} (h : k < 8 * n) : upk 8 n (N ^^^ 2 ^ k) = (upk 8 n N).set (k / 8) ((upk 8 n N).getD (k / 8) 0 ^^^ 2 ^ (k % 8)) := by
 induction n generalizing N k with
 | zero => omega
 | succ n ih =>
   by_cases hk : k < 8
   · have e1 : k / 8 = 0 := by omega
     have e2 : k % 8 = k := by omega
     have hlt : 2 ^ k < 2 ^ 8 := Nat.pow_lt_pow_right (by omega) hk
     rw [e1, e2, upk, upk, List.set_cons_zero, List.getD_cons_zero, Nat.xor_mod_two_pow, Nat.xor_div_two_pow, Nat.mod_eq_of_lt hlt, Nat.div_eq_of_lt hlt, Nat.xor_zero]
   · obtain ⟨j, rfl⟩ : ∃ j, k = j + 8 := ⟨k - 8, by omega⟩
     have e1 : (j + 8) / 8 = j / 8 + 1 := by omega
     have e2 : (j + 8) % 8 = j % 8 := by omega
     rw [e1, e2, upk, upk, List.set_cons_succ, List.getD_cons_succ, Nat.xor_mod_two_pow, Nat.xor_div_two_pow, Nat.pow_add, Nat.mul_mod_left, Nat.xor_zero, Nat.mul_div_cancel _ (by decide), ih (by omega)]
theorem tn_take {bs : List Nat} (h : U8 bs) {n : Nat} (hn : n ≤ bs.length) (e : Nat) : (tn bs e).take n = tn (bs.take n) (e % 2 ^ (8 * n)) := by
 have hl : (bs.take n).length = n := by rw [List.length_take]; omega
 have hp : pk 8 (bs.take n) = pk 8 bs % 2 ^ (8 * n) := by
   have := congrArg (pk 8) (upk_take 8 bs.length (pk 8 bs) n hn)
   rw [upk_pk (U8_wd.1 h), pk_upk] at this
   exact this
 rw [tn, tn, upk_take _ _ _ _ hn, hl, hp, ← Nat.xor_mod_two_pow, upk_mod _ _ _ _ (Nat.le_refl _)]
theorem upk_drop (w n N i : Nat) (h : i ≤ n) : (upk w n N).drop i = upk w (n - i) (N / 2 ^ (w * i)) := by
 induction n generalizing N i with
 | zero => obtain rfl : i = 0 := by omega
           simp
 | succ n ih =>
   cases i with
   | zero => simp
   | succ i => rw [upk, List.drop_succ_cons, ih _ _ (by omega), Nat.div_div_eq_div_mul, ← two_pow_mul_succ, Nat.succ_sub_succ]
theorem tn_drop {bs : List Nat} (h : U8 bs) {n : Nat} (hn : n ≤ bs.length) (e : Nat) : (tn bs e).drop n = tn (bs.drop n) (e / 2 ^ (8 * n)) := by
 have hp : pk 8 (bs.drop n) = pk 8 bs / 2 ^ (8 * n) := by
   have h1 := pk_append 8 (bs.take n) (bs.drop n)
   have hl : (bs.take n).length = n := by rw [List.length_take]; omega
   rw [List.take_append_drop, hl] at h1
   have h2 := pk_lt (U8_wd.1 (u8_take h n))
   rw [hl] at h2
   rw [h1, Nat.add_mul_div_left _ _ (Nat.two_pow_pos _), Nat.div_eq_of_lt h2, Nat.zero_add]
 rw [tn, tn, upk_drop _ _ _ _ hn, List.length_drop, hp, Nat.xor_div_two_pow]
theorem turn_cut (p k m : Nat) : (p * 2 ^ k) % 2 ^ m = (p % 2 ^ (m - k)) * 2 ^ k ∨ (p * 2 ^ k) % 2 ^ m = 0 ∧ m ≤ k := by
 by_cases h : k ≤ m
 · left
   obtain ⟨j, rfl⟩ : ∃ j, m = k + j := ⟨m - k, by omega⟩
   rw [Nat.add_sub_cancel_left, Nat.pow_add, Nat.mul_comm p, Nat.mul_mod_mul_left, Nat.mul_comm]
 · right
   obtain ⟨j, rfl⟩ : ∃ j, k = m + j := ⟨k - m, by omega⟩
   refine ⟨?_, by omega⟩
   rw [Nat.pow_add, ← Nat.mul_assoc, Nat.mul_comm p, Nat.mul_assoc, Nat.mul_mod_right]
theorem run_rest (p k m : Nat) : (p * 2 ^ k) / 2 ^ m = (if k ≤ m then p / 2 ^ (m - k) else p * 2 ^ (k - m)) := by
 split
 · obtain ⟨j, rfl⟩ : ∃ j, m = k + j := ⟨m - k, by omega⟩
   rw [Nat.add_sub_cancel_left, Nat.pow_add, Nat.mul_comm p, Nat.mul_div_mul_left _ _ (Nat.two_pow_pos k)]
 · obtain ⟨j, rfl⟩ : ∃ j, k = m + j := ⟨k - m, by omega⟩
   rw [Nat.add_sub_cancel_left, Nat.pow_add, ← Nat.mul_assoc, Nat.mul_comm p, Nat.mul_assoc, Nat.mul_div_cancel_left _ (Nat.two_pow_pos m)]
def ext (s : Nat) (b : List Nat) : Nat := creg (s ^^^ 4294967295) b ^^^ 4294967295
theorem ext_crc {a : List Nat} (ha : U8 a) (b : List Nat) : ext (crc a) b = crc (a ++ b) := by rw [ext, crc_reg, ← creg_append ha]; rfl
theorem moved_bits {r : Nat} (hr : r < 4294967296) : bits .xor .u32 ((r : Int) / 2) (bits .and .u32 2197175160 (IntKind.u32.wrap (-(bits .and .u32 (r : Int) 1)))) = ((cb r : Nat) : Int) := by
 have h1 : bits .and .u32 (r : Int) 1 = ((r % 2 : Nat) : Int) := by
   rw [show (1 : Int) = ((1 : Nat) : Int) from rfl, u32_and_nat _ _ hr (by decide), Nat.and_one_is_mod]
 rw [h1, show (r : Int) / 2 = ((r / 2 : Nat) : Int) from rfl]
 rcases Nat.mod_two_eq_zero_or_one r with h | h
 · rw [h, cb_even h, show IntKind.u32.wrap (-((0 : Nat) : Int)) = ((0 : Nat) : Int) from by decide, show (2197175160 : Int) = ((2197175160 : Nat) : Int) from rfl, u32_and_nat _ _ (by decide) (by decide), Nat.and_zero, u32_xor_nat _ _ (by omega) (by decide), Nat.xor_zero]
 · rw [h, cb_odd h, show IntKind.u32.wrap (-((1 : Nat) : Int)) = ((4294967295 : Nat) : Int) from by decide, show (2197175160 : Int) = ((2197175160 : Nat) : Int) from rfl, u32_and_nat _ _ (by decide) (by decide), show 2197175160 &&& 4294967295 = 2197175160 from by decide, u32_xor_nat _ _ (by omega) (by decide)]
theorem not_bits {s : Nat} (hs : s < 4294967296) : bits .xor .u32 IntKind.u32.max (s : Int) = ((s ^^^ 4294967295 : Nat) : Int) := by
 rw [show IntKind.u32.max = ((4294967295 : Nat) : Int) from rfl, u32_xor_nat _ _ (by decide) hs, Nat.xor_comm]
theorem ret_int' {k : IntKind} {a b : Int} (h : a = b) : Ending.returned (.int k a) = .returned (.int k b) := by rw [h]
theorem step_bits {s : Nat} (hs : s < 4294967296) : bits .xor .u32 ((s : Int) / 2) 2197175160 = ((s / 2 ^^^ 2197175160 : Nat) : Int) := by
 rw [show (s : Int) / 2 = ((s / 2 : Nat) : Int) from rfl, show (2197175160 : Int) = ((2197175160 : Nat) : Int) from rfl, u32_xor_nat _ _ (by omega) (by omega)]
set_option maxHeartbeats 400000 in
theorem refSum_any (A : Option Addr) (n c : Nat) (bs : List Nat) (w : World) (hx : Rd .u8 w A n bs) (hu : U8 bs) (hn : n ≤ 180000000000000) :
   Calls Tryz.prog 73 #[.slice A n c] w fun e w' => e = .returned (.int .u32 (crc bs : Nat)) ∧ w = w' := by
 have hl := hx.len
 obtain ⟨M, hM⟩ : ∃ M : Nat, M = 4294967295 := ⟨_, rfl⟩
 have hfin : crc bs = creg M bs ^^^ M := by rw [hM]; rfl
 have hMl : M < 4294967296 := by omega
 have Hl := Lib.hid hl
 have Hf := Lib.hid hfin
 clear hl hfin
 go_enter Tryz.func73, Tryz.ntmps73
 go_wp2
 go_loop [3, 4, 5] (fun s i _ => ∃ j : Nat, j ≤ n ∧ i = .int .i64 j ∧ s = .int .u32 (creg M (bs.take j) : Nat)) (fun _ i _ => n - (intOf i).toNat)
 case atStart => exact ⟨0, Nat.zero_le _, rfl, by rw [hM, List.take_zero, creg_nil]; rfl⟩
 case round =>
   obtain ⟨j, hj, rfl, rfl⟩ := hrel
   have hR : creg M (bs.take j) < 4294967296 := creg_lt (u8_take hu j) hMl
   by_cases hlt : j < n
   · obtain ⟨b, o, rfl, hbl, hc⟩ := hx.at_ hlt
     have hv := hu.at_ j
     have hnext : creg M (bs.take (j + 1)) = cN 8 (creg M (bs.take j) ^^^ bs.getD j 0) := by
       rw [take_next _ _ (by have := Hl.out; omega), creg_snoc (u8_take hu j) _ hv]
     obtain ⟨x, hx'⟩ : ∃ x, x = bs.getD j 0 := ⟨_, rfl⟩
     obtain ⟨R, hR'⟩ : ∃ R, R = creg M (bs.take j) := ⟨_, rfl⟩
     rw [← hx'] at hc hv hnext
     rw [← hR'] at hR hnext ⊢
     have hxo : bits .xor .u32 (R : Int) (x : Int) = ((R ^^^ x : Nat) : Int) := u32_xor_nat _ _ hR (by omega)
     have hlt2 : R ^^^ x < 4294967296 := xor_lt32 hR (by omega)
     obtain ⟨T, hT⟩ : ∃ T, T = R ^^^ x := ⟨_, rfl⟩
     rw [← hT] at hxo hlt2 hnext
     have Hn := Lib.hid hnext
     clear hnext hT hR' hx'
     go_wp2
     go_loop [3, 5] (fun s k => ∃ t : Nat, t ≤ 8 ∧ k = .int .i64 t ∧ s = .int .u32 (cN t T : Nat)) (fun _ k => 8 - (intOf k).toNat)
     case atStart => exact ⟨0, by omega, rfl, rfl⟩
     case round =>
       obtain ⟨t, ht, rfl, rfl⟩ := hrel
       have hS := cN_lt t hlt2
       have hN := cN_succ t T
       obtain ⟨S, hS'⟩ : ∃ S, S = cN t T := ⟨_, rfl⟩
       rw [← hS'] at hS hN ⊢
       have HS := Lib.hid hS'
       clear hS'
       by_cases ht8 : t < 8
       · have hst := step_bits hS
         by_cases hodd : S % 2 = 1
         · rw [cb_odd hodd] at hN
           have HN := Lib.hid hN
           clear hN
           go_wp2
           go_round
           case rel => exact ⟨t + 1, by omega, by go_num, by rw [HN.out]⟩
           case measure => simp [intOf]; omega
         · rw [cb_even (by omega)] at hN
           have HN := Lib.hid hN
           clear hN
           go_wp2
           go_round
           case rel => exact ⟨t + 1, by omega, by go_num, by rw [HN.out]; go_num⟩
           case measure => simp [intOf]; omega
       · obtain rfl : t = 8 := by omega
         go_wp2
         go_round
         case rel => exact ⟨j + 1, by omega, by go_num, by rw [Hn.out, HS.out]⟩
         case measure => simp [intOf]; omega
   · obtain rfl : j = n := by omega
     rw [List.take_of_length_le (Nat.le_of_eq Hl.out)] at hR ⊢
     have hxo : bits .xor .u32 (creg M bs : Int) (M : Int) = ((creg M bs ^^^ M : Nat) : Int) := u32_xor_nat _ _ hR hMl
     rw [← Hf.out, hM] at hxo
     rw [hM]
     go_wp2
     go_ret
     exact ⟨ret_int' hxo, rfl⟩
set_option maxHeartbeats 400000 in
theorem low_any (v m : Nat) (w : World) (hv : v < 18446744073709551616) (hm : m ≤ 64) :
   Calls Tryz.prog 72 #[.int .u64 v, .int .i64 m] w fun e w' => ∃ A' c', e = .returned (.slice A' m c') ∧ Own .u8 5 w' w.heap.size A' c' (upk 8 m v) ∧ Ext w w' := by
 have Hs := Lib.hid (fun j => upk_snoc 8 j v)
 have Hv := Lib.hid hv
 clear hv
 go_enter Tryz.func72, Tryz.ntmps72
 go_wp2
 go_loopw [0, 5, 6] (fun y o i wr => ∃ (j : Nat) (A' : Option Addr) (c' : Nat), j ≤ m ∧ i = .int .i64 j ∧ y = .int .u64 (v / 2 ^ (8 * j) : Nat) ∧ o = .slice A' j c' ∧ Own .u8 5 wr w.heap.size A' c' (upk 8 j v) ∧ Below w.heap.size w wr) (fun _ _ i _ => m - (intOf i).toNat)
 case atStart => exact ⟨0, _, _, Nat.zero_le _, rfl, by rw [Nat.mul_zero, Nat.pow_zero, Nat.div_one], rfl, Own.made _ _ _ (Nat.le_refl _), (Ext.refl w).alloc _⟩
 case round =>
   obtain ⟨j, A', c', hj, rfl, rfl, rfl, hown, hb⟩ := hrel
   have hz := hb.size
   have hs := Hs.out j
   have hd : v / 2 ^ (8 * (j + 1)) = v / 2 ^ (8 * j) / 256 := by rw [Nat.mul_succ, Nat.pow_add, Nat.div_div_eq_div_mul]
   have hy : v / 2 ^ (8 * j) < 18446744073709551616 := Nat.lt_of_le_of_lt (Nat.div_le_self _ _) Hv.out
   obtain ⟨y, hy'⟩ : ∃ y, y = v / 2 ^ (8 * j) := ⟨_, rfl⟩
   rw [← hy'] at hs hd hy ⊢
   have HS := Lib.hid hs
   have HD := Lib.hid hd
   have Htl := Lib.hid (upk_len 8 j v)
   clear hs hd hy'
   by_cases hlt : j < m
   · have hmm : IntKind.u8.wrap ((y : Int) % 256) = (y : Int) % 256 := IntWalk.u8_in _ (by omega)
     go_wp2_with (at_builtin; refine wpList_push .u8 (y % 2 ^ 8) 5 rfl _ _ 22 rfl _ 1 Tryz.underlying22 Tryz.infoU8 rfl hown j Htl.out rfl rfl (by omega) (by omega) (by omega) hb hz ?_; intro A1 c1 w1 hown1 hb1 hz1)
     go_roundw
     case rel => exact ⟨j + 1, A1, c1, by omega, by go_num, by rw [HD.out]; go_num, rfl, by rw [HS.out]; exact hown1, hb1⟩
     case measure => simp [intOf]; omega
   · obtain rfl : j = m := by omega
     go_wp2
     go_ret
     exact ⟨_, _, rfl, hown, hb⟩
theorem moved_any (r : Nat) (w : World) (hr : r < 4294967296) :
   Calls Tryz.prog 153 #[.int .u32 (r : Int)] w fun e w' => e = .returned (.int .u32 (cb r : Nat)) ∧ w = w' := by
 have H := Lib.hid (moved_bits hr)
 go_enter Tryz.func153, Tryz.ntmps153
 go_wp2
 go_ret
 exact ⟨ret_int' H.out, rfl⟩
set_option maxHeartbeats 400000 in
theorem extend_any (s : Nat) (A : Option Addr) (n c : Nat) (bs : List Nat) (w : World) (hs : s < 4294967296) (hx : Rd .u8 w A n bs) (hu : U8 bs) (hn : n ≤ 180000000000000) :
   Calls Tryz.prog 117 #[.int .u32 (s : Int), .slice A n c] w fun e w' => e = .returned (.int .u32 (ext s bs : Nat)) ∧ w = w' := by
 have hl := hx.len
 have hno := not_bits hs
 obtain ⟨M, hM⟩ : ∃ M : Nat, M = s ^^^ 4294967295 := ⟨_, rfl⟩
 rw [← hM] at hno
 have hfin : ext s bs = creg M bs ^^^ 4294967295 := by rw [hM]; rfl
 have hMl : M < 4294967296 := by rw [hM]; exact xor_lt32 hs (by decide)
 have Hl := Lib.hid hl
 have Hf := Lib.hid hfin
 clear hl hfin hM
 go_enter Tryz.func117, Tryz.ntmps117
 go_wp2
 go_loop [5, 7, 12] (fun s _ i => ∃ j : Nat, j ≤ n ∧ i = .int .i64 j ∧ s = .int .u32 (creg M (bs.take j) : Nat)) (fun _ _ i => n - (intOf i).toNat)
 case atStart => exact ⟨0, Nat.zero_le _, rfl, by rw [List.take_zero, creg_nil]⟩
 case round =>
   clear hno
   obtain ⟨j, hj, rfl, rfl⟩ := hrel
   have hR : creg M (bs.take j) < 4294967296 := creg_lt (u8_take hu j) hMl
   by_cases hlt : j < n
   · obtain ⟨b, o, rfl, hbl, hc⟩ := hx.at_ hlt
     have hv := hu.at_ j
     have hnext : creg M (bs.take (j + 1)) = cN 8 (creg M (bs.take j) ^^^ bs.getD j 0) := by
       rw [take_next _ _ (by have := Hl.out; omega), creg_snoc (u8_take hu j) _ hv]
     obtain ⟨x, hx'⟩ : ∃ x, x = bs.getD j 0 := ⟨_, rfl⟩
     obtain ⟨R, hR'⟩ : ∃ R, R = creg M (bs.take j) := ⟨_, rfl⟩
     rw [← hx'] at hc hv hnext
     rw [← hR'] at hR hnext ⊢
     have hxo : bits .xor .u32 (R : Int) (x : Int) = ((R ^^^ x : Nat) : Int) := u32_xor_nat _ _ hR (by omega)
     have hlt2 : R ^^^ x < 4294967296 := xor_lt32 hR (by omega)
     obtain ⟨T, hT⟩ : ∃ T, T = R ^^^ x := ⟨_, rfl⟩
     rw [← hT] at hxo hlt2 hnext
     have Hn := Lib.hid hnext
     clear hnext hT hR' hx'
     go_wp2
     go_loop [5, 20] (fun s k => ∃ t : Nat, t ≤ 8 ∧ k = .int .i64 t ∧ s = .int .u32 (cN t T : Nat)) (fun _ k => 8 - (intOf k).toNat)
     case atStart => exact ⟨0, by omega, rfl, rfl⟩
     case round =>
       obtain ⟨t, ht, rfl, rfl⟩ := hrel
       have hS := cN_lt t hlt2
       have hN := cN_succ t T
       obtain ⟨S, hS'⟩ : ∃ S, S = cN t T := ⟨_, rfl⟩
       rw [← hS'] at hS hN ⊢
       have HS := Lib.hid hS'
       have HN := Lib.hid hN
       clear hS' hN
       by_cases ht8 : t < 8
       · go_wp2_with fail
         refine (moved_any S _ hS).mono ?_
         rintro e w1 ⟨rfl, rfl⟩
         go_wp2_with fail
         go_round
         case rel => exact ⟨t + 1, by omega, by go_num, by rw [HN.out]⟩
         case measure => simp [intOf]; omega
       · obtain rfl : t = 8 := by omega
         go_wp2
         go_round
         case rel => exact ⟨j + 1, by omega, by go_num, by rw [Hn.out, HS.out]⟩
         case measure => simp [intOf]; omega
   · obtain rfl : j = n := by omega
     rw [List.take_of_length_le (Nat.le_of_eq Hl.out)] at hR ⊢
     have hxo := not_bits hR
     rw [← Hf.out] at hxo
     have Hxo := Lib.hid hxo
     clear hxo
     go_wp2
     go_ret
     exact ⟨ret_int' Hxo.out, rfl⟩
set_option maxHeartbeats 400000 in
theorem sum_any (A : Option Addr) (n c : Nat) (xss : List (List Nat)) (w : World) (hx : RdSS w A n xss) (hu : U8s xss) (hn : ∀ xs ∈ xss, xs.length ≤ 180000000000000) (hm : n ≤ 180000000000000) :
   Calls Tryz.prog 76 #[.slice A n c] w fun e w' => e = .returned (.int .u32 (crc xss.flatten : Nat)) ∧ w = w' := by
 have Hl := Lib.hid hx.len
 go_enter Tryz.func76, Tryz.ntmps76
 go_wp2
 go_loop [3, 5, 8] (fun s _ i => ∃ j : Nat, j ≤ n ∧ i = .int .i64 j ∧ s = .int .u32 (crc (cat xss j) : Nat)) (fun _ _ i => n - (intOf i).toNat)
 case atStart => exact ⟨0, Nat.zero_le _, rfl, by rw [cat_zero, crc_nil]; rfl⟩
 case round =>
   obtain ⟨j, hj, rfl, rfl⟩ := hrel
   have hR : crc (cat xss j) < 4294967296 := crc_lt (hu.cat j)
   by_cases hlt : j < n
   · obtain ⟨b, o, a, m, c2, rfl, hbl, hc, hrd⟩ := hx.at_ hlt
     have hjl : j < xss.length := by have := Hl.out; omega
     have hnext : ext (crc (cat xss j)) (xss.getD j []) = crc (cat xss (j + 1)) := by rw [ext_crc (hu.cat j), cat_succ hjl]
     have hle : m ≤ 180000000000000 := by
       have h1 := hn _ (List.getElem_mem hjl)
       have h2 := hrd.len
       rw [show xss.getD j [] = xss[j] from by simp [List.getD, hjl]] at h2
       omega
     have huj := hu.at_ j
     obtain ⟨R, hR'⟩ : ∃ R, R = crc (cat xss j) := ⟨_, rfl⟩
     obtain ⟨ys, hys⟩ : ∃ ys, ys = xss.getD j [] := ⟨_, rfl⟩
     rw [← hR'] at hR hnext ⊢
     rw [← hys] at hnext hrd huj
     have Hn := Lib.hid hnext
     clear hnext hR' hys
     go_wp2_with fail
     refine (extend_any R _ _ _ _ _ hR hrd huj hle).mono ?_
     rintro e w1 ⟨rfl, rfl⟩
     go_wp2_with fail
     go_round
     case rel => exact ⟨j + 1, by omega, by go_num, by rw [Hn.out]⟩
     case measure => simp [intOf]; omega
   · obtain rfl : j = n := by omega
     have hfin : cat xss j = xss.flatten := by rw [← cat_all]; rw [Hl.out]
     rw [hfin] at hR ⊢
     clear hfin
     go_wp2
     go_ret
     exact ⟨rfl, rfl⟩
set_option maxRecDepth 100000 in
theorem grow_any (n : Nat) (w : World) (hn : n ≤ 180000000000000) :
   Calls Tryz.prog 149 #[.slice none 0 0, .int .i64 (n : Int)] w fun e w' => ∃ A' c', e = .returned (.slice A' 0 c') ∧ Own .u8 5 w' w.heap.size A' c' [] ∧ Ext w w' := by
 obtain ⟨i, hi0, hz, hsz, hbs⟩ := info_parts Tryz.infoU8
 have hG0 : 0 ≤ grownCap w n 0 5 := Nat.zero_le _
 by_cases h0 : 0 < n
 · have hrz : ∀ ty, (Builtin.append_ #[22, 3] ty #[.slice none 0 0, .int .i64 (n : Int)]).run Tryz.prog w = .ok (.slice (some ⟨w.heap.size, 0, none⟩) n (grownCap w n 0 5)) (w.drew.alloc (.cells (Builtin.zeroCells (Value.int .u8 0).cells n ++ Builtin.zeroCells (Value.int .u8 0).cells (grownCap w n 0 5 - n)) 5)) :=
     fun ty => Lib.run_append_nil_zeros w 22 3 ty 5 i _ .i64 .i64 Tryz.underlying22 Tryz.underlying3 hi0 hz n h0 (by omega) (by omega) (by rw [hbs]; omega)
   have hge := grownCap_ge w n 0 5
   have hle := grownCap_le_maxLen w n 0 5 (by unfold maxLen; omega)
   obtain ⟨G, hG⟩ : ∃ G, G = grownCap w n 0 5 := ⟨_, rfl⟩
   rw [← hG] at hrz hge hle
   have hle2 : G ≤ 9223372036854775807 := by simpa [maxLen] using hle
   clear hG
   have hown : Own .u8 5 (w.drew.alloc (.cells (Builtin.zeroCells (Value.int .u8 0).cells n ++ Builtin.zeroCells (Value.int .u8 0).cells (G - n)) 5)) w.heap.size (some ⟨w.heap.size, 0, none⟩) G [] :=
     ⟨by simp, .inr ⟨w.heap.size, G, _, rfl, Nat.le_refl _, heap_alloc_new w.drew _, Nat.zero_le _, hle, by simp only [Array.size_append, size_zeroCells]; simp [Value.cells]; omega, by simp⟩⟩
   have Hown := Lib.hid hown
   clear hown
   go_enter Tryz.func149, Tryz.ntmps149
   go_wp2_with (at_builtin; refine Lib.wpList_append_run _ rfl _ _ _ _ rfl _ _ rfl rfl _ _ (hrz _) ?_)
   go_ret
   exact ⟨_, _, rfl, Hown.out, (Ext.refl w).drew.alloc _⟩
 · obtain rfl : n = 0 := by omega
   clear hG0
   go_enter Tryz.func149, Tryz.ntmps149
   go_wp2
   go_ret
   exact ⟨_, _, rfl, Own.nil .., Ext.refl w⟩
set_option maxHeartbeats 400000 in
theorem concat_any (A : Option Addr) (n c : Nat) (xss : List (List Nat)) (w : World) (hx : RdSS w A n xss) (hn : xss.flatten.length ≤ 180000000000000) (hm : n ≤ 180000000000000) :
   Calls Tryz.prog 109 #[.slice A n c] w fun e w' => ∃ A' c', e = .returned (.slice A' xss.flatten.length c') ∧ Own .u8 5 w' w.heap.size A' c' xss.flatten ∧ Ext w w' := by
 have Hl := Lib.hid hx.len
 obtain ⟨N, hN⟩ : ∃ N, N = xss.flatten.length := ⟨_, rfl⟩
 rw [← hN] at hn ⊢
 have HN := Lib.hid hN
 clear hN
 go_enter Tryz.func109, Tryz.ntmps109
 go_wp2
 go_loop [3, 5, 11] (fun s _ i => ∃ j : Nat, j ≤ n ∧ i = .int .i64 j ∧ s = .int .i64 ((cat xss j).length : Nat)) (fun _ _ i => n - (intOf i).toNat)
 case atStart => exact ⟨0, Nat.zero_le _, rfl, by rw [cat_zero]; rfl⟩
 case round =>
   obtain ⟨j, hj, rfl, rfl⟩ := hrel
   have hle := cat_le (xss := xss) (j := j)
   rw [← HN.out] at hle
   by_cases hlt : j < n
   · obtain ⟨b, o, a, m, c2, rfl, hbl, hc, hrd⟩ := hx.at_ hlt
     have hjl : j < xss.length := by have := Hl.out; omega
     have hle2 := cat_le (xss := xss) (j := j + 1)
     rw [← HN.out] at hle2
     have hnext := congrArg List.length (cat_succ hjl)
     rw [List.length_append, hrd.len] at hnext
     rw [hnext] at hle2
     obtain ⟨R, hR'⟩ : ∃ R, R = (cat xss j).length := ⟨_, rfl⟩
     rw [← hR'] at hle hle2 hnext ⊢
     have Hn := Lib.hid hnext
     clear hnext hR' hrd
     go_wp2_with fail
     go_round
     case rel => exact ⟨j + 1, by omega, by go_num, by rw [Hn.out]; go_num⟩
     case measure => simp [intOf]; omega
   · obtain rfl : j = n := by omega
     have hfin : (cat xss j).length = N := by rw [HN.out, ← cat_all, Hl.out]
     rw [hfin]
     clear hfin hle
     go_wp2_with fail
     refine (grow_any N _ hn).mono ?_
     rintro e w1 ⟨A1, c1, rfl, hown1, he1⟩
     go_wp2_with fail
     go_loopw [6, 8, 27] (fun v _ i wr => ∃ (q : Nat) (A' : Option Addr) (c' : Nat), q ≤ j ∧ i = .int .i64 q ∧ v = .slice A' (cat xss q).length c' ∧ Own .u8 5 wr w.heap.size A' c' (cat xss q) ∧ Below w.heap.size w wr) (fun _ _ i _ => j - (intOf i).toNat)
     case atStart => exact ⟨0, _, _, Nat.zero_le _, rfl, rfl, hown1, he1⟩
     case round =>
       clear hown1 he1
       obtain ⟨q, A', c', hq, rfl, rfl, hown, hb⟩ := hrel
       have hz := hb.size
       by_cases hlt : q < j
       · obtain ⟨b, o, a, m, c2, rfl, hbl, hc, hrd⟩ := (hx.ext hb).at_ hlt
         have hjl : q < xss.length := by have := Hl.out; omega
         have hle2 := cat_le (xss := xss) (j := q + 1)
         rw [← HN.out] at hle2
         have hcs := cat_succ hjl
         have hnext := congrArg List.length hcs
         rw [List.length_append, hrd.len] at hnext
         rw [hnext] at hle2
         obtain ⟨ys, hys⟩ : ∃ ys, ys = xss.getD q [] := ⟨_, rfl⟩
         rw [← hys] at hrd hcs
         obtain ⟨X, hX⟩ : ∃ X, X = cat xss q := ⟨_, rfl⟩
         rw [← hX] at hown hle2 hnext hcs ⊢
         obtain ⟨R, hR⟩ : ∃ R, X.length = R := ⟨_, rfl⟩
         rw [hR] at hle2 hnext ⊢
         have Hn := Lib.hid hnext
         have Hcs := Lib.hid hcs
         have HR := Lib.hid hR
         clear hnext hcs hys hX hR
         go_wp2_with (at_builtin; refine wpList_pushes .u8 5 rfl _ _ 22 rfl _ 1 Tryz.underlying22 Tryz.infoU8 rfl hown R HR.out rfl rfl hrd (by omega) (by omega) hb hz ?_; intro A1 c1 w1 hown1 hb1 hz1)
         go_roundw
         case rel => exact ⟨q + 1, A1, c1, by omega, by go_num, by rw [Hn.out], by rw [Hcs.out]; exact hown1, hb1⟩
         case measure => simp [intOf]; omega
       · obtain rfl : q = j := by omega
         have hfin : cat xss q = xss.flatten := by rw [← cat_all]; rw [Hl.out]
         rw [hfin, ← HN.out]
         rw [hfin] at hown
         clear hfin
         go_wp2
         go_ret
         exact ⟨_, _, rfl, hown, hb⟩
theorem ownLit (w : World) (xs : List Nat) (hl : xs.length ≤ 9223372036854775807) : Own .u8 5 (w.alloc (.cells (xs.map fun x : Nat => Value.int .u8 (x : Int)).toArray 5)) w.heap.size (some ⟨w.heap.size, 0, none⟩) xs.length xs :=
 ⟨by simp, .inr ⟨w.heap.size, xs.length, _, rfl, Nat.le_refl _, heap_alloc_new w _, Nat.le_refl _, by simpa [maxLen] using hl, by simp, by rw [Nat.mul_one]; exact List.take_of_length_le (by simp)⟩⟩
def sl (bs : List Nat) : List Nat := bs ++ upk 8 4 (crc bs)
theorem sl_len (bs : List Nat) : (sl bs).length = bs.length + 4 := by rw [sl, List.length_append, upk_len]
theorem sl_u8 {bs : List Nat} (h : U8 bs) : U8 (sl bs) := u8_append h (U8_wd.2 (upk_wd _ _ _))
set_option maxHeartbeats 400000 in
theorem refSeal_any (A : Option Addr) (n c : Nat) (bs : List Nat) (w : World) (hx : Rd .u8 w A n bs) (hu : U8 bs) (hn : n + 4 ≤ 180000000000000) :
   Calls Tryz.prog 37 #[.slice A n c] w fun e w' => ∃ A' c', e = .returned (.slice A' (n + 4 : Nat) c') ∧ Own .u8 5 w' w.heap.size A' c' (sl bs) ∧ Ext w w' := by
 have hcr := crc_lt hu
 go_enter Tryz.func37, Tryz.ntmps37
 go_wp2_with fail
 refine (refSum_any _ _ _ _ _ hx hu (by omega)).mono ?_
 rintro e w1 ⟨rfl, rfl⟩
 go_wp2_with fail
 refine (low_any (crc bs) 4 _ (by omega) (by omega)).mono ?_
 rintro e w1 ⟨A1, c1, rfl, hown1, he1⟩
 go_wp2_with fail
 refine (cat_any _ _ _ _ _ _ _ _ _ (hx.ext he1) hown1.rd (by rw [upk_len]; exact hn)).mono ?_
 rintro e w2 ⟨A2, c2, rfl, hown2, he2⟩
 go_wp2
 go_ret
 exact ⟨_, _, rfl, hown2.mono he1.size, he1.trans he2⟩
theorem four_upk (s : Nat) : upk 8 4 s = [s % 256, s / 256 % 256, s / 65536 % 256, s / 16777216 % 256] := by
 simp only [upk, Nat.div_div_eq_div_mul]
def FourPost (s : Nat) (w : World) (e : Ending) (w' : World) : Prop :=
 ∃ a b c d : Nat, upk 8 4 s = [a, b, c, d] ∧ e = .returned (.agg #[.int .u8 (a : Int), .int .u8 (b : Int), .int .u8 (c : Int), .int .u8 (d : Int)]) ∧ Ext w w'
theorem written_any (s : Nat) (w : World) (hs : s < 4294967296) : Calls Tryz.prog 75 #[.int .u32 (s : Int)] w (FourPost s w) := by
 have hd : s / 16777216 % 256 = s / 16777216 := by omega
 have H := Lib.hid ((four_upk s).trans (by rw [hd]))
 clear hd
 go_enter Tryz.func75, Tryz.ntmps75
 go_wp2
 refine bodyPost_ret (v := .agg #[.int .u8 ((s % 256 : Nat) : Int), .int .u8 ((s / 256 % 256 : Nat) : Int), .int .u8 ((s / 65536 % 256 : Nat) : Int), .int .u8 ((s / 16777216 : Nat) : Int)]) (by simp [results, Tryz.results75, go_sem]) rfl ?_
 exact ⟨_, _, _, _, H.out, rfl, (Ext.refl w).alloc _⟩
set_option maxHeartbeats 400000 in
theorem seal_any (A : Option Addr) (n c : Nat) (bs : List Nat) (w : World) (hx : Rd .u8 w A n bs) (hu : U8 bs) (hn : n + 4 ≤ 180000000000000) :
   Calls Tryz.prog 111 #[.slice A n c] w fun e w' => ∃ A' c', e = .returned (.slice A' (n + 4 : Nat) c') ∧ Own .u8 5 w' w.heap.size A' c' (sl bs) ∧ Ext w w' := by
 have hcr := crc_lt hu
 have hl := hx.len
 have hf1 : [bs].flatten = bs := by simp
 have H1 := RdSS.one 22 w (c := c) rfl hx
 have hl2 : ∀ xs ∈ [bs], xs.length ≤ 180000000000000 := by intro v hv; simp at hv; subst hv; omega
 have Hf1 := Lib.hid hf1
 have HH1 := Lib.hid H1
 have Hl2 := Lib.hid hl2
 clear hf1 H1 hl2 hl
 go_enter Tryz.func111, Tryz.ntmps111
 go_wp2_with fail
 refine (sum_any _ _ _ [bs] _ HH1.out (fun v hv => by simp at hv; subst hv; exact hu) Hl2.out (by omega)).mono ?_
 rintro e w1 ⟨rfl, rfl⟩
 rw [Hf1.out]
 go_wp2_with fail
 refine (written_any _ _ hcr).mono ?_
 rintro e w2 ⟨a, b, c', d, hf, rfl, he2⟩
 have h4 := Rd.lit_at .u8 99 w2 [a, b, c', d] rfl (n := 4) rfl
 have hxw := (((hx.ext ((Ext.refl w).alloc (.cells #[.slice A n c] 22))).ext he2).ext ((Ext.refl w2).alloc (.cells #[.int .u8 (a : Int), .int .u8 (b : Int), .int .u8 (c' : Int), .int .u8 (d : Int)] 99)))
 have H2 := Lib.hid (RdSS.two 22 (b := w2.heap.size + 1) (c := c) (c2 := 4) _ (by simp) hxw h4)
 have hE := ((Ext.refl w).alloc (.cells #[.slice A n c] 22)).trans he2
 have hlen : [bs, [a, b, c', d]].flatten.length = n + 4 := by simp [hx.len]
 have hfl : [bs, [a, b, c', d]].flatten = sl bs := by simp [sl, hf]
 have Hlen := Lib.hid hlen
 have Hfl := Lib.hid hfl
 clear hf h4 hxw hlen hfl HH1 Hl2 he2
 go_wp2_with fail
 refine (concat_any _ _ _ [bs, [a, b, c', d]] _ H2.out (by rw [Hlen.out]; exact hn) (by omega)).mono ?_
 rintro e w3 ⟨A3, c3, rfl, hown3, he3⟩
 rw [Hfl.out] at hown3
 rw [Hlen.out]
 have hE2 := hE.trans (((Ext.refl w2).alloc _).alloc _) |>.trans he3
 have hsz := hE.size
 go_wp2_with fail
 go_ret
 exact ⟨_, _, rfl, hown3.mono (by simp; omega), hE2⟩
theorem sld_four {bs : List Nat} {m : Nat} {a b c d x y z t : Nat} (hl : bs.length = m + 4) (hd : bs.drop m = [x, y, z, t]) (hu : U8 bs) (hf : upk 8 4 (crc (bs.take m)) = [a, b, c, d]) :
   sld bs ↔ (x = a ∧ y = b ∧ z = c ∧ t = d) := by
 have hs := sld_split (t := bs.take m) (q := bs.drop m) (by rw [List.length_drop]; omega)
 rw [List.take_append_drop] at hs
 have hq := upk_pk (U8_wd.1 (u8_drop hu m))
 have hdl : (bs.drop m).length = 4 := by rw [List.length_drop]; omega
 rw [hdl] at hq
 have hcr := crc_lt (u8_take hu m)
 rw [hs]
 constructor
 · intro h
   rw [h, hf, hd] at hq
   simp at hq
   exact ⟨hq.1.symm, hq.2.1.symm, hq.2.2.1.symm, hq.2.2.2.symm⟩
 · rintro ⟨rfl, rfl, rfl, rfl⟩
   rw [hd, ← hf, pk_upk]
   exact Nat.mod_eq_of_lt hcr
theorem step_copy_new {P : Program} {ops : Array Oper} {o : Oper} {a : Act} {w : World} {K : Act → World → Prop} {Q : Exit → Act → World → Prop} {E : Prop} (hgd : o.guard = none) (d s : Operand) (dT sT : TypeId)
   (ho : o.op = .call { callee := .builtin .copy, args := #[d, s], argTypes := #[dT, sT] }) (elem : TypeId) (hu : P.underlying dT = some (.slice elem)) (hsz : (P.info? elem).map (·.size) = some 1)
   (old : Array Value) (T : TypeId) (ad : Addr) (dLen dCap sLen sCap : Nat) (cs : List Value) (hd : a.eval d = .slice (some ⟨w.heap.size, 0, none⟩) dLen dCap) (hs : a.eval s = .slice (some ad) sLen sCap)
   (hold : old.size = cs.length) (hn : cs.length = Nat.min sLen dLen) (hsrc : ∀ j v, cs[j]? = some v → (w.alloc (.cells old T)).drew.cell? (ad.add j) = some v) (h1 : ∀ v ∈ cs, v.oneCell' = true)
   (h : K (a.put o.dst (goInt cs.length)) (w.alloc (.cells cs.toArray T)).drew) :
   if Region.wanted o (yielded ops a.tmps) = true then Oper.wp P o a (w.alloc (.cells old T)).drew K Q else E := by
 have hw : Region.wanted o (yielded ops a.tmps) = true := by simp [Region.wanted, hgd]
 rw [if_pos hw]
 have hrun := run_copy_row (P := P) (w.alloc (.cells old T)).drew dT sT o.type elem w.heap.size 0 dLen dCap ad sLen sCap old T cs hu hsz (heap_alloc_new w _) hn hsrc (by omega) h1
 have hrow : (old.toList.take 0 ++ cs ++ old.toList.drop (0 + cs.length)).toArray = cs.toArray := by
   rw [List.take_zero, List.nil_append, List.drop_eq_nil_of_le (by rw [Array.length_toList]; omega), List.append_nil]
 have hset : (w.alloc (.cells old T)).drew.setRow w.heap.size cs.toArray = (w.alloc (.cells cs.toArray T)).drew := by
   rw [← World.setRow_alloc_new w old cs.toArray T]
   rfl
 rw [hrow, hset] at hrun
 unfold Oper.wp
 simp [execOp, ho, resolve, invoke, builtin, hd, hs, hrun, Result.andThen]
 exact h
theorem cell_nat {x : Nat} (h : x < 256) : Extern.Stop.cell (UInt8.ofNat x) = Value.int .u8 (x : Int) := by
 have : (UInt8.ofNat x).toNat = x := by rw [UInt8.toNat_ofNat']; exact Nat.mod_eq_of_lt h
 simp [Extern.Stop.cell, this]
theorem eq4 {x y z t a b c d : Nat} (hx : U8 [x, y, z, t]) (ha : U8 [a, b, c, d]) (w : World) :
   (Op.equalIn 10000 99 (.agg #[.int .u8 (x : Int), .int .u8 (y : Int), .int .u8 (z : Int), .int .u8 (t : Int)]) (.agg #[.int .u8 (a : Int), .int .u8 (b : Int), .int .u8 (c : Int), .int .u8 (d : Int)])).run Tryz.prog w =
     .ok (decide (x = a) && (decide (y = b) && (decide (z = c) && decide (t = d)))) w := by
 have h := run_equalIn_bytes (P := Tryz.prog) w 9998 99 5 4 Tryz.underlying99 Tryz.underlying5 (fun w => by kernel_rfl) [UInt8.ofNat x, UInt8.ofNat y, UInt8.ofNat z, UInt8.ofNat t] [UInt8.ofNat a, UInt8.ofNat b, UInt8.ofNat c, UInt8.ofNat d] rfl rfl
 have hx0 := hx x (by simp)
 have hx1 := hx y (by simp)
 have hx2 := hx z (by simp)
 have hx3 := hx t (by simp)
 have ha0 := ha a (by simp)
 have ha1 := ha b (by simp)
 have ha2 := ha c (by simp)
 have ha3 := ha d (by simp)
 simp only [List.map_cons, List.map_nil, cell_nat hx0, cell_nat hx1, cell_nat hx2, cell_nat hx3, cell_nat ha0, cell_nat ha1, cell_nat ha2, cell_nat ha3] at h
 refine h.trans (congrArg (fun t => Result.ok t w) ?_)
 have hi : ∀ {p q : Nat}, p < 256 → q < 256 → (UInt8.ofNat p = UInt8.ofNat q ↔ p = q) := by
   intro p q hp hq
   rw [← UInt8.toNat_inj, UInt8.toNat_ofNat', UInt8.toNat_ofNat', Nat.mod_eq_of_lt hp, Nat.mod_eq_of_lt hq]
 rw [Bool.eq_iff_iff]
 simp [hi hx0 ha0, hi hx1 ha1, hi hx2 ha2, hi hx3 ha3]
theorem four_cells {w : World} {g : Nat} {x y z t : Value} {T : TypeId} (h : w.heap[g]? = some (.cells #[x, y, z, t] T)) :
   w.cell? ⟨g, 0, none⟩ = some x ∧ w.cell? ⟨g, 1, none⟩ = some y ∧ w.cell? ⟨g, 2, none⟩ = some z ∧ w.cell? ⟨g, 3, none⟩ = some t :=
 ⟨cell_of_row w g 0 _ T (0, 0) h, cell_of_row w g 1 _ T (0, 0) h, cell_of_row w g 2 _ T (0, 0) h, cell_of_row w g 3 _ T (0, 0) h⟩
set_option maxHeartbeats 800000 in
theorem sealed_any (A : Option Addr) (n c : Nat) (bs : List Nat) (w : World) (hx : Rd .u8 w A n bs) (hu : U8 bs) (hn : n ≤ 180000000000000) (hc : n ≤ c) (_hcm : c ≤ 9223372036854775807) :
   Calls Tryz.prog 40 #[.slice A n c] w fun e w' => e = .returned (.bool (decide (sld bs))) ∧ Ext w w' := by
 have hl := hx.len
 by_cases h4 : 4 ≤ n
 · obtain ⟨m, rfl⟩ : ∃ m, n = m + 4 := ⟨n - 4, by omega⟩
   obtain ⟨b, o, rfl, hbl, hcell⟩ := hx.2 (by omega)
   have c0 := hcell m (by omega)
   have c1 := hcell (m + 1) (by omega)
   have c2 := hcell (m + 2) (by omega)
   have c3 := hcell (m + 3) (by omega)
   obtain ⟨x, hxx⟩ : ∃ x, x = bs.getD m 0 := ⟨_, rfl⟩
   obtain ⟨y, hyy⟩ : ∃ x, x = bs.getD (m + 1) 0 := ⟨_, rfl⟩
   obtain ⟨z, hzz⟩ : ∃ x, x = bs.getD (m + 2) 0 := ⟨_, rfl⟩
   obtain ⟨t, htt⟩ : ∃ x, x = bs.getD (m + 3) 0 := ⟨_, rfl⟩
   rw [← hxx] at c0
   rw [← hyy] at c1
   rw [← hzz] at c2
   rw [← htt] at c3
   have Hxx := Lib.hid hxx
   have Hyy := Lib.hid hyy
   have Hzz := Lib.hid hzz
   have Htt := Lib.hid htt
   have Hcell := Lib.hid hcell
   have Hone : Hid (∀ v ∈ [Value.int .u8 (x : Int), .int .u8 (y : Int), .int .u8 (z : Int), .int .u8 (t : Int)], v.oneCell' = true) := Lib.hid (by intro v hv; simp at hv; rcases hv with rfl | rfl | rfl | rfl <;> rfl)
   have Hsrc := Lib.hid (show ∀ (j : Nat) (v : Value), [Value.int .u8 (x : Int), .int .u8 (y : Int), .int .u8 (z : Int), .int .u8 (t : Int)][j]? = some v → (w.alloc (.cells #[.int .u8 0, .int .u8 0, .int .u8 0, .int .u8 0] 99)).drew.cell? ((⟨b, o + m, none⟩ : Addr).add j) = some v from by
     intro j v hj
     have he : Ext w (w.alloc (.cells #[.int .u8 0, .int .u8 0, .int .u8 0, .int .u8 0] 99)).drew := ((Ext.refl w).alloc _).drew
     rw [show (⟨b, o + m, none⟩ : Addr).add j = ⟨b, o + (m + j), none⟩ from by simp [Addr.add, Nat.add_assoc], Below.cell he (p := ⟨b, o + (m + j), none⟩) hbl]
     match j, hj with
     | 0, hj => simp at hj; subst hj; exact c0
     | 1, hj => simp at hj; subst hj; exact c1
     | 2, hj => simp at hj; subst hj; exact c2
     | 3, hj => simp at hj; subst hj; exact c3
     | j + 4, hj => simp at hj)
   have hf1 : [bs.take m].flatten = bs.take m := by simp
   have hl2 : ∀ xs ∈ [bs.take m], xs.length ≤ 180000000000000 := by intro v hv; simp at hv; subst hv; rw [List.length_take]; omega
   have hrd : Rd .u8 (w.alloc (.cells #[.int .u8 (x : Int), .int .u8 (y : Int), .int .u8 (z : Int), .int .u8 (t : Int)] 99)) (some ⟨b, o, none⟩) m (bs.take m) :=
     ⟨by rw [List.length_take, hl]; omega, fun _ => ⟨b, o, rfl, by simp; omega, fun j hj => by
       have := hcell j (by omega)
       rw [show (bs.take m).getD j 0 = bs.getD j 0 from by simp [List.getD, hj], Below.cell ((Ext.refl w).alloc _) (p := ⟨b, o + j, none⟩) hbl]
       exact this⟩⟩
   have H1 := Lib.hid (RdSS.one 22 (b := w.heap.size + 1) (c := c) _ (by simp) hrd)
   have HU : Hid (U8s [bs.take m]) := Lib.hid (fun v hv => by simp at hv; subst hv; exact u8_take hu m)
   have Hcr := Lib.hid (crc_lt (u8_take hu m))
   have Hf1 := Lib.hid hf1
   have Hl2 := Lib.hid hl2
   clear hf1 hl2 hrd
   have Hu4 : Hid (U8 [x, y, z, t]) := Lib.hid (by
     intro v hv
     simp at hv
     rcases hv with rfl | rfl | rfl | rfl
     · rw [Hxx.out]; exact hu.at_ _
     · rw [Hyy.out]; exact hu.at_ _
     · rw [Hzz.out]; exact hu.at_ _
     · rw [Htt.out]; exact hu.at_ _)
   have Hdr : Hid (bs.drop m = [x, y, z, t]) := Lib.hid (by
     apply List.ext_getElem
     · rw [List.length_drop, hl]; simp
     · intro j h1 h2
       have h3 : j < 4 := h2
       have h4 : m + j < bs.length := by omega
       rw [List.getElem_drop]
       have hg : ∀ i, (hi : i < bs.length) → bs[i] = bs.getD i 0 := fun i hi => by simp [List.getD, hi]
       rw [hg _ h4]
       rcases (show j = 0 ∨ j = 1 ∨ j = 2 ∨ j = 3 by omega) with rfl | rfl | rfl | rfl
       · exact Hxx.out.symm
       · exact Hyy.out.symm
       · exact Hzz.out.symm
       · exact Htt.out.symm)
   have Hll := Lib.hid hl
   have hmm : (m : Int) ≤ (m : Int) + 4 := by omega
   have hcne : ¬ c = m := by omega
   clear hxx hyy hzz htt hcell hl c0 c1 c2 c3
   go_enter Tryz.func40, Tryz.ntmps40
   go_wp2_with fail
   go_region_law (refine step_copy_new rfl (.tmp 10) (.tmp 13) 22 22 rfl 5 Tryz.underlying22 (by kernel_rfl) #[.int .u8 0, .int .u8 0, .int .u8 0, .int .u8 0] 99 ⟨b, o + m, none⟩ 4 4 4 (c - m) [.int .u8 (x : Int), .int .u8 (y : Int), .int .u8 (z : Int), .int .u8 (t : Int)] rfl rfl rfl rfl Hsrc.out Hone.out ?_)
   go_wp2_with fail
   go_region_with (first
     | (go_at_call 76; refine (sum_any _ _ _ [bs.take m] _ ?_ HU.out Hl2.out (by omega)).mono ?_; exact H1.out; rintro e w1 ⟨rfl, rfl⟩; rw [Hf1.out])
     | (go_at_call 75; refine (written_any _ _ Hcr.out).mono ?_; rintro e w3 ⟨a', b', c', d', hf, rfl, he⟩; obtain ⟨k0, k1, k2, k3⟩ := four_cells ((he.block w.heap.size (by simp; omega)).trans (heap_alloc2_old w _ _)); have heq := eq4 Hu4.out (hf ▸ U8_wd.2 (upk_wd _ _ _)); have Hf := Lib.hid hf; have He := Lib.hid he; clear hf he))
   all_goals
     go_wp2_with fail
     go_ret
     refine ⟨?_, Ext.trans (by repeat (first | exact Ext.refl _ | apply Ext.drew | apply Ext.alloc)) He.out⟩
     rw [show decide (sld bs) = (decide (x = a') && (decide (y = b') && (decide (z = c') && decide (t = d')))) from by rw [Bool.eq_iff_iff]; simpa using sld_four Hll.out Hdr.out hu Hf.out]
     rfl
 · have hf : ¬ sld bs := fun h => by have := h.1; omega
   rw [decide_eq_false hf]
   clear hl hf
   go_enter Tryz.func40, Tryz.ntmps40
   go_wp2
   go_ret
   exact ⟨rfl, Ext.refl _⟩
theorem isKindB_any (k : Int) (w : World) : Calls Tryz.prog 39 #[.int .i64 k] w fun e w' => e = .returned (.bool (kindK k)) ∧ Ext w w' := by
 have hc := check_any k true true 0 none 0 0 [] w (Rd.nil ..) (by intro x hx; cases hx) (by decide) (by decide) (by decide)
 have hk : (chk k true true 0 [] == 0) = kindK k := by
   unfold chk
   by_cases h : 1 ≤ k ∧ k ≤ 8
   · rw [kindK_yes h, if_neg (by simpa using h)]; rfl
   · rw [kindK_no h, if_pos h]; rfl
 obtain ⟨R, hR⟩ : ∃ R, R = chk k true true 0 [] := ⟨_, rfl⟩
 rw [← hR] at hc hk
 have HC := Lib.hid hc
 have HK := Lib.hid hk
 clear hc hk hR
 go_enter Tryz.func39, Tryz.ntmps39
 go_wp2_with fail
 refine HC.out.mono ?_
 rintro e w1 ⟨rfl, he⟩
 go_wp2_with fail
 go_ret
 exact ⟨by rw [← HK.out]; rfl, he⟩
theorem bindex_any (A : Option Addr) (n c : Nat) (xs : List Int) (v : Int) (w : World) (hx : RdG shZ w A n xs) (hn : n ≤ 281474976710656) :
   Calls Tryz.prog 139 #[.slice A n c, .int .i64 v] w fun e w' => (∃ i : Int, e = .returned (.int .i64 i) ∧ (0 ≤ i ↔ v ∈ xs)) ∧ w = w' := by
 have hl := hx.len
 have Hl := Lib.hid hl
 have Hx := Lib.hid hx
 clear hl hx
 go_enter Tryz.func139, Tryz.ntmps139
 go_wp2_with fail
 go_loop [8] (fun i => ∃ j : Nat, j ≤ n ∧ i = .int .i64 (j : Int) ∧ Hid (∀ q, q < j → xs.getD q 0 ≠ v)) (fun i => n - (intOf i).toNat)
 case atStart => exact ⟨0, Nat.zero_le _, rfl, Lib.hid (fun q hq => absurd hq (by omega))⟩
 case round =>
   obtain ⟨j, hj, rfl, HJ⟩ := hrel
   by_cases hlt : j < n
   · obtain ⟨b, o, rfl, hb, hcell⟩ := Hx.out.atZ hlt
     have hmem : xs.getD j 0 ∈ xs := by
       have h2 : j < xs.length := by rw [Hl.out]; exact hlt
       simp only [List.getD, List.getElem?_eq_getElem h2, Option.getD_some]
       exact List.getElem_mem _
     have Hmem := Lib.hid hmem
     obtain ⟨x, hx⟩ : ∃ x, x = xs.getD j 0 := ⟨_, rfl⟩
     rw [← hx] at hcell Hmem
     have HX := Lib.hid hx
     clear hx hmem
     by_cases hv : v = x
     · subst hv
       go_wp2_with fail
       go_ret
       exact ⟨⟨(j : Int), rfl, fun _ => Hmem.out, fun _ => by omega⟩, rfl⟩
     · have hvb : (v == x) = false := beq_eq_false_iff_ne.2 hv
       go_wp2_with fail
       go_round
       case rel =>
         refine ⟨j + 1, hlt, by go_num, Lib.hid (fun q hq => ?_)⟩
         by_cases h : q < j
         · exact HJ.out q h
         · obtain rfl : q = j := by omega
           rw [← HX.out]; exact fun e => hv e.symm
       case measure => simp [intOf]; omega
   · obtain rfl : j = n := by omega
     go_wp2
     go_ret
     refine ⟨⟨-1, rfl, ?_⟩, rfl⟩
     have hno : ¬ v ∈ xs := fun h => by
       obtain ⟨q, hq, e⟩ := List.getElem_of_mem h
       refine HJ.out q (by rw [← Hl.out]; exact hq) ?_
       simp [List.getD, hq, e]
     exact ⟨fun h => absurd h (by decide), fun h => absurd h hno⟩
theorem bcontains_any (A : Option Addr) (n c : Nat) (xs : List Int) (v : Int) (w : World) (hx : RdG shZ w A n xs) (hn : n ≤ 281474976710656) :
   Calls Tryz.prog 104 #[.slice A n c, .int .i64 v] w fun e w' => e = .returned (.bool (decide (v ∈ xs))) ∧ w = w' := by
 have HI := Lib.hid (bindex_any A n c xs v w hx hn)
 clear hx
 go_enter Tryz.func104, Tryz.ntmps104
 go_wp2_with fail
 refine HI.out.mono ?_
 rintro e w1 ⟨⟨i, rfl, hi⟩, rfl⟩
 have Hi := Lib.hid hi
 clear hi
 go_wp2_with fail
 go_ret
 exact ⟨by rw [← decide_eq_decide.2 Hi.out]; rfl, rfl⟩
def codecs (k : Int) : List Int := if numK k then [1, 2, 3] else [1, 4, 5]
theorem codecsFor_any (k : Int) (w : World) : Calls Tryz.prog 105 #[.int .i64 k] w fun e w' => ∃ A c, e = .returned (.slice A 3 c) ∧ RdG shZ w' A 3 (codecs k) ∧ Ext w w' := by
 have HN := Lib.hid (number_any k w)
 have hrow : ∀ (a b d : Int), RdG shZ (w.alloc (.cells #[.int .i64 a, .int .i64 b, .int .i64 d] 3)) (some ⟨w.heap.size, 0, none⟩) 3 [a, b, d] := fun a b d => by
   refine ⟨rfl, fun _ => ⟨w.heap.size, 0, rfl, by simp, fun j x hj i u hu => ?_⟩⟩
   have hi : i = 0 := by
     have := (List.getElem?_eq_some_iff.1 hu).1
     simp [shZ] at this
     exact this
   subst hi
   have hu' : u = .int .i64 x := by simpa [shZ] using hu.symm
   subst hu'
   rw [cell_of_row _ w.heap.size (0 + j * shZ.sz + 0) _ _ (0, 0) (heap_alloc_new w _)]
   rcases (show j = 0 ∨ j = 1 ∨ j = 2 by have := (List.getElem?_eq_some_iff.1 hj).1; simp at this; omega) with rfl | rfl | rfl <;> (simp [shZ] at hj ⊢; exact hj)
 have HR := Lib.hid hrow
 clear hrow
 obtain ⟨B, hB⟩ : ∃ B, B = numK k := ⟨_, rfl⟩
 rw [← hB] at HN
 have HB := Lib.hid hB
 clear hB
 cases B with
 | true =>
   go_enter Tryz.func105, Tryz.ntmps105
   go_wp2_with fail
   refine HN.out.mono ?_
   rintro e w1 ⟨rfl, rfl⟩
   go_wp2_with fail
   go_ret
   exact ⟨_, _, rfl, by unfold codecs; rw [← HB.out]; exact HR.out 1 2 3, (Ext.refl _).alloc _⟩
 | false =>
   go_enter Tryz.func105, Tryz.ntmps105
   go_wp2_with fail
   refine HN.out.mono ?_
   rintro e w1 ⟨rfl, rfl⟩
   go_wp2_with fail
   go_ret
   exact ⟨_, _, rfl, by unfold codecs; rw [← HB.out]; exact HR.out 1 4 5, (Ext.refl _).alloc _⟩
theorem isFor_any (k v : Int) (w : World) : Calls Tryz.prog 67 #[.int .i64 k, .int .i64 v] w fun e w' => e = .returned (.bool (decide (v ∈ codecs k))) ∧ Ext w w' := by
 have HC := Lib.hid (codecsFor_any k w)
 go_enter Tryz.func67, Tryz.ntmps67
 go_wp2_with fail
 refine HC.out.mono ?_
 rintro e w1 ⟨A, c, rfl, hr, he⟩
 have HD := Lib.hid (bcontains_any A 3 c (codecs k) v w1 hr (by decide))
 clear hr
 go_wp2_with fail
 refine HD.out.mono ?_
 rintro e w2 ⟨rfl, rfl⟩
 go_wp2_with fail
 go_ret
 exact ⟨rfl, he⟩
def sealE (b : List Nat) : Int := if 65000 < b.length + 4 then 4 else 0
def sealL (b : List Nat) : List Nat := if 65000 < b.length + 4 then [] else sl b
theorem bseal_any (A : Option Addr) (n c : Nat) (b : List Nat) (w : World) (hx : Rd .u8 w A n b) (hu : U8 b) (hn : n ≤ 140737488355328) :
   Calls Tryz.prog 69 #[.slice A n c] w fun e w' => ∃ A' c', e = .returned (.tuple #[.slice A' (sealL b).length c', .int .i64 (sealE b)]) ∧ Own .u8 5 w' w.heap.size A' c' (sealL b) ∧ Ext w w' := by
 have hl := hx.len
 by_cases hbig : 65000 < n + 4
 · have h1 : sealE b = 4 := by unfold sealE; rw [hl, if_pos hbig]
   have h2 : sealL b = [] := by unfold sealL; rw [hl, if_pos hbig]
   rw [h1, h2]
   have hI : (65000 : Int) < (n : Int) + 4 := by omega
   clear hx h1 h2 hl hbig
   go_enter Tryz.func69, Tryz.ntmps69
   go_wp2_with fail
   go_ret2
   exact ⟨none, 0, rfl, Own.nil .., Ext.refl _⟩
 · have h1 : sealE b = 0 := by unfold sealE; rw [hl, if_neg hbig]
   have h2 : sealL b = sl b := by unfold sealL; rw [hl, if_neg hbig]
   have h3 : (sl b).length = n + 4 := by rw [sl_len, hl]
   have HS := Lib.hid (seal_any A n c b w hx hu (by omega))
   rw [h1, h2, h3]
   have hI : ¬ (65000 : Int) < (n : Int) + 4 := by omega
   have Hbig := Lib.hid hbig
   clear hx h1 h2 hl h3 hbig
   go_enter Tryz.func69, Tryz.ntmps69
   go_wp2_with fail
   refine HS.out.mono ?_
   rintro e w1 ⟨A', c', rfl, ho, he⟩
   go_wp2_with fail
   go_ret2
   exact ⟨A', c', rfl, ho, he⟩
def chkA (k : Int) : List Ci → Int
 | [] => 0
 | x :: r => if chk k true x.nul x.num x.txt ≠ 0 then chk k true x.nul x.num x.txt else chkA k r
def chkB (k : Int) (xs : List Ci) : Int := if 4096 < xs.length then 4 else chkA k xs
theorem chkA_at {k : Int} {xs : List Ci} {j : Nat} {x : Ci} (h : xs[j]? = some x) : chkA k (xs.drop j) = if chk k true x.nul x.num x.txt ≠ 0 then chk k true x.nul x.num x.txt else chkA k (xs.drop (j + 1)) := by
 obtain ⟨h1, h2⟩ := List.getElem?_eq_some_iff.1 h
 rw [List.drop_eq_getElem_cons h1, h2]; rfl
set_option maxHeartbeats 1000000 in
theorem checkB_any (k : Int) (A : Option Addr) (n c : Nat) (xs : List Ci) (w : World) (hx : RdX w A n xs) (hn : n ≤ 281474976710656) :
   Calls Tryz.prog 42 #[.int .i64 k, .slice A n c] w fun e w' => e = .returned (.int .i64 (chkB k xs)) ∧ Ext w w' := by
 have hl := hx.1
 by_cases hbig : 4096 < n
 · have hE : chkB k xs = 4 := by unfold chkB; rw [hl, if_pos hbig]
   have HE := Lib.hid hE
   clear hE hl hx
   go_enter Tryz.func42, Tryz.ntmps42
   go_wp2_with fail
   go_ret
   exact ⟨by rw [HE.out]; rfl, Ext.refl _⟩
 · have hE : chkB k xs = chkA k xs := by unfold chkB; rw [hl, if_neg hbig]
   rw [hE]
   obtain ⟨E, hEE⟩ : ∃ E, E = chkA k xs := ⟨_, rfl⟩
   rw [← hEE]
   have HE := Lib.hid hEE
   have Hx := Lib.hid hx
   have Hl := Lib.hid hl
   clear hE hEE hl hx
   go_enter Tryz.func42, Tryz.ntmps42
   go_wp2_with fail
   go_loopw [13] (fun i wr => ∃ j : Nat, j ≤ n ∧ i = .int .i64 (j : Int) ∧ Ext w wr ∧ Hid (chkA k (xs.drop j) = E)) (fun i _ => n - (intOf i).toNat)
   case atStart => exact ⟨0, Nat.zero_le _, rfl, Ext.refl _, Lib.hid (by rw [List.drop_zero, HE.out])⟩
   case round =>
     obtain ⟨j, hj, rfl, hE, HJ⟩ := hrel
     by_cases hlt : j < n
     · obtain ⟨b, o, x, rfl, hb, hxj, hc0, hc1, hc2, hin⟩ := (Hx.out.ext hE).at_ hlt
       have hin' := (hin.rd.ext ((Ext.refl wr).alloc (.cells #[.bool x.nul, .int .i64 x.num, .slice x.A x.txt.length x.c] 61)))
       have hcall := check_any k true x.nul x.num x.A x.txt.length x.c x.txt _ hin' hin.u8 hin.lo hin.hi (by have := hin.len; omega)
       have hat := chkA_at (k := k) hxj
       rw [HJ.out] at hat
       obtain ⟨R, hR⟩ : ∃ R, R = chk k true x.nul x.num x.txt := ⟨_, rfl⟩
       rw [← hR] at hcall hat
       have HC := Lib.hid hcall
       have Hat := Lib.hid hat
       have HEx := Lib.hid hE
       clear hcall hat hR hxj hin hin' hE
       by_cases h0 : R = 0
       · subst h0
         go_wp2_with fail
         refine HC.out.mono ?_
         rintro e w1 ⟨rfl, he1⟩
         go_wp2_with fail
         go_roundw
         case rel => exact ⟨j + 1, hlt, by go_num, (HEx.out.alloc _).trans he1, Lib.hid (by rw [Hat.out, if_neg (by simp)])⟩
         case measure => simp [intOf]; omega
       · have hneb : (R == 0) = false := beq_eq_false_iff_ne.2 h0
         go_wp2_with fail
         refine HC.out.mono ?_
         rintro e w1 ⟨rfl, he1⟩
         go_wp2_with fail
         go_ret
         exact ⟨by rw [Hat.out, if_pos h0]; rfl, (HEx.out.alloc _).trans he1⟩
     · obtain rfl : j = n := by omega
       have h0 : E = 0 := by
         have := HJ.out
         rw [List.drop_of_length_le (Nat.le_of_eq Hl.out)] at this
         exact this.symm
       go_wp2
       go_ret
       exact ⟨by rw [h0]; rfl, hE⟩
theorem Tryz.infoI64 : (Tryz.prog.info? 2).map (fun i => (i.zero, i.size, i.bytes)) = some (some (.int .i64 0), 1, 8) := by kernel_rfl
theorem Tryz.infoU64 : (Tryz.prog.info? 69).map (fun i => (i.zero, i.size, i.bytes)) = some (some (.int .u64 0), 1, 8) := by kernel_rfl
end Go.Proofs.YthibbgmicmfkfaaGreat
