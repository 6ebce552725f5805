import Derived.Test.YtcbnjigaajpadaaG1
import Derived.Laws.OwnMore
import Derived.Laws.AppendOwnNone
import Derived.Deep.DeepAppendWide
import Derived.Lib.AppendZeros

/-
  Plain mathematics of the check sum: a register of 32 bits as a natural number, one step of it, so many steps, bytes laid into it; that it adds bit by bit, joins, and that a run of at most 32 turned bits never comes out as nothing.
-/
namespace Go.Proofs.Ytcbnjigaajpadaa

/-- One step: to the right by one, and the polynomial added where a 1 fell out. -/
def cb (s : Nat) : Nat := if s % 2 = 1 then s / 2 ^^^ 2197175160 else s / 2

/-- So many steps. -/
def cN : Nat → Nat → Nat
  | 0, s => s
  | k + 1, s => cN k (cb s)

theorem cb_odd {s : Nat} (h : s % 2 = 1) : cb s = s / 2 ^^^ 2197175160 := by simp [cb, h]
theorem cb_even {s : Nat} (h : s % 2 = 0) : cb s = s / 2 := by simp [cb, h]
theorem xor4 (a b c d : Nat) : (a ^^^ b) ^^^ (c ^^^ d) = (a ^^^ c) ^^^ (b ^^^ d) := by
  rw [Nat.xor_assoc, Nat.xor_assoc, ← Nat.xor_assoc b, Nat.xor_comm b c, Nat.xor_assoc c]
theorem xor_can (a b : Nat) : (a ^^^ b) ^^^ b = a := by rw [Nat.xor_assoc, Nat.xor_self, Nat.xor_zero]
theorem xor_can' (a b : Nat) : b ^^^ (b ^^^ a) = a := by rw [← Nat.xor_assoc, Nat.xor_self, Nat.zero_xor]
theorem xor_inj {a b c : Nat} (h : a ^^^ c = b ^^^ c) : a = b := by rw [← xor_can a c, h, xor_can]
theorem xor_eq0 {a b : Nat} (h : a ^^^ b = 0) : a = b := by rw [← xor_can a b, h, Nat.zero_xor]
theorem xor_half (a b : Nat) : (a ^^^ b) / 2 = a / 2 ^^^ b / 2 := Nat.xor_div_two_pow (n := 1)
theorem xor_par (a b : Nat) : (a ^^^ b) % 2 = (a % 2 ^^^ b % 2) := by have := Nat.xor_mod_two_pow (a := a) (b := b) (n := 1); simpa using this

theorem cb_xor (a b : Nat) : cb (a ^^^ b) = cb a ^^^ cb b := by
  have hp := xor_par a b
  have hh := xor_half a b
  rcases Nat.mod_two_eq_zero_or_one a with h1 | h1 <;> rcases Nat.mod_two_eq_zero_or_one b with h2 | h2 <;> rw [h1, h2] at hp
  · rw [cb_even hp, cb_even h1, cb_even h2, hh]
  · rw [cb_odd hp, cb_even h1, cb_odd h2, hh, Nat.xor_assoc]
  · rw [cb_odd hp, cb_odd h1, cb_even h2, hh, Nat.xor_assoc, Nat.xor_assoc, Nat.xor_comm (b / 2)]
  · rw [cb_even hp, cb_odd h1, cb_odd h2, hh, xor4, Nat.xor_self, Nat.xor_zero]

theorem cN_xor (k a b : Nat) : cN k (a ^^^ b) = cN k a ^^^ cN k b := by
  induction k generalizing a b with
  | zero => rfl
  | succ k ih => simp only [cN]; rw [cb_xor, ih]

theorem cN_zero (k : Nat) : cN k 0 = 0 := by
  induction k with
  | zero => rfl
  | succ k ih => simpa [cN, cb] using ih

theorem cb_dbl (x : Nat) : cb (2 * x) = x := by rw [cb_even (by omega)]; omega

theorem cN_shift (k x : Nat) : cN k (2 ^ k * x) = x := by
  induction k with
  | zero => simp [cN]
  | succ k ih => rw [cN, Nat.pow_succ, Nat.mul_comm (2 ^ k) 2, Nat.mul_assoc, cb_dbl, ih]

theorem cN_add (j k s : Nat) : cN (j + k) s = cN k (cN j s) := by
  induction j generalizing s with
  | zero => simp [cN]
  | succ j ih => rw [Nat.succ_add, cN, ih, cN]

theorem cN_succ (k s : Nat) : cN (k + 1) s = cb (cN k s) := by rw [cN_add]; rfl

theorem cb_lt {s : Nat} (h : s < 4294967296) : cb s < 4294967296 := by
  unfold cb
  split
  · exact Nat.xor_lt_two_pow (n := 32) (by omega) (by omega)
  · omega

theorem cN_lt (k : Nat) {s : Nat} (h : s < 4294967296) : cN k s < 4294967296 := by
  induction k generalizing s with
  | zero => exact h
  | succ k ih => exact ih (cb_lt h)

theorem cb_inj0 {s : Nat} (h : s < 4294967296) (h0 : cb s = 0) : s = 0 := by
  rcases Nat.mod_two_eq_zero_or_one s with h1 | h1
  · rw [cb_even h1] at h0; omega
  · rw [cb_odd h1] at h0
    have := xor_eq0 h0
    omega

theorem cN_inj0 (k : Nat) {s : Nat} (h : s < 4294967296) (h0 : cN k s = 0) : s = 0 := by
  induction k generalizing s with
  | zero => exact h0
  | succ k ih => exact cb_inj0 h (ih (cb_lt h) h0)

theorem xor_lt32 {a b : Nat} (ha : a < 4294967296) (hb : b < 4294967296) : a ^^^ b < 4294967296 := Nat.xor_lt_two_pow (n := 32) ha hb

theorem cN_inj (k : Nat) {a b : Nat} (ha : a < 4294967296) (hb : b < 4294967296) (h : cN k a = cN k b) : a = b := by
  refine xor_eq0 (cN_inj0 k (xor_lt32 ha hb) ?_)
  rw [cN_xor, h, Nat.xor_self]

/-- A low part and a high part: the sum is the bitwise one. -/
theorem lowhigh {w v x : Nat} (h : v < 2 ^ w) : v + 2 ^ w * x = v ^^^ 2 ^ w * x := by
  have h1 : (v ^^^ 2 ^ w * x) % 2 ^ w = v := by rw [Nat.xor_mod_two_pow, Nat.mul_mod_right, Nat.xor_zero, Nat.mod_eq_of_lt h]
  have h2 : (v ^^^ 2 ^ w * x) / 2 ^ w = x := by rw [Nat.xor_div_two_pow, Nat.div_eq_of_lt h, Nat.zero_xor, Nat.mul_div_cancel_left _ (Nat.two_pow_pos w)]
  have := Nat.mod_add_div (v ^^^ 2 ^ w * x) (2 ^ w)
  rw [h1, h2] at this
  exact this

/-- The register s behind the bytes bs. -/
def creg (s : Nat) (bs : List Nat) : Nat := cN (8 * bs.length) (s ^^^ pk 8 bs)

theorem creg_nil (s : Nat) : creg s [] = s := by simp [creg, pk, cN]

theorem creg_cons (s : Nat) {v : Nat} {r : List Nat} (hv : v < 256) : creg s (v :: r) = creg (cN 8 (s ^^^ v)) r := by
  unfold creg
  rw [List.length_cons, Nat.mul_succ, Nat.add_comm, cN_add, pk, lowhigh (w := 8) (by simpa using hv), ← Nat.xor_assoc, cN_xor 8, cN_shift]

theorem creg_append {a : List Nat} (ha : U8 a) (s : Nat) (b : List Nat) : creg s (a ++ b) = creg (creg s a) b := by
  induction a generalizing s with
  | nil => rw [creg_nil]; rfl
  | cons v r ih =>
    have hv : v < 256 := ha v List.mem_cons_self
    rw [List.cons_append, creg_cons s hv, creg_cons s hv, ih (fun x hx => ha x (List.mem_cons_of_mem _ hx))]

theorem creg_snoc {a : List Nat} (ha : U8 a) (s : Nat) {v : Nat} (hv : v < 256) : creg s (a ++ [v]) = cN 8 (creg s a ^^^ v) := by
  rw [creg_append ha, creg_cons _ hv, creg_nil]

theorem creg_lt {a : List Nat} (ha : U8 a) {s : Nat} (hs : s < 4294967296) : creg s a < 4294967296 := by
  induction a generalizing s with
  | nil => rw [creg_nil]; exact hs
  | cons v r ih =>
    have hv : v < 256 := ha v List.mem_cons_self
    rw [creg_cons s hv]
    exact ih (fun x hx => ha x (List.mem_cons_of_mem _ hx)) (cN_lt 8 (xor_lt32 hs (by omega)))

/-- The sum of the bytes. -/
def crc (bs : List Nat) : Nat := creg 4294967295 bs ^^^ 4294967295

theorem crc_lt {a : List Nat} (ha : U8 a) : crc a < 4294967296 := xor_lt32 (creg_lt ha (by decide)) (by decide)
theorem crc_nil : crc [] = 0 := by rw [crc, creg_nil, Nat.xor_self]
theorem crc_reg (a : List Nat) : crc a ^^^ 4294967295 = creg 4294967295 a := by rw [crc, xor_can]

/-- What Join says. -/
def joined (x y n : Nat) : Nat := cN (8 * n) x ^^^ y

theorem creg_xor_left (s t : Nat) (b : List Nat) : creg (s ^^^ t) b = cN (8 * b.length) s ^^^ creg t b := by
  unfold creg
  rw [Nat.xor_assoc, cN_xor]

theorem crc_append {a : List Nat} (ha : U8 a) (b : List Nat) : crc (a ++ b) = joined (crc a) (crc b) b.length := by
  rw [crc, creg_append ha, ← crc_reg a, creg_xor_left, Nat.xor_assoc]
  rfl

/-- Three lists of one length, bit by bit. -/
def xor3 : List Nat → List Nat → List Nat → List Nat
  | a :: x, b :: y, c :: z => (a ^^^ b ^^^ c) :: xor3 x y z
  | _, _, _ => []

theorem creg_xor3 {x y z : List Nat} (hx : U8 x) (hy : U8 y) (hz : U8 z) (h1 : y.length = x.length) (h2 : z.length = x.length) (s t u : Nat) :
    creg (s ^^^ t ^^^ u) (xor3 x y z) = creg s x ^^^ creg t y ^^^ creg u z := by
  induction x generalizing y z s t u with
  | nil =>
    obtain rfl : y = [] := List.eq_nil_of_length_eq_zero h1
    obtain rfl : z = [] := List.eq_nil_of_length_eq_zero h2
    simp only [xor3, creg_nil]
  | cons a x ih =>
    match y, z, h1, h2 with
    | b :: y, c :: z, h1, h2 =>
      have ha : a < 256 := hx a List.mem_cons_self
      have hb : b < 256 := hy b List.mem_cons_self
      have hc : c < 256 := hz c List.mem_cons_self
      have hab : a ^^^ b ^^^ c < 256 := Nat.xor_lt_two_pow (n := 8) (Nat.xor_lt_two_pow (n := 8) ha hb) hc
      rw [xor3, creg_cons _ hab, creg_cons _ ha, creg_cons _ hb, creg_cons _ hc, ← ih (fun v hv => hx v (List.mem_cons_of_mem _ hv)) (fun v hv => hy v (List.mem_cons_of_mem _ hv)) (fun v hv => hz v (List.mem_cons_of_mem _ hv)) (by simpa using h1) (by simpa using h2),
        ← cN_xor, ← cN_xor, xor4 s a t b, xor4 (s ^^^ t) (a ^^^ b) u c]

theorem crc_xor3 {x y z : List Nat} (hx : U8 x) (hy : U8 y) (hz : U8 z) (h1 : y.length = x.length) (h2 : z.length = x.length) :
    crc (xor3 x y z) = crc x ^^^ crc y ^^^ crc z := by
  have h := creg_xor3 hx hy hz h1 h2 4294967295 4294967295 4294967295
  rw [Nat.xor_self, Nat.zero_xor] at h
  unfold crc
  rw [h, xor4 (creg 4294967295 x) 4294967295 (creg 4294967295 y), Nat.xor_self, Nat.xor_zero, ← Nat.xor_assoc]

end Go.Proofs.Ytcbnjigaajpadaa

/-
  Plain mathematics of sealed bytes: what is sealed is what leaves one register; turned bits as a number added bit by bit; a run of at most 32 of them is told.
-/
namespace Go.Proofs.Ytcbnjigaajpadaa

theorem pk_append (w : Nat) (a b : List Nat) : pk w (a ++ b) = pk w a + 2 ^ (w * a.length) * pk w b := by
  induction a with
  | nil => simp [pk]
  | cons v r ih => rw [List.cons_append, pk, ih, pk, List.length_cons, two_pow_mul_succ, Nat.mul_add, Nat.mul_assoc, Nat.add_assoc]

/-- Are the last four bytes the sum of those ahead? -/
def sld (bs : List Nat) : Prop := 4 ≤ bs.length ∧ pk 8 (bs.drop (bs.length - 4)) = crc (bs.take (bs.length - 4))

instance (bs : List Nat) : Decidable (sld bs) := by unfold sld; infer_instance

theorem u8_take {b : List Nat} (h : U8 b) (n : Nat) : U8 (b.take n) := fun v hv => h v (List.mem_of_mem_take hv)
theorem u8_drop {b : List Nat} (h : U8 b) (n : Nat) : U8 (b.drop n) := fun v hv => h v (List.mem_of_mem_drop hv)
theorem u8_append {a b : List Nat} (h : U8 a) (k : U8 b) : U8 (a ++ b) := fun v hv => (List.mem_append.1 hv).elim (h v) (k v)

theorem creg_four (s : Nat) {q : List Nat} (h : q.length = 4) : creg s q = cN 32 (s ^^^ pk 8 q) := by rw [creg, h]

theorem sld_split {t q : List Nat} (hq : q.length = 4) : sld (t ++ q) ↔ pk 8 q = crc t := by
  unfold sld
  rw [List.length_append, hq, Nat.add_sub_cancel, List.drop_left, List.take_left]
  exact ⟨fun h => h.2, fun h => ⟨by omega, h⟩⟩

theorem sld_reg {bs : List Nat} (h : U8 bs) (hl : 4 ≤ bs.length) : sld bs ↔ creg 4294967295 bs = cN 32 4294967295 := by
  have hs : bs = bs.take (bs.length - 4) ++ bs.drop (bs.length - 4) := (List.take_append_drop _ _).symm
  have hq : (bs.drop (bs.length - 4)).length = 4 := by rw [List.length_drop]; omega
  have ht := u8_take h (bs.length - 4)
  have hu := u8_drop h (bs.length - 4)
  generalize bs.take (bs.length - 4) = t at *
  generalize bs.drop (bs.length - 4) = q at *
  subst hs
  rw [sld_split hq, creg_append ht, creg_four _ hq, crc]
  have hr := creg_lt ht (s := 4294967295) (by decide)
  have hv : pk 8 q < 4294967296 := by have := pk_lt (U8_wd.1 hu); rw [hq] at this; exact this
  constructor
  · intro e
    rw [e, xor_can']
  · intro e
    have := cN_inj 32 (xor_lt32 hr hv) (by decide) e
    rw [← xor_can' (pk 8 q) (creg 4294967295 t), this]

/-- The number's four bytes behind the text. -/
theorem sld_seal {t : List Nat} (ht : U8 t) : sld (t ++ upk 8 4 (crc t)) := by
  rw [sld_split (upk_len 8 4 _), pk_upk]
  exact Nat.mod_eq_of_lt (crc_lt ht)

/-- The bytes with the bits of e turned. -/
def tn (bs : List Nat) (e : Nat) : List Nat := upk 8 bs.length (pk 8 bs ^^^ e)

theorem tn_len (bs : List Nat) (e : Nat) : (tn bs e).length = bs.length := upk_len _ _ _
theorem tn_u8 (bs : List Nat) (e : Nat) : U8 (tn bs e) := U8_wd.2 (upk_wd _ _ _)
theorem tn_zero {bs : List Nat} (h : U8 bs) : tn bs 0 = bs := by rw [tn, Nat.xor_zero, upk_pk (U8_wd.1 h)]

theorem pk_tn {bs : List Nat} (h : U8 bs) {e : Nat} (he : e < 2 ^ (8 * bs.length)) : pk 8 (tn bs e) = pk 8 bs ^^^ e := by
  rw [tn, pk_upk, Nat.mod_eq_of_lt (Nat.xor_lt_two_pow (pk_lt (U8_wd.1 h)) he)]

theorem tn_eq {bs : List Nat} (h : U8 bs) {e : Nat} (he : e < 2 ^ (8 * bs.length)) : tn bs e = bs ↔ e = 0 := by
  constructor
  · intro q
    have := pk_tn h he
    rw [q] at this
    have h2 := xor_can' e (pk 8 bs)
    rw [← this, Nat.xor_self] at h2
    exact h2.symm
  · rintro rfl
    exact tn_zero h

theorem creg_tn {bs : List Nat} (h : U8 bs) {e : Nat} (he : e < 2 ^ (8 * bs.length)) (s : Nat) : creg s (tn bs e) = creg s bs ^^^ cN (8 * bs.length) e := by
  rw [creg, tn_len, pk_tn h he, ← Nat.xor_assoc, cN_xor]
  rfl

/-- A run of at most 32 bits, p, from bit k on, leaves something in the register. -/
theorem run_left {p k m : Nat} (hp : p < 4294967296) (h : p * 2 ^ k < 2 ^ m) (h0 : cN m (p * 2 ^ k) = 0) : p = 0 := by
  by_cases hk : k ≤ m
  · obtain ⟨j, rfl⟩ : ∃ j, m = k + j := ⟨m - k, by omega⟩
    rw [cN_add, Nat.mul_comm, cN_shift] at h0
    exact cN_inj0 j hp h0
  · rcases Nat.eq_zero_or_pos p with h1 | h1
    · exact h1
    · have h2 : 2 ^ m ≤ 2 ^ k := Nat.pow_le_pow_right (by omega) (by omega)
      have h3 : 2 ^ k ≤ p * 2 ^ k := Nat.le_mul_of_pos_left _ h1
      omega

/-- Sealed bytes with a run turned are sealed only where nothing was turned. -/
theorem sld_tn {bs : List Nat} (h : U8 bs) (hs : sld bs) {p k : Nat} (hp : p < 4294967296) (he : p * 2 ^ k < 2 ^ (8 * bs.length)) : sld (tn bs (p * 2 ^ k)) ↔ p = 0 := by
  have hl := hs.1
  rw [sld_reg (tn_u8 _ _) (by rw [tn_len]; exact hl), creg_tn h he, (sld_reg h hl).1 hs]
  constructor
  · intro q
    have h2 := xor_can' (cN (8 * bs.length) (p * 2 ^ k)) (cN 32 4294967295)
    rw [q, Nat.xor_self] at h2
    exact run_left hp he h2.symm
  · rintro rfl
    rw [Nat.zero_mul, cN_zero, Nat.xor_zero]

/-- One bit more is turned: the byte in which it lies is another one. -/
theorem upk_bit {n N k : Nat} (h : k < 8 * n) : upk 8 n (N ^^^ 2 ^ k) = (upk 8 n N).set (k / 8) ((upk 8 n N).getD (k / 8) 0 ^^^ 2 ^ (k % 8)) := by
  induction n generalizing N k with
  | zero => omega
  | succ n ih =>
    by_cases hk : k < 8
    · have e1 : k / 8 = 0 := by omega
      have e2 : k % 8 = k := by omega
      have hlt : 2 ^ k < 2 ^ 8 := Nat.pow_lt_pow_right (by omega) hk
      rw [e1, e2, upk, upk, List.set_cons_zero, List.getD_cons_zero, Nat.xor_mod_two_pow, Nat.xor_div_two_pow, Nat.mod_eq_of_lt hlt, Nat.div_eq_of_lt hlt, Nat.xor_zero]
    · obtain ⟨j, rfl⟩ : ∃ j, k = j + 8 := ⟨k - 8, by omega⟩
      have e1 : (j + 8) / 8 = j / 8 + 1 := by omega
      have e2 : (j + 8) % 8 = j % 8 := by omega
      rw [e1, e2, upk, upk, List.set_cons_succ, List.getD_cons_succ, Nat.xor_mod_two_pow, Nat.xor_div_two_pow, Nat.pow_add, Nat.mul_mod_left, Nat.xor_zero, Nat.mul_div_cancel _ (by decide), ih (by omega)]

/-- The first bytes and the rest of turned bytes. -/
theorem tn_take {bs : List Nat} (h : U8 bs) {n : Nat} (hn : n ≤ bs.length) (e : Nat) : (tn bs e).take n = tn (bs.take n) (e % 2 ^ (8 * n)) := by
  have hl : (bs.take n).length = n := by rw [List.length_take]; omega
  have hp : pk 8 (bs.take n) = pk 8 bs % 2 ^ (8 * n) := by
    have := congrArg (pk 8) (upk_take 8 bs.length (pk 8 bs) n hn)
    rw [upk_pk (U8_wd.1 h), pk_upk] at this
    exact this
  rw [tn, tn, upk_take _ _ _ _ hn, hl, hp, ← Nat.xor_mod_two_pow, upk_mod _ _ _ _ (Nat.le_refl _)]

theorem upk_drop (w n N i : Nat) (h : i ≤ n) : (upk w n N).drop i = upk w (n - i) (N / 2 ^ (w * i)) := by
  induction n generalizing N i with
  | zero => obtain rfl : i = 0 := by omega
            simp
  | succ n ih =>
    cases i with
    | zero => simp
    | succ i => rw [upk, List.drop_succ_cons, ih _ _ (by omega), Nat.div_div_eq_div_mul, ← two_pow_mul_succ, Nat.succ_sub_succ]

theorem tn_drop {bs : List Nat} (h : U8 bs) {n : Nat} (hn : n ≤ bs.length) (e : Nat) : (tn bs e).drop n = tn (bs.drop n) (e / 2 ^ (8 * n)) := by
  have hp : pk 8 (bs.drop n) = pk 8 bs / 2 ^ (8 * n) := by
    have h1 := pk_append 8 (bs.take n) (bs.drop n)
    have hl : (bs.take n).length = n := by rw [List.length_take]; omega
    rw [List.take_append_drop, hl] at h1
    have h2 := pk_lt (U8_wd.1 (u8_take h n))
    rw [hl] at h2
    rw [h1, Nat.add_mul_div_left _ _ (Nat.two_pow_pos _), Nat.div_eq_of_lt h2, Nat.zero_add]
  rw [tn, tn, upk_drop _ _ _ _ hn, List.length_drop, hp, Nat.xor_div_two_pow]

/-- A run cut at bit m: its beginning and its rest are runs. -/
theorem run_cut (p k m : Nat) : (p * 2 ^ k) % 2 ^ m = (p % 2 ^ (m - k)) * 2 ^ k ∨ (p * 2 ^ k) % 2 ^ m = 0 ∧ m ≤ k := by
  by_cases h : k ≤ m
  · left
    obtain ⟨j, rfl⟩ : ∃ j, m = k + j := ⟨m - k, by omega⟩
    rw [Nat.add_sub_cancel_left, Nat.pow_add, Nat.mul_comm p, Nat.mul_mod_mul_left, Nat.mul_comm]
  · right
    obtain ⟨j, rfl⟩ : ∃ j, k = m + j := ⟨k - m, by omega⟩
    refine ⟨?_, by omega⟩
    rw [Nat.pow_add, ← Nat.mul_assoc, Nat.mul_comm p, Nat.mul_assoc, Nat.mul_mod_right]

theorem run_rest (p k m : Nat) : (p * 2 ^ k) / 2 ^ m = (if k ≤ m then p / 2 ^ (m - k) else p * 2 ^ (k - m)) := by
  split
  · obtain ⟨j, rfl⟩ : ∃ j, m = k + j := ⟨m - k, by omega⟩
    rw [Nat.add_sub_cancel_left, Nat.pow_add, Nat.mul_comm p, Nat.mul_div_mul_left _ _ (Nat.two_pow_pos k)]
  · obtain ⟨j, rfl⟩ : ∃ j, k = m + j := ⟨k - m, by omega⟩
    rw [Nat.add_sub_cancel_left, Nat.pow_add, ← Nat.mul_assoc, Nat.mul_comm p, Nat.mul_assoc, Nat.mul_div_cancel_left _ (Nat.two_pow_pos m)]

end Go.Proofs.Ytcbnjigaajpadaa

/-
  Plain mathematics of the program's check sum: going on from a sum; the product of two registers, bit by bit; a length's power by squaring.
-/
namespace Go.Proofs.Ytcbnjigaajpadaa

/-- What Extend says: the sum of what had the sum s, with b behind. -/
def ext (s : Nat) (b : List Nat) : Nat := creg (s ^^^ 4294967295) b ^^^ 4294967295
theorem ext_zero (b : List Nat) : ext 0 b = crc b := by rw [ext, Nat.zero_xor]; rfl
theorem ext_crc {a : List Nat} (ha : U8 a) (b : List Nat) : ext (crc a) b = crc (a ++ b) := by rw [ext, crc_reg, ← creg_append ha]; rfl
theorem ext_lt {s : Nat} (hs : s < 4294967296) {b : List Nat} (hb : U8 b) : ext s b < 4294967296 := xor_lt32 (creg_lt hb (xor_lt32 hs (by decide))) (by decide)

/-- The product's first k steps: for each bit of a, from the highest on, b moved on so often. -/
def pr (a b : Nat) : Nat → Nat
  | 0 => 0
  | k + 1 => pr a b k ^^^ (if a / 2 ^ (31 - k) % 2 = 1 then cN k b else 0)

theorem pr_lt {b : Nat} (hb : b < 4294967296) (a k : Nat) : pr a b k < 4294967296 := by
  induction k with
  | zero => show 0 < 4294967296; decide
  | succ k ih =>
    refine xor_lt32 ih ?_
    split
    · exact cN_lt k hb
    · decide

theorem pr_cN (a b m k : Nat) : pr a (cN m b) k = cN m (pr a b k) := by
  induction k with
  | zero => exact (cN_zero m).symm
  | succ k ih =>
    rw [pr, pr, ih, cN_xor]
    congr 1
    split
    · rw [← cN_add, Nat.add_comm, cN_add]
    · exact (cN_zero m).symm

theorem pr_one {a k : Nat} (hk : k ≤ 32) (ha : a < 4294967296) : pr a 2147483648 k = 2 ^ (32 - k) * (a / 2 ^ (32 - k)) := by
  induction k with
  | zero =>
    have : a / 2 ^ (32 - 0) = 0 := Nat.div_eq_of_lt (by simpa using ha)
    rw [this]
    rfl
  | succ k ih =>
    obtain ⟨j, hj⟩ : ∃ j, 31 - k = j := ⟨_, rfl⟩
    have h1 : 32 - k = j + 1 := by omega
    have h2 : 32 - (k + 1) = j := by omega
    have hs : cN k 2147483648 = 2 ^ j := by
      have : (2147483648 : Nat) = 2 ^ k * 2 ^ j := by rw [← Nat.pow_add, show k + j = 31 from by omega]
      rw [this, cN_shift]
    rw [pr, ih (by omega), hs, hj, h1, h2]
    have hd : a / 2 ^ (j + 1) = a / 2 ^ j / 2 := by rw [Nat.pow_succ, Nat.div_div_eq_div_mul]
    rw [hd]
    obtain ⟨q, hq⟩ : ∃ q, q = a / 2 ^ j := ⟨_, rfl⟩
    rw [← hq]
    by_cases ho : q % 2 = 1
    · rw [if_pos ho, Nat.xor_comm, ← lowhigh (w := j + 1) (v := 2 ^ j) (Nat.pow_lt_pow_right (by omega) (by omega))]
      have : q = 2 * (q / 2) + 1 := by omega
      calc 2 ^ j + 2 ^ (j + 1) * (q / 2) = 2 ^ j * (2 * (q / 2) + 1) := by rw [Nat.pow_succ, Nat.mul_add, Nat.mul_one, Nat.mul_assoc, Nat.add_comm]
        _ = 2 ^ j * q := by rw [← this]
    · rw [if_neg ho, Nat.xor_zero]
      have : q = 2 * (q / 2) := by omega
      calc 2 ^ (j + 1) * (q / 2) = 2 ^ j * (2 * (q / 2)) := by rw [Nat.pow_succ, Nat.mul_assoc]
        _ = 2 ^ j * q := by rw [← this]

/-- The product with the power of a length moves on by that length. -/
theorem pr_pow {a : Nat} (ha : a < 4294967296) (E : Nat) : pr a (cN E 2147483648) 32 = cN E a := by
  rw [pr_cN, pr_one (Nat.le_refl _) ha]
  simp

theorem pow_twice (E : Nat) : pr (cN E 2147483648) (cN E 2147483648) 32 = cN (E + E) 2147483648 := by
  rw [pr_pow (cN_lt E (by decide)), ← cN_add]

theorem join_odd (E m F : Nat) : cN ((E + E) * m) (cN E F) = cN (E * (2 * m + 1)) F := by
  rw [← cN_add]
  congr 1
  rw [Nat.mul_add, Nat.mul_one, Nat.add_mul, ← Nat.mul_assoc, Nat.mul_comm E 2, Nat.mul_assoc, Nat.two_mul]
  omega
theorem join_even (E m F : Nat) : cN ((E + E) * m) F = cN (E * (2 * m)) F := by
  congr 1
  rw [← Nat.mul_assoc, Nat.mul_comm E 2, Nat.two_mul]

/-- The power that stands for one byte. -/
theorem pow_byte : cN 8 2147483648 = 8388608 := by decide

/-- One step, in Go's words. -/
theorem moved_bits {r : Nat} (hr : r < 4294967296) : bits .xor .u32 ((r : Int) / 2) (bits .and .u32 2197175160 (IntKind.u32.wrap (-(bits .and .u32 (r : Int) 1)))) = ((cb r : Nat) : Int) := by
  have h1 : bits .and .u32 (r : Int) 1 = ((r % 2 : Nat) : Int) := by
    rw [show (1 : Int) = ((1 : Nat) : Int) from rfl, u32_and_nat _ _ hr (by decide), Nat.and_one_is_mod]
  rw [h1, show (r : Int) / 2 = ((r / 2 : Nat) : Int) from rfl]
  rcases Nat.mod_two_eq_zero_or_one r with h | h
  · rw [h, cb_even h, show IntKind.u32.wrap (-((0 : Nat) : Int)) = ((0 : Nat) : Int) from by decide, show (2197175160 : Int) = ((2197175160 : Nat) : Int) from rfl, u32_and_nat _ _ (by decide) (by decide), Nat.and_zero, u32_xor_nat _ _ (by omega) (by decide), Nat.xor_zero]
  · rw [h, cb_odd h, show IntKind.u32.wrap (-((1 : Nat) : Int)) = ((4294967295 : Nat) : Int) from by decide, show (2197175160 : Int) = ((2197175160 : Nat) : Int) from rfl, u32_and_nat _ _ (by decide) (by decide), show 2197175160 &&& 4294967295 = 2197175160 from by decide, u32_xor_nat _ _ (by omega) (by decide)]

theorem not_bits {s : Nat} (hs : s < 4294967296) : bits .xor .u32 IntKind.u32.max (s : Int) = ((s ^^^ 4294967295 : Nat) : Int) := by
  rw [show IntKind.u32.max = ((4294967295 : Nat) : Int) from rfl, u32_xor_nat _ _ (by decide) hs, Nat.xor_comm]

end Go.Proofs.Ytcbnjigaajpadaa

/-
  Words for memory: a slice of slices of bytes that reads as a list of lists; a whole slice appended to a row of the call's own; a block stored whole.
-/
namespace Go.Proofs.Ytcbnjigaajpadaa
open Go.RowKit

/-- The slice of slices (A, n) reads, in w, as the lists xss. -/
def RdSS (w : World) (A : Option Addr) (n : Nat) (xss : List (List Nat)) : Prop :=
  xss.length = n ∧ (0 < n → ∃ b o, A = some ⟨b, o, none⟩ ∧ b < w.heap.size ∧ ∀ j, j < n → ∃ a m c, w.cell? ⟨b, o + j, none⟩ = some (.slice a m c) ∧ Rd .u8 w a m (xss.getD j []))

theorem RdSS.len {w : World} {A : Option Addr} {n : Nat} {xss : List (List Nat)} (h : RdSS w A n xss) : xss.length = n := h.1

theorem RdSS.at_ {w : World} {A : Option Addr} {n : Nat} {xss : List (List Nat)} (h : RdSS w A n xss) {j : Nat} (hj : j < n) :
    ∃ b o a m c, A = some ⟨b, o, none⟩ ∧ b < w.heap.size ∧ w.cell? ⟨b, o + j, none⟩ = some (.slice a m c) ∧ Rd .u8 w a m (xss.getD j []) := by
  obtain ⟨b, o, e, hb, hc⟩ := h.2 (by omega)
  obtain ⟨a, m, c, h1, h2⟩ := hc j hj
  exact ⟨b, o, a, m, c, e, hb, h1, h2⟩

theorem RdSS.ext {w w' : World} {A : Option Addr} {n : Nat} {xss : List (List Nat)} (h : RdSS w A n xss) (hb : Ext w w') : RdSS w' A n xss :=
  ⟨h.1, fun hn => by
    obtain ⟨b, o, e, hlt, hc⟩ := h.2 hn
    refine ⟨b, o, e, Nat.lt_of_lt_of_le hlt hb.size, fun j hj => ?_⟩
    obtain ⟨a, m, c, h1, h2⟩ := hc j hj
    exact ⟨a, m, c, (Below.cell hb (p := ⟨b, o + j, none⟩) hlt).trans h1, h2.ext hb⟩⟩

/-- Slices that the call has just written out one behind the other in a block of its own. -/
theorem RdSS.lit (e : TypeId) (w : World) (ss : List (Option Addr × Nat × Nat)) (xss : List (List Nat)) (hl : xss.length = ss.length)
    (h : ∀ j, j < ss.length → Rd .u8 w (ss.getD j (none, 0, 0)).1 (ss.getD j (none, 0, 0)).2.1 (xss.getD j [])) :
    RdSS (w.alloc (.cells (ss.map fun s => Value.slice s.1 s.2.1 s.2.2).toArray e)) (some ⟨w.heap.size, 0, none⟩) ss.length xss := by
  refine ⟨hl, fun hn => ⟨w.heap.size, 0, rfl, by simp, fun j hj => ⟨(ss.getD j (none, 0, 0)).1, (ss.getD j (none, 0, 0)).2.1, (ss.getD j (none, 0, 0)).2.2, ?_, (h j hj).ext ((Ext.refl w).alloc _)⟩⟩⟩
  rw [cell_of_row _ w.heap.size (0 + j) _ e (0, 0) (heap_alloc_new w _)]
  simp [hj]

theorem RdSS.one (e : TypeId) (w : World) {b n c : Nat} {A : Option Addr} {xs : List Nat} (hb : w.heap.size = b) (h : Rd .u8 w A n xs) :
    RdSS (w.alloc (.cells #[.slice A n c] e)) (some ⟨b, 0, none⟩) 1 [xs] := by
  subst hb
  exact RdSS.lit e w [(A, n, c)] [xs] rfl (fun j hj => by
    obtain rfl : j = 0 := by simp at hj; omega
    exact h)

theorem RdSS.two (e : TypeId) (w : World) {b n c n2 c2 : Nat} {A A2 : Option Addr} {xs ys : List Nat} (hb : w.heap.size = b) (h : Rd .u8 w A n xs) (h2 : Rd .u8 w A2 n2 ys) :
    RdSS (w.alloc (.cells #[.slice A n c, .slice A2 n2 c2] e)) (some ⟨b, 0, none⟩) 2 [xs, ys] := by
  subst hb
  exact RdSS.lit e w [(A, n, c), (A2, n2, c2)] [xs, ys] rfl (fun j hj => by
    have hj2 : j < 2 := hj
    rcases (show j = 0 ∨ j = 1 by omega) with rfl | rfl
    · exact h
    · exact h2)

theorem RdSS.three (e : TypeId) (w : World) {b n c n2 c2 n3 c3 : Nat} {A A2 A3 : Option Addr} {xs ys zs : List Nat} (hb : w.heap.size = b) (h : Rd .u8 w A n xs) (h2 : Rd .u8 w A2 n2 ys) (h3 : Rd .u8 w A3 n3 zs) :
    RdSS (w.alloc (.cells #[.slice A n c, .slice A2 n2 c2, .slice A3 n3 c3] e)) (some ⟨b, 0, none⟩) 3 [xs, ys, zs] := by
  subst hb
  exact RdSS.lit e w [(A, n, c), (A2, n2, c2), (A3, n3, c3)] [xs, ys, zs] rfl (fun j hj => by
    have hj2 : j < 3 := hj
    rcases (show j = 0 ∨ j = 1 ∨ j = 2 by omega) with rfl | rfl | rfl
    · exact h
    · exact h2
    · exact h3)

theorem take_nextL (xss : List (List Nat)) (j : Nat) (h : j < xss.length) : xss.take (j + 1) = xss.take j ++ [xss.getD j []] := by
  rw [List.take_succ_eq_append_getElem h]; simp [List.getD, h]

/-- The first j lists, one behind the other. -/
def cat (xss : List (List Nat)) (j : Nat) : List Nat := (xss.take j).flatten
theorem cat_zero (xss : List (List Nat)) : cat xss 0 = [] := rfl
theorem cat_succ {xss : List (List Nat)} {j : Nat} (h : j < xss.length) : cat xss (j + 1) = cat xss j ++ xss.getD j [] := by rw [cat, take_nextL _ _ h]; simp [cat]
theorem cat_all (xss : List (List Nat)) : cat xss xss.length = xss.flatten := by simp [cat]
def U8s (xss : List (List Nat)) : Prop := ∀ xs ∈ xss, U8 xs
theorem U8s.at_ {xss : List (List Nat)} (h : U8s xss) (j : Nat) : U8 (xss.getD j []) := by
  by_cases hj : j < xss.length
  · have := h _ (List.getElem_mem hj); simpa [List.getD, hj] using this
  · simp [List.getD, hj]; intro v hv; cases hv
theorem U8s.cat {xss : List (List Nat)} (h : U8s xss) (j : Nat) : U8 (cat xss j) := by
  intro v hv
  obtain ⟨l, hl, hv⟩ := List.mem_flatten.1 hv
  exact h l (List.mem_of_mem_take hl) v hv
theorem cat_le {xss : List (List Nat)} {j : Nat} : (cat xss j).length ≤ xss.flatten.length := by
  have : xss.flatten = cat xss j ++ (xss.drop j).flatten := by rw [cat, ← List.flatten_append, List.take_append_drop]
  rw [this, List.length_append]
  omega

/-- append of a source that is nil, whatever its capacity: nothing. -/
theorem run_append_none {P : Program} {w : World} {base : Nat} {e : TypeId} (t ty : TypeId) (i : TypeInfo) (size c : Nat) (ht : P.underlying t = some (.slice e)) (hi : P.info? e = some i)
    (v : Value) (n : Nat) (xs : List Value) (hown : w.ownsRow base e size v n xs) :
    (Builtin.append_ #[t, t] ty #[v, .slice none 0 c]).run P w = .ok v w := by
  rcases hown.2 with ⟨rfl, rfl⟩ | ⟨g, cap, cur, rfl, _, _, hnc, _⟩
  · simp [Builtin.append_, run_underlying ht, sizeOf, typeInfo, hi, Builtin.lenOf, Builtin.firstCells]
  · simp [Builtin.append_, run_underlying ht, sizeOf, typeInfo, hi, Builtin.lenOf, Builtin.firstCells, hnc, storeCells]

/-- 'append(out, ys...)', ys a slice that reads as numbers, nil or not. -/
theorem wpList_pushes {P : Program} {w0 w : World} {ops : Array Oper} {rest : List Oper} {o : Oper} {a : Act} {Q : Exit → Act → World → Prop} (k : IntKind) (e : TypeId) (hgd : o.guard = none) (s y : Operand) (t : TypeId)
    (ho : o.op = .call { callee := .builtin .append, args := #[s, y], argTypes := #[t, t] })
    (z : Value) (bytes : Nat) (ht : P.underlying t = some (.slice e)) (hi : (P.info? e).map (fun i => (i.zero, i.size, i.bytes)) = some (some z, 1, bytes)) (hzs : z.cells.size = 1)
    {base : Nat} {A A2 : Option Addr} {c m c2 : Nat} {xs ys : List Nat} (hown : Own k e w base A c xs) (n : Nat) (hn : xs.length = n) (hs : a.eval s = .slice A n c)
    (hy : a.eval y = .slice A2 m c2) (hrd : Rd k w A2 m ys) (hlen : ((n + m) + (n + m) / 4 + 192) * bytes ≤ 281474976710656) (hby : 0 < bytes) (hb : Below base w0 w) (hbase : base ≤ w.heap.size)
    (h : ∀ A' c' w', Own k e w' base A' c' (xs ++ ys) → Below base w0 w' → base ≤ w'.heap.size → wpList P ops Q rest (a.put o.dst (.slice A' (n + m : Nat) c')) w') :
    wpList P ops Q (o :: rest) a w := by
  subst hn
  obtain ⟨i, hi0, hz, hsz, hbs⟩ := info_parts hi
  have hle : xs.length + m ≤ 281474976710656 := Nat.le_trans (Nat.le_trans (by omega) (Nat.le_mul_of_pos_right ((xs.length + m) + (xs.length + m) / 4 + 192) hby)) hlen
  have hyl := hrd.len
  cases A2 with
  | none =>
    have hm : m = 0 := by
      rcases Nat.eq_zero_or_pos m with h0 | h0
      · exact h0
      · obtain ⟨b, o, he, _⟩ := hrd.2 h0
        cases he
    subst hm
    obtain rfl : ys = [] := List.eq_nil_of_length_eq_zero hyl
    refine wpList_plain hgd fun K hK => ?_
    have hrun := run_append_none (P := P) (w := w) t o.type i 1 c2 ht hi0 _ _ _ hown
    unfold Oper.wp
    simp [execOp, ho, resolve, invoke, builtin, hs, hy, hrun, Result.andThen]
    have hh := h A c w (by simpa using hown) hb hbase
    exact hK _ _ hh
  | some ad =>
    refine wpList_append_own_wide _ hgd s y t ho base e i z 1 bytes ht hi0 hz hsz hbs hzs (by decide) _ xs.length (xs.map fun x : Nat => Value.int k (x : Int)) hs hown
      ad m c2 (ys.map fun x : Nat => Value.int k (x : Int)) hy (by simp [hyl]) ?_ ?_ (by unfold maxLen; omega) hlen hbase ?_
    · intro j u hj
      have hjl : j < ys.length := by
        have := (List.getElem?_eq_some_iff.1 hj).1
        simpa using this
      obtain ⟨b, o', he, hbl, hc⟩ := hrd.at_ (j := j) (by omega)
      injection he with he
      subst he
      have hadd : (⟨b, o', none⟩ : Addr).add j = ⟨b, o' + j, none⟩ := by simp [Addr.add]
      rw [hadd, hc]
      rw [List.getElem?_map, List.getElem?_eq_getElem hjl] at hj
      simp at hj
      simp [← hj, hjl]
    · intro u hu
      obtain ⟨x, _, rfl⟩ := List.mem_map.1 hu
      rfl
    · intro v' w' hown' hg hnil
      have hform : ∃ A' c', v' = .slice A' (xs.length + m) c' := by
        rcases hown'.2 with ⟨hv, h0⟩ | ⟨g, cap, cur, hv, _⟩
        · exact ⟨none, 0, by rw [hv, h0]⟩
        · exact ⟨_, _, hv⟩
      obtain ⟨A', c', rfl⟩ := hform
      have hb' : Below base w0 w' := Below.grown hb hg hbase (fun g hg' => (hown.lt g hg').1)
      refine h A' c' w' ?_ hb' ?_
      · unfold Own
        rw [List.length_append, hyl, List.map_append]
        exact hown'
      · have := hg.size
        omega

theorem Ext.setRow {a b : World} (h : Ext a b) {g : Nat} (hg : a.heap.size ≤ g) (cs : Array Value) : Ext a (b.setRow g cs) :=
  ⟨h.os, h.tape, h.output, by have := h.size; simpa using this, fun i hi => (setRow_other b g i cs (by omega)).trans (h.block i hi)⟩

theorem grown_setRow (w : World) (g : Nat) (cs : Array Value) : w.grownBy (w.setRow g cs) (some g) :=
  ⟨rfl, rfl, rfl, by simp, fun i _ hne => setRow_other w g i cs (fun e => hne (by rw [e]))⟩

/-- The block that a call has just laid, behind whatever only adds. -/
theorem Ext.kept {w w' : World} {o : Obj} (h : Ext (w.alloc o) w') : w'.heap[w.heap.size]? = some o := by
  rw [h.block w.heap.size (by simp)]
  exact heap_alloc_new w o

end Go.Proofs.Ytcbnjigaajpadaa

/-
  The document's answers of layer 3, by definition: the bytes of a number and back, the sum, sealed bytes.
-/
namespace Go.Proofs.Ytcbnjigaajpadaa
open Go.RowKit

theorem ret_int' {k : IntKind} {a b : Int} (h : a = b) : Ending.returned (.int k a) = .returned (.int k b) := by rw [h]

/-- One bit's step, in Go's words. -/
theorem step_bits {s : Nat} (hs : s < 4294967296) : bits .xor .u32 ((s : Int) / 2) 2197175160 = ((s / 2 ^^^ 2197175160 : Nat) : Int) := by
  rw [show (s : Int) / 2 = ((s / 2 : Nat) : Int) from rfl, show (2197175160 : Int) = ((2197175160 : Nat) : Int) from rfl, u32_xor_nat _ _ (by omega) (by omega)]

set_option maxHeartbeats 400000 in
theorem refSum_any (A : Option Addr) (n c : Nat) (bs : List Nat) (w : World) (hx : Rd .u8 w A n bs) (hu : U8 bs) (hn : n ≤ 180000000000000) :
    Calls Try.prog 10 #[.slice A n c] w fun e w' => e = .returned (.int .u32 (crc bs : Nat)) ∧ w = w' := by
  have hl := hx.len
  obtain ⟨M, hM⟩ : ∃ M : Nat, M = 4294967295 := ⟨_, rfl⟩
  have hfin : crc bs = creg M bs ^^^ M := by rw [hM]; rfl
  have hMl : M < 4294967296 := by omega
  have Hl := Lib.hid hl
  have Hf := Lib.hid hfin
  clear hl hfin
  go_enter Try.func10, Try.ntmps10
  go_wp2
  go_loop [3, 4, 5] (fun s i _ => ∃ j : Nat, j ≤ n ∧ i = .int .i64 j ∧ s = .int .u32 (creg M (bs.take j) : Nat)) (fun _ i _ => n - (intOf i).toNat)
  case atStart => exact ⟨0, Nat.zero_le _, rfl, by rw [hM, List.take_zero, creg_nil]; rfl⟩
  case round =>
    obtain ⟨j, hj, rfl, rfl⟩ := hrel
    have hR : creg M (bs.take j) < 4294967296 := creg_lt (u8_take hu j) hMl
    by_cases hlt : j < n
    · obtain ⟨b, o, rfl, hbl, hc⟩ := hx.at_ hlt
      have hv := hu.at_ j
      have hnext : creg M (bs.take (j + 1)) = cN 8 (creg M (bs.take j) ^^^ bs.getD j 0) := by
        rw [take_next _ _ (by have := Hl.out; omega), creg_snoc (u8_take hu j) _ hv]
      obtain ⟨x, hx'⟩ : ∃ x, x = bs.getD j 0 := ⟨_, rfl⟩
      obtain ⟨R, hR'⟩ : ∃ R, R = creg M (bs.take j) := ⟨_, rfl⟩
      rw [← hx'] at hc hv hnext
      rw [← hR'] at hR hnext ⊢
      have hxo : bits .xor .u32 (R : Int) (x : Int) = ((R ^^^ x : Nat) : Int) := u32_xor_nat _ _ hR (by omega)
      have hlt2 : R ^^^ x < 4294967296 := xor_lt32 hR (by omega)
      obtain ⟨T, hT⟩ : ∃ T, T = R ^^^ x := ⟨_, rfl⟩
      rw [← hT] at hxo hlt2 hnext
      have Hn := Lib.hid hnext
      clear hnext hT hR' hx'
      go_wp2
      go_loop [3, 5] (fun s k => ∃ t : Nat, t ≤ 8 ∧ k = .int .i64 t ∧ s = .int .u32 (cN t T : Nat)) (fun _ k => 8 - (intOf k).toNat)
      case atStart => exact ⟨0, by omega, rfl, rfl⟩
      case round =>
        obtain ⟨t, ht, rfl, rfl⟩ := hrel
        have hS := cN_lt t hlt2
        have hN := cN_succ t T
        obtain ⟨S, hS'⟩ : ∃ S, S = cN t T := ⟨_, rfl⟩
        rw [← hS'] at hS hN ⊢
        have HS := Lib.hid hS'
        clear hS'
        by_cases ht8 : t < 8
        · have hst := step_bits hS
          by_cases hodd : S % 2 = 1
          · rw [cb_odd hodd] at hN
            have HN := Lib.hid hN
            clear hN
            go_wp2
            go_round
            case rel => exact ⟨t + 1, by omega, by go_num, by rw [HN.out]⟩
            case measure => simp [intOf]; omega
          · rw [cb_even (by omega)] at hN
            have HN := Lib.hid hN
            clear hN
            go_wp2
            go_round
            case rel => exact ⟨t + 1, by omega, by go_num, by rw [HN.out]; go_num⟩
            case measure => simp [intOf]; omega
        · obtain rfl : t = 8 := by omega
          go_wp2
          go_round
          case rel => exact ⟨j + 1, by omega, by go_num, by rw [Hn.out, HS.out]⟩
          case measure => simp [intOf]; omega
    · obtain rfl : j = n := by omega
      rw [List.take_of_length_le (Nat.le_of_eq Hl.out)] at hR ⊢
      have hxo : bits .xor .u32 (creg M bs : Int) (M : Int) = ((creg M bs ^^^ M : Nat) : Int) := u32_xor_nat _ _ hR hMl
      rw [← Hf.out, hM] at hxo
      rw [hM]
      go_wp2
      go_ret
      exact ⟨ret_int' hxo, rfl⟩

set_option maxHeartbeats 400000 in
theorem low_any (v m : Nat) (w : World) (hv : v < 18446744073709551616) (hm : m ≤ 64) :
    Calls Try.prog 29 #[.int .u64 v, .int .i64 m] w fun e w' => ∃ A' c', e = .returned (.slice A' m c') ∧ Own .u8 5 w' w.heap.size A' c' (upk 8 m v) ∧ Ext w w' := by
  have Hs := Lib.hid (fun j => upk_snoc 8 j v)
  have Hv := Lib.hid hv
  clear hv
  go_enter Try.func29, Try.ntmps29
  go_wp2
  go_loopw [0, 5, 6] (fun y o i wr => ∃ (j : Nat) (A' : Option Addr) (c' : Nat), j ≤ m ∧ i = .int .i64 j ∧ y = .int .u64 (v / 2 ^ (8 * j) : Nat) ∧ o = .slice A' j c' ∧ Own .u8 5 wr w.heap.size A' c' (upk 8 j v) ∧ Below w.heap.size w wr) (fun _ _ i _ => m - (intOf i).toNat)
  case atStart => exact ⟨0, _, _, Nat.zero_le _, rfl, by rw [Nat.mul_zero, Nat.pow_zero, Nat.div_one], rfl, Own.made _ _ _ (Nat.le_refl _), (Ext.refl w).alloc _⟩
  case round =>
    obtain ⟨j, A', c', hj, rfl, rfl, rfl, hown, hb⟩ := hrel
    have hz := hb.size
    have hs := Hs.out j
    have hd : v / 2 ^ (8 * (j + 1)) = v / 2 ^ (8 * j) / 256 := by rw [Nat.mul_succ, Nat.pow_add, Nat.div_div_eq_div_mul]
    have hy : v / 2 ^ (8 * j) < 18446744073709551616 := Nat.lt_of_le_of_lt (Nat.div_le_self _ _) Hv.out
    obtain ⟨y, hy'⟩ : ∃ y, y = v / 2 ^ (8 * j) := ⟨_, rfl⟩
    rw [← hy'] at hs hd hy ⊢
    have HS := Lib.hid hs
    have HD := Lib.hid hd
    have Htl := Lib.hid (upk_len 8 j v)
    clear hs hd hy'
    by_cases hlt : j < m
    · have hmm : IntKind.u8.wrap ((y : Int) % 256) = (y : Int) % 256 := IntWalk.u8_in _ (by omega)
      go_wp2_with (at_builtin; refine wpList_push .u8 (y % 2 ^ 8) 5 rfl _ _ 22 rfl _ 1 Try.underlying22 Try.infoU8 rfl hown j Htl.out rfl rfl (by omega) (by omega) (by omega) hb hz ?_; intro A1 c1 w1 hown1 hb1 hz1)
      go_roundw
      case rel => exact ⟨j + 1, A1, c1, by omega, by go_num, by rw [HD.out]; go_num, rfl, by rw [HS.out]; exact hown1, hb1⟩
      case measure => simp [intOf]; omega
    · obtain rfl : j = m := by omega
      go_wp2
      go_ret
      exact ⟨_, _, rfl, hown, hb⟩

end Go.Proofs.Ytcbnjigaajpadaa

/-
  The program's layer 3: one step, going on from a sum, the sum of parts, the product, two sums joined.
-/
namespace Go.Proofs.Ytcbnjigaajpadaa
open Go.RowKit

theorem moved_any (r : Nat) (w : World) (hr : r < 4294967296) :
    Calls Try.prog 23 #[.int .u32 (r : Int)] w fun e w' => e = .returned (.int .u32 (cb r : Nat)) ∧ w = w' := by
  have H := Lib.hid (moved_bits hr)
  go_enter Try.func23, Try.ntmps23
  go_wp2
  go_ret
  exact ⟨ret_int' H.out, rfl⟩

set_option maxHeartbeats 400000 in
theorem extend_any (s : Nat) (A : Option Addr) (n c : Nat) (bs : List Nat) (w : World) (hs : s < 4294967296) (hx : Rd .u8 w A n bs) (hu : U8 bs) (hn : n ≤ 180000000000000) :
    Calls Try.prog 12 #[.int .u32 (s : Int), .slice A n c] w fun e w' => e = .returned (.int .u32 (ext s bs : Nat)) ∧ w = w' := by
  have hl := hx.len
  have hno := not_bits hs
  obtain ⟨M, hM⟩ : ∃ M : Nat, M = s ^^^ 4294967295 := ⟨_, rfl⟩
  rw [← hM] at hno
  have hfin : ext s bs = creg M bs ^^^ 4294967295 := by rw [hM]; rfl
  have hMl : M < 4294967296 := by rw [hM]; exact xor_lt32 hs (by decide)
  have Hl := Lib.hid hl
  have Hf := Lib.hid hfin
  clear hl hfin hM
  go_enter Try.func12, Try.ntmps12
  go_wp2
  go_loop [5, 7, 12] (fun s _ i => ∃ j : Nat, j ≤ n ∧ i = .int .i64 j ∧ s = .int .u32 (creg M (bs.take j) : Nat)) (fun _ _ i => n - (intOf i).toNat)
  case atStart => exact ⟨0, Nat.zero_le _, rfl, by rw [List.take_zero, creg_nil]⟩
  case round =>
    clear hno
    obtain ⟨j, hj, rfl, rfl⟩ := hrel
    have hR : creg M (bs.take j) < 4294967296 := creg_lt (u8_take hu j) hMl
    by_cases hlt : j < n
    · obtain ⟨b, o, rfl, hbl, hc⟩ := hx.at_ hlt
      have hv := hu.at_ j
      have hnext : creg M (bs.take (j + 1)) = cN 8 (creg M (bs.take j) ^^^ bs.getD j 0) := by
        rw [take_next _ _ (by have := Hl.out; omega), creg_snoc (u8_take hu j) _ hv]
      obtain ⟨x, hx'⟩ : ∃ x, x = bs.getD j 0 := ⟨_, rfl⟩
      obtain ⟨R, hR'⟩ : ∃ R, R = creg M (bs.take j) := ⟨_, rfl⟩
      rw [← hx'] at hc hv hnext
      rw [← hR'] at hR hnext ⊢
      have hxo : bits .xor .u32 (R : Int) (x : Int) = ((R ^^^ x : Nat) : Int) := u32_xor_nat _ _ hR (by omega)
      have hlt2 : R ^^^ x < 4294967296 := xor_lt32 hR (by omega)
      obtain ⟨T, hT⟩ : ∃ T, T = R ^^^ x := ⟨_, rfl⟩
      rw [← hT] at hxo hlt2 hnext
      have Hn := Lib.hid hnext
      clear hnext hT hR' hx'
      go_wp2
      go_loop [5, 20] (fun s k => ∃ t : Nat, t ≤ 8 ∧ k = .int .i64 t ∧ s = .int .u32 (cN t T : Nat)) (fun _ k => 8 - (intOf k).toNat)
      case atStart => exact ⟨0, by omega, rfl, rfl⟩
      case round =>
        obtain ⟨t, ht, rfl, rfl⟩ := hrel
        have hS := cN_lt t hlt2
        have hN := cN_succ t T
        obtain ⟨S, hS'⟩ : ∃ S, S = cN t T := ⟨_, rfl⟩
        rw [← hS'] at hS hN ⊢
        have HS := Lib.hid hS'
        have HN := Lib.hid hN
        clear hS' hN
        by_cases ht8 : t < 8
        · go_wp2_with fail
          refine (moved_any S _ hS).mono ?_
          rintro e w1 ⟨rfl, rfl⟩
          go_wp2_with fail
          go_round
          case rel => exact ⟨t + 1, by omega, by go_num, by rw [HN.out]⟩
          case measure => simp [intOf]; omega
        · obtain rfl : t = 8 := by omega
          go_wp2
          go_round
          case rel => exact ⟨j + 1, by omega, by go_num, by rw [Hn.out, HS.out]⟩
          case measure => simp [intOf]; omega
    · obtain rfl : j = n := by omega
      rw [List.take_of_length_le (Nat.le_of_eq Hl.out)] at hR ⊢
      have hxo := not_bits hR
      rw [← Hf.out] at hxo
      have Hxo := Lib.hid hxo
      clear hxo
      go_wp2
      go_ret
      exact ⟨ret_int' Hxo.out, rfl⟩

set_option maxHeartbeats 400000 in
theorem sum_any (A : Option Addr) (n c : Nat) (xss : List (List Nat)) (w : World) (hx : RdSS w A n xss) (hu : U8s xss) (hn : ∀ xs ∈ xss, xs.length ≤ 180000000000000) (hm : n ≤ 180000000000000) :
    Calls Try.prog 11 #[.slice A n c] w fun e w' => e = .returned (.int .u32 (crc xss.flatten : Nat)) ∧ w = w' := by
  have Hl := Lib.hid hx.len
  go_enter Try.func11, Try.ntmps11
  go_wp2
  go_loop [3, 5, 8] (fun s _ i => ∃ j : Nat, j ≤ n ∧ i = .int .i64 j ∧ s = .int .u32 (crc (cat xss j) : Nat)) (fun _ _ i => n - (intOf i).toNat)
  case atStart => exact ⟨0, Nat.zero_le _, rfl, by rw [cat_zero, crc_nil]; rfl⟩
  case round =>
    obtain ⟨j, hj, rfl, rfl⟩ := hrel
    have hR : crc (cat xss j) < 4294967296 := crc_lt (hu.cat j)
    by_cases hlt : j < n
    · obtain ⟨b, o, a, m, c2, rfl, hbl, hc, hrd⟩ := hx.at_ hlt
      have hjl : j < xss.length := by have := Hl.out; omega
      have hnext : ext (crc (cat xss j)) (xss.getD j []) = crc (cat xss (j + 1)) := by rw [ext_crc (hu.cat j), cat_succ hjl]
      have hle : m ≤ 180000000000000 := by
        have h1 := hn _ (List.getElem_mem hjl)
        have h2 := hrd.len
        rw [show xss.getD j [] = xss[j] from by simp [List.getD, hjl]] at h2
        omega
      have huj := hu.at_ j
      obtain ⟨R, hR'⟩ : ∃ R, R = crc (cat xss j) := ⟨_, rfl⟩
      obtain ⟨ys, hys⟩ : ∃ ys, ys = xss.getD j [] := ⟨_, rfl⟩
      rw [← hR'] at hR hnext ⊢
      rw [← hys] at hnext hrd huj
      have Hn := Lib.hid hnext
      clear hnext hR' hys
      go_wp2_with fail
      refine (extend_any R _ _ _ _ _ hR hrd huj hle).mono ?_
      rintro e w1 ⟨rfl, rfl⟩
      go_wp2_with fail
      go_round
      case rel => exact ⟨j + 1, by omega, by go_num, by rw [Hn.out]⟩
      case measure => simp [intOf]; omega
    · obtain rfl : j = n := by omega
      have hfin : cat xss j = xss.flatten := by rw [← cat_all]; rw [Hl.out]
      rw [hfin] at hR ⊢
      clear hfin
      go_wp2
      go_ret
      exact ⟨rfl, rfl⟩

theorem cast_sh (a i M : Nat) : ((a : Int) * 2 ^ i % (M : Int)) = ((a * 2 ^ i % M : Nat) : Int) := by push_cast; rfl
theorem top_bit {a i : Nat} (hi : i < 32) : a * 2 ^ i % 4294967296 / 2 ^ 31 = a / 2 ^ (31 - i) % 2 := by
  have h1 : (4294967296 : Nat) = 2 ^ 31 * 2 := by decide
  rw [h1, Nat.mod_mul_right_div_self]
  have h2 : (2 : Nat) ^ 31 = 2 ^ (31 - i) * 2 ^ i := by rw [← Nat.pow_add, show 31 - i + i = 31 from by omega]
  rw [h2, Nat.mul_div_mul_right _ _ (Nat.two_pow_pos i)]
theorem and_top (v : Nat) : v &&& 2 ^ 31 = (v / 2 ^ 31 % 2) * 2 ^ 31 := by
  have hb : v.testBit 31 = decide (v / 2 ^ 31 % 2 = 1) := Nat.testBit_eq_decide_div_mod_eq
  apply Nat.eq_of_testBit_eq
  intro k
  rw [Nat.testBit_and, Nat.testBit_two_pow]
  by_cases hk : 31 = k
  · subst hk
    rw [hb]
    rcases Nat.mod_two_eq_zero_or_one (v / 2 ^ 31) with h | h <;> rw [h] <;> rfl
  · rw [decide_eq_false hk, Bool.and_false]
    rcases Nat.mod_two_eq_zero_or_one (v / 2 ^ 31) with h | h <;> rw [h]
    · rw [Nat.zero_mul, Nat.zero_testBit]
    · rw [Nat.one_mul, Nat.testBit_two_pow, decide_eq_false hk]
/-- The lowest bit of a number that isn't negative. -/
theorem i64_low {m : Nat} (h : m < 9223372036854775808) : bits .and .i64 (m : Int) 1 = ((m % 2 : Nat) : Int) := by
  have ha : (BitVec.ofInt 64 (m : Int)).toNat = m := by
    rw [BitVec.ofInt_natCast, BitVec.toNat_ofNat]; exact Nat.mod_eq_of_lt (by omega)
  show IntKind.i64.wrap ((BitVec.ofInt 64 (m : Int) &&& BitVec.ofInt 64 1).toNat : Int) = _
  rw [BitVec.toNat_and, ha, show (BitVec.ofInt 64 1).toNat = 1 from rfl, Nat.and_one_is_mod, IntKind.wrap_i64]
  omega
theorem sel_bits {a i : Nat} (hi : i < 32) :
    bits .and .u32 ((a : Int) * 2 ^ i % 4294967296) 2147483648 = (((a / 2 ^ (31 - i) % 2) * 2 ^ 31 : Nat) : Int) := by
  rw [show (4294967296 : Int) = ((4294967296 : Nat) : Int) from rfl, cast_sh, show (2147483648 : Int) = ((2147483648 : Nat) : Int) from rfl, u32_and_nat _ _ (Nat.mod_lt _ (by decide)) (by decide)]
  rw [show (2147483648 : Nat) = 2 ^ 31 from by decide, and_top, top_bit hi, Nat.mod_mod]

set_option maxHeartbeats 400000 in
theorem product_any (a b : Nat) (w : World) (_ha : a < 4294967296) (hb : b < 4294967296) :
    Calls Try.prog 32 #[.int .u32 (a : Int), .int .u32 (b : Int)] w fun e w' => e = .returned (.int .u32 (pr a b 32 : Nat)) ∧ w = w' := by
  go_enter Try.func32, Try.ntmps32
  go_wp2
  go_loop [1, 5, 6, 7] (fun y p _ i => ∃ j : Nat, j ≤ 32 ∧ i = .int .i64 j ∧ y = .int .u32 (cN j b : Nat) ∧ p = .int .u32 (pr a b j : Nat)) (fun _ _ _ i => 32 - (intOf i).toNat)
  case atStart => exact ⟨0, Nat.zero_le _, rfl, rfl, rfl⟩
  case round =>
    obtain ⟨j, hj, rfl, rfl, rfl⟩ := hrel
    have hB := cN_lt j hb
    have hP := pr_lt hb a j
    by_cases hlt : j < 32
    · have hsel := sel_bits (a := a) hlt
      have hcs := cN_succ j b
      have hps : pr a b (j + 1) = pr a b j ^^^ (if a / 2 ^ (31 - j) % 2 = 1 then cN j b else 0) := rfl
      obtain ⟨B, hB'⟩ : ∃ B, B = cN j b := ⟨_, rfl⟩
      obtain ⟨R, hR'⟩ : ∃ R, R = pr a b j := ⟨_, rfl⟩
      rw [← hB'] at hB hcs hps ⊢
      rw [← hR'] at hP hps ⊢
      have Hcs := Lib.hid hcs
      clear hB' hR' hcs
      by_cases hbit : a / 2 ^ (31 - j) % 2 = 1
      · rw [hbit, show ((1 * 2 ^ 31 : Nat) : Int) = 2147483648 from rfl] at hsel
        rw [if_pos hbit] at hps
        have hxo : bits .xor .u32 (R : Int) (B : Int) = ((R ^^^ B : Nat) : Int) := u32_xor_nat _ _ hP hB
        have Hps := Lib.hid hps
        clear hps hbit
        go_wp2_with fail
        refine (moved_any B _ hB).mono ?_
        rintro e w1 ⟨rfl, rfl⟩
        go_wp2_with fail
        go_round
        case rel => exact ⟨j + 1, by omega, by go_num, by rw [Hcs.out], by rw [Hps.out]⟩
        case measure => simp [intOf]; omega
      · have h0 : a / 2 ^ (31 - j) % 2 = 0 := by omega
        rw [h0, show ((0 * 2 ^ 31 : Nat) : Int) = 0 from rfl] at hsel
        rw [if_neg hbit, Nat.xor_zero] at hps
        have Hps := Lib.hid hps
        clear hps hbit h0
        go_wp2_with fail
        refine (moved_any B _ hB).mono ?_
        rintro e w1 ⟨rfl, rfl⟩
        go_wp2_with fail
        go_round
        case rel => exact ⟨j + 1, by omega, by go_num, by rw [Hcs.out], by rw [Hps.out]⟩
        case measure => simp [intOf]; omega
    · obtain rfl : j = 32 := by omega
      go_wp2
      go_ret
      exact ⟨rfl, rfl⟩

set_option maxHeartbeats 400000 in
theorem join_any (x y : Nat) (n : Int) (w : World) (hx : x < 4294967296) (hy : y < 4294967296) (hn : n ≤ 9223372036854775807) :
    Calls Try.prog 19 #[.int .u32 (x : Int), .int .u32 (y : Int), .int .i64 n] w fun e w' => e = .returned (.int .u32 (joined x y n.toNat : Nat)) ∧ w = w' := by
  obtain ⟨T, hT⟩ : ∃ T, T = cN (8 * n.toNat) x := ⟨_, rfl⟩
  have hTl : T < 4294967296 := by rw [hT]; exact cN_lt _ hx
  have hj : joined x y n.toNat = T ^^^ y := by rw [hT]; rfl
  have HJ := Lib.hid hj
  have HT := Lib.hid hT
  clear hj hT
  by_cases hpos : 0 < n
  · obtain ⟨m0, rfl⟩ := Int.eq_ofNat_of_zero_le (show 0 ≤ n by omega)
    go_enter Try.func19, Try.ntmps19
    go_wp2
    go_loop [0, 2, 7] (fun f i p => ∃ m E F : Nat, m ≤ m0 ∧ F < 4294967296 ∧ i = .int .i64 m ∧ f = .int .u32 (F : Int) ∧ p = .int .u32 (cN E 2147483648 : Nat) ∧ cN (E * m) F = T) (fun _ i _ => (intOf i).toNat)
    case atStart => exact ⟨m0, 8, x, Nat.le_refl _, hx, rfl, rfl, by rw [pow_byte]; rfl, by rw [HT.out]; rfl⟩
    case round =>
      obtain ⟨m, E, F, hm, hF, rfl, rfl, rfl, hc⟩ := hrel
      have hB := cN_lt E (s := 2147483648) (by decide)
      have htw := pow_twice E
      have hpp := pr_pow hF E
      have hFl := cN_lt E hF
      obtain ⟨B, hB'⟩ : ∃ B, B = cN E 2147483648 := ⟨_, rfl⟩
      rw [← hB'] at hB htw hpp ⊢
      have Htw := Lib.hid htw
      have Hpp := Lib.hid hpp
      have Hc := Lib.hid hc
      clear htw hpp hc hB'
      by_cases hm0 : 0 < m
      · have hand : bits .and .i64 (m : Int) 1 = ((m % 2 : Nat) : Int) := by
          exact i64_low (by omega)
        by_cases hodd : m % 2 = 1
        · rw [hodd] at hand
          go_wp2_with fail
          refine (product_any F B _ hF hB).mono ?_
          rintro e w1 ⟨rfl, rfl⟩
          go_wp2_with fail
          refine (product_any B B _ hB hB).mono ?_
          rintro e w1 ⟨rfl, rfl⟩
          go_wp2_with fail
          go_round
          case rel => exact ⟨m / 2, E + E, cN E F, by omega, hFl, by go_num, by rw [Hpp.out], by rw [Htw.out], by rw [join_odd, show 2 * (m / 2) + 1 = m from by omega]; exact Hc.out⟩
          case measure => simp [intOf]; omega
        · have h0 : m % 2 = 0 := by omega
          rw [h0] at hand
          go_wp2_with fail
          refine (product_any B B _ hB hB).mono ?_
          rintro e w1 ⟨rfl, rfl⟩
          go_wp2_with fail
          go_round
          case rel => exact ⟨m / 2, E + E, F, by omega, hF, by go_num, rfl, by rw [Htw.out], by rw [join_even, show 2 * (m / 2) = m from by omega]; exact Hc.out⟩
          case measure => simp [intOf]; omega
      · obtain rfl : m = 0 := by omega
        have hFT : F = T := Hc.out
        subst hFT
        have hxo : bits .xor .u32 (F : Int) (y : Int) = ((F ^^^ y : Nat) : Int) := u32_xor_nat _ _ hF hy
        rw [← HJ.out] at hxo
        have Hxo := Lib.hid hxo
        clear hxo
        go_wp2
        go_ret
        exact ⟨ret_int' Hxo.out, rfl⟩
  · have h0 : n.toNat = 0 := by omega
    rw [h0, Nat.mul_zero] at HT
    have hTx : T = x := HT.out
    subst hTx
    have hxo : bits .xor .u32 (T : Int) (y : Int) = ((T ^^^ y : Nat) : Int) := u32_xor_nat _ _ hTl hy
    rw [← HJ.out] at hxo
    have Hxo := Lib.hid hxo
    clear hxo h0
    go_enter Try.func19, Try.ntmps19
    go_wp2
    go_loop [0, 2, 7] (fun f i _ => f = .int .u32 (T : Int) ∧ i = .int .i64 n) (fun _ _ _ => 0)
    case atStart => exact ⟨rfl, rfl⟩
    case round =>
      obtain ⟨rfl, rfl⟩ := hrel
      go_wp2
      go_ret
      exact ⟨ret_int' Hxo.out, rfl⟩

end Go.Proofs.Ytcbnjigaajpadaa

/-
  The document's answers of layer 3, by definition: numbers read from bytes, sealed bytes.
-/
namespace Go.Proofs.Ytcbnjigaajpadaa
open Go.RowKit

/-- m bytes from place a on. -/
def cut (bs : List Nat) (a m : Nat) : List Nat := (bs.drop a).take m
theorem cut_len {bs : List Nat} {a m : Nat} (h : a + m ≤ bs.length) : (cut bs a m).length = m := by simp [cut]; omega
theorem cut_u8 {bs : List Nat} (h : U8 bs) (a m : Nat) : U8 (cut bs a m) := u8_take (u8_drop h a) m
theorem cut_at {bs : List Nat} {a m i : Nat} (hi : i < m) : (cut bs a m).getD i 0 = bs.getD (a + i) 0 := by
  simp [cut, List.getD, List.getElem?_drop, hi]

theorem digit_up {N i : Nat} : N / 2 ^ (8 * i) = N / 2 ^ (8 * (i + 1)) * 256 + N / 2 ^ (8 * i) % 2 ^ 8 := by
  have h : N / 2 ^ (8 * (i + 1)) = N / 2 ^ (8 * i) / 256 := by rw [Nat.mul_succ, Nat.pow_add, Nat.div_div_eq_div_mul]
  rw [h]
  omega

set_option maxHeartbeats 400000 in
theorem value_any (A : Option Addr) (n c a m : Nat) (bs : List Nat) (w : World) (hx : Rd .u8 w A n bs) (hu : U8 bs) (hn : n ≤ 180000000000000) (ha : a + m ≤ n) (hm : m ≤ 8) :
    Calls Try.prog 30 #[.slice A n c, .int .i64 a, .int .i64 m] w fun e w' => e = .returned (.tuple #[.int .u64 (pk 8 (cut bs a m) : Nat), .bool true]) ∧ w = w' := by
  have hl := hx.len
  have hcl := cut_len (bs := bs) (a := a) (m := m) (by omega)
  have hcu := cut_u8 hu a m
  obtain ⟨N, hN⟩ : ∃ N, N = pk 8 (cut bs a m) := ⟨_, rfl⟩
  have hNl : N < 2 ^ (8 * m) := by have := pk_lt (U8_wd.1 hcu); rwa [hcl, ← hN] at this
  have hN64 : N < 18446744073709551616 := Nat.lt_of_lt_of_le hNl (by have := Nat.pow_le_pow_right (show 0 < 2 by omega) (show 8 * m ≤ 64 by omega); simpa using this)
  have hdig : ∀ i, i < m → N / 2 ^ (8 * i) % 2 ^ 8 = bs.getD (a + i) 0 := fun i hi => by rw [hN, pk_at (U8_wd.1 hcu), cut_at hi]
  rw [← hN]
  have Hl := Lib.hid hl
  have HN := Lib.hid hNl
  have H64 := Lib.hid hN64
  have Hd := Lib.hid hdig
  clear hl hcl hcu hN hNl hN64 hdig
  have b1 : decide ((a : Int) < 0) = false := by simp
  go_enter Try.func30, Try.ntmps30
  go_wp2
  go_loop [8, 9] (fun v i => ∃ j : Nat, j ≤ m ∧ i = .int .i64 ((j : Int) - 1) ∧ v = .int .u64 (N / 2 ^ (8 * j) : Nat)) (fun _ i => (intOf i + 1).toNat)
  case atStart => exact ⟨m, Nat.le_refl _, by go_num, by rw [Nat.div_eq_of_lt HN.out]; rfl⟩
  case round =>
    obtain ⟨j, hj, rfl, rfl⟩ := hrel
    by_cases hpos : 0 < j
    · obtain ⟨i, rfl⟩ : ∃ i, j = i + 1 := ⟨j - 1, by omega⟩
      obtain ⟨b, o, rfl, hbl, hc⟩ := hx.at_ (show a + i < n by omega)
      have hup := digit_up (N := N) (i := i)
      rw [Hd.out i (by omega)] at hup
      have hv := hu.at_ (a + i)
      have hle : N / 2 ^ (8 * i) < 18446744073709551616 := Nat.lt_of_le_of_lt (Nat.div_le_self _ _) H64.out
      obtain ⟨x, hx'⟩ : ∃ x, x = bs.getD (a + i) 0 := ⟨_, rfl⟩
      obtain ⟨V, hV⟩ : ∃ V, V = N / 2 ^ (8 * (i + 1)) := ⟨_, rfl⟩
      rw [← hx'] at hc hup hv
      rw [← hV] at hup ⊢
      rw [hup] at hle
      have Hup := Lib.hid hup
      clear hup hx' hV
      go_wp2
      go_round
      case rel => exact ⟨i, by omega, by go_num, by rw [Hup.out]; go_num⟩
      case measure => simp [intOf]
    · obtain rfl : j = 0 := by omega
      rw [Nat.mul_zero, Nat.pow_zero, Nat.div_one]
      go_wp2
      go_ret2
      exact ⟨rfl, rfl⟩

/-- The bytes with their sum behind them. -/
def sl (bs : List Nat) : List Nat := bs ++ upk 8 4 (crc bs)
theorem sl_len (bs : List Nat) : (sl bs).length = bs.length + 4 := by rw [sl, List.length_append, upk_len]
theorem sl_u8 {bs : List Nat} (h : U8 bs) : U8 (sl bs) := u8_append h (U8_wd.2 (upk_wd _ _ _))

set_option maxHeartbeats 400000 in
theorem refSeal_any (A : Option Addr) (n c : Nat) (bs : List Nat) (w : World) (hx : Rd .u8 w A n bs) (hu : U8 bs) (hn : n + 4 ≤ 180000000000000) :
    Calls Try.prog 16 #[.slice A n c] w fun e w' => ∃ A' c', e = .returned (.slice A' (n + 4 : Nat) c') ∧ Own .u8 5 w' w.heap.size A' c' (sl bs) ∧ Ext w w' := by
  have hcr := crc_lt hu
  go_enter Try.func16, Try.ntmps16
  go_wp2_with fail
  refine (refSum_any _ _ _ _ _ hx hu (by omega)).mono ?_
  rintro e w1 ⟨rfl, rfl⟩
  go_wp2_with fail
  refine (low_any (crc bs) 4 _ (by omega) (by omega)).mono ?_
  rintro e w1 ⟨A1, c1, rfl, hown1, he1⟩
  go_wp2_with fail
  refine (cat_any _ _ _ _ _ _ _ _ _ (hx.ext he1) hown1.rd (by rw [upk_len]; exact hn)).mono ?_
  rintro e w2 ⟨A2, c2, rfl, hown2, he2⟩
  go_wp2
  go_ret
  exact ⟨_, _, rfl, hown2.mono he1.size, he1.trans he2⟩

set_option maxHeartbeats 400000 in
theorem refSealed_any (A : Option Addr) (n c : Nat) (bs : List Nat) (w : World) (hx : Rd .u8 w A n bs) (hu : U8 bs) (hn : n ≤ 140737488355328) :
    Calls Try.prog 18 #[.slice A n c] w fun e w' => e = .returned (.bool (decide (sld bs))) ∧ Ext w w' := by
  have hl := hx.len
  by_cases h4 : 4 ≤ n
  · obtain ⟨m, rfl⟩ : ∃ m, n = m + 4 := ⟨n - 4, by omega⟩
    have hc1 : cut bs m 4 = bs.drop m := by rw [cut]; exact List.take_of_length_le (by rw [List.length_drop]; omega)
    have hp1 : piece bs 0 m = bs.take m := by unfold piece; simp
    have hs : sld bs ↔ pk 8 (bs.drop m) = crc (bs.take m) := by
      unfold sld
      rw [hl, Nat.add_sub_cancel]
      exact ⟨fun h => h.2, fun h => ⟨by omega, h⟩⟩
    have hdl : (bs.drop m).length = 4 := by rw [List.length_drop]; omega
    have hv : pk 8 (bs.drop m) < 4294967296 := by have := pk_lt (U8_wd.1 (u8_drop hu m)); rwa [hdl] at this
    have hcr := crc_lt (u8_take hu m)
    have hlt : (bs.take m).length ≤ 140737488355328 := by rw [List.length_take]; omega
    obtain ⟨V, hV⟩ : ∃ V, V = pk 8 (bs.drop m) := ⟨_, rfl⟩
    rw [← hV] at hs hv
    have Hs := Lib.hid hs
    have HV := Lib.hid hV
    have Hc := Lib.hid hc1
    have Hp := Lib.hid hp1
    clear hs hV hc1 hp1 hl
    go_enter Try.func18, Try.ntmps18
    go_wp2_with fail
    refine (value_any _ _ _ m 4 bs _ hx hu (by omega) (by omega) (by omega)).mono ?_
    rintro e w1 ⟨rfl, rfl⟩
    rw [Hc.out, ← HV.out]
    go_wp2_with fail
    refine (piece_any _ _ _ _ _ bs _ hx (by omega) (by omega)).mono ?_
    rintro e w1 ⟨A1, c1, rfl, hown1, he1⟩
    rw [Hp.out] at hown1
    go_wp2_with fail
    rw [Hp.out]
    refine (refSum_any _ _ _ (bs.take m) _ hown1.rd (u8_take hu m) (by omega)).mono ?_
    rintro e w2 ⟨rfl, rfl⟩
    obtain ⟨C, hC⟩ : ∃ C, C = crc (bs.take m) := ⟨_, rfl⟩
    rw [← hC] at hcr Hs ⊢
    have hd : decide (sld bs) = decide (V = C) := by simp [Hs.out]
    have Hd := Lib.hid hd
    clear hC hd
    go_wp2
    go_ret
    have hbe : ((V : Int) == (C : Int)) = decide (V = C) := by
      by_cases h : V = C
      · subst h; simp
      · have h2 : (V : Int) ≠ (C : Int) := by omega
        simp [h, h2]
    exact ⟨by rw [Hd.out]; exact congrArg (fun b => Ending.returned (.bool b)) hbe, he1⟩
  · have hf : ¬ sld bs := fun h => by have := h.1; omega
    rw [decide_eq_false hf]
    go_enter Try.func18, Try.ntmps18
    go_wp2
    go_ret
    exact ⟨rfl, Ext.refl _⟩

end Go.Proofs.Ytcbnjigaajpadaa
