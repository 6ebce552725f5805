/-
  Plain mathematics of the check sum: a register of 32 bits as a natural number, one step of it, so many steps, bytes laid into it; that it adds bit by bit, joins, and that a run of at most 32 turned bits never comes out as nothing.
-/
import Derived.Test.YtgmjpilinhmjoaaB0
namespace Go.Proofs.Ytgmjpilinhmjoaa

/-- One step: to the right by one, and the polynomial added where a 1 fell out. -/
def cb (s : Nat) : Nat := if s % 2 = 1 then s / 2 ^^^ 2197175160 else s / 2

/-- So many steps. -/
def cN : Nat → Nat → Nat
  | 0, s => s
  | k + 1, s => cN k (cb s)

theorem cb_odd {s : Nat} (h : s % 2 = 1) : cb s = s / 2 ^^^ 2197175160 := by simp [cb, h]
theorem cb_even {s : Nat} (h : s % 2 = 0) : cb s = s / 2 := by simp [cb, h]
theorem xor4 (a b c d : Nat) : (a ^^^ b) ^^^ (c ^^^ d) = (a ^^^ c) ^^^ (b ^^^ d) := by
  rw [Nat.xor_assoc, Nat.xor_assoc, ← Nat.xor_assoc b, Nat.xor_comm b c, Nat.xor_assoc c]
theorem xor_can (a b : Nat) : (a ^^^ b) ^^^ b = a := by rw [Nat.xor_assoc, Nat.xor_self, Nat.xor_zero]
theorem xor_can' (a b : Nat) : b ^^^ (b ^^^ a) = a := by rw [← Nat.xor_assoc, Nat.xor_self, Nat.zero_xor]
theorem xor_inj {a b c : Nat} (h : a ^^^ c = b ^^^ c) : a = b := by rw [← xor_can a c, h, xor_can]
theorem xor_eq0 {a b : Nat} (h : a ^^^ b = 0) : a = b := by rw [← xor_can a b, h, Nat.zero_xor]
theorem xor_half (a b : Nat) : (a ^^^ b) / 2 = a / 2 ^^^ b / 2 := Nat.xor_div_two_pow (n := 1)
theorem xor_par (a b : Nat) : (a ^^^ b) % 2 = (a % 2 ^^^ b % 2) := by have := Nat.xor_mod_two_pow (a := a) (b := b) (n := 1); simpa using this

theorem cb_xor (a b : Nat) : cb (a ^^^ b) = cb a ^^^ cb b := by
  have hp := xor_par a b
  have hh := xor_half a b
  rcases Nat.mod_two_eq_zero_or_one a with h1 | h1 <;> rcases Nat.mod_two_eq_zero_or_one b with h2 | h2 <;> rw [h1, h2] at hp
  · rw [cb_even hp, cb_even h1, cb_even h2, hh]
  · rw [cb_odd hp, cb_even h1, cb_odd h2, hh, Nat.xor_assoc]
  · rw [cb_odd hp, cb_odd h1, cb_even h2, hh, Nat.xor_assoc, Nat.xor_assoc, Nat.xor_comm (b / 2)]
  · rw [cb_even hp, cb_odd h1, cb_odd h2, hh, xor4, Nat.xor_self, Nat.xor_zero]

theorem cN_xor (k a b : Nat) : cN k (a ^^^ b) = cN k a ^^^ cN k b := by
  induction k generalizing a b with
  | zero => rfl
  | succ k ih => simp only [cN]; rw [cb_xor, ih]

theorem cN_zero (k : Nat) : cN k 0 = 0 := by
  induction k with
  | zero => rfl
  | succ k ih => simpa [cN, cb] using ih

theorem cb_dbl (x : Nat) : cb (2 * x) = x := by rw [cb_even (by omega)]; omega

theorem cN_shift (k x : Nat) : cN k (2 ^ k * x) = x := by
  induction k with
  | zero => simp [cN]
  | succ k ih => rw [cN, Nat.pow_succ, Nat.mul_comm (2 ^ k) 2, Nat.mul_assoc, cb_dbl, ih]

theorem cN_add (j k s : Nat) : cN (j + k) s = cN k (cN j s) := by
  induction j generalizing s with
  | zero => simp [cN]
  | succ j ih => rw [Nat.succ_add, cN, ih, cN]

theorem cN_succ (k s : Nat) : cN (k + 1) s = cb (cN k s) := by rw [cN_add]; rfl

theorem cb_lt {s : Nat} (h : s < 4294967296) : cb s < 4294967296 := by
  unfold cb
  split
  · exact Nat.xor_lt_two_pow (n := 32) (by omega) (by omega)
  · omega

theorem cN_lt (k : Nat) {s : Nat} (h : s < 4294967296) : cN k s < 4294967296 := by
  induction k generalizing s with
  | zero => exact h
  | succ k ih => exact ih (cb_lt h)

theorem cb_inj0 {s : Nat} (h : s < 4294967296) (h0 : cb s = 0) : s = 0 := by
  rcases Nat.mod_two_eq_zero_or_one s with h1 | h1
  · rw [cb_even h1] at h0; omega
  · rw [cb_odd h1] at h0
    have := xor_eq0 h0
    omega

theorem cN_inj0 (k : Nat) {s : Nat} (h : s < 4294967296) (h0 : cN k s = 0) : s = 0 := by
  induction k generalizing s with
  | zero => exact h0
  | succ k ih => exact cb_inj0 h (ih (cb_lt h) h0)

theorem xor_lt32 {a b : Nat} (ha : a < 4294967296) (hb : b < 4294967296) : a ^^^ b < 4294967296 := Nat.xor_lt_two_pow (n := 32) ha hb

theorem cN_inj (k : Nat) {a b : Nat} (ha : a < 4294967296) (hb : b < 4294967296) (h : cN k a = cN k b) : a = b := by
  refine xor_eq0 (cN_inj0 k (xor_lt32 ha hb) ?_)
  rw [cN_xor, h, Nat.xor_self]

/-- A low part and a high part: the sum is the bitwise one. -/
theorem lowhigh {w v x : Nat} (h : v < 2 ^ w) : v + 2 ^ w * x = v ^^^ 2 ^ w * x := by
  have h1 : (v ^^^ 2 ^ w * x) % 2 ^ w = v := by rw [Nat.xor_mod_two_pow, Nat.mul_mod_right, Nat.xor_zero, Nat.mod_eq_of_lt h]
  have h2 : (v ^^^ 2 ^ w * x) / 2 ^ w = x := by rw [Nat.xor_div_two_pow, Nat.div_eq_of_lt h, Nat.zero_xor, Nat.mul_div_cancel_left _ (Nat.two_pow_pos w)]
  have := Nat.mod_add_div (v ^^^ 2 ^ w * x) (2 ^ w)
  rw [h1, h2] at this
  exact this

/-- The register s behind the bytes bs. -/
def creg (s : Nat) (bs : List Nat) : Nat := cN (8 * bs.length) (s ^^^ pk 8 bs)

theorem creg_nil (s : Nat) : creg s [] = s := by simp [creg, pk, cN]

theorem creg_cons (s : Nat) {v : Nat} {r : List Nat} (hv : v < 256) : creg s (v :: r) = creg (cN 8 (s ^^^ v)) r := by
  unfold creg
  rw [List.length_cons, Nat.mul_succ, Nat.add_comm, cN_add, pk, lowhigh (w := 8) (by simpa using hv), ← Nat.xor_assoc, cN_xor 8, cN_shift]

theorem creg_append {a : List Nat} (ha : U8 a) (s : Nat) (b : List Nat) : creg s (a ++ b) = creg (creg s a) b := by
  induction a generalizing s with
  | nil => rw [creg_nil]; rfl
  | cons v r ih =>
    have hv : v < 256 := ha v List.mem_cons_self
    rw [List.cons_append, creg_cons s hv, creg_cons s hv, ih (fun x hx => ha x (List.mem_cons_of_mem _ hx))]

theorem creg_snoc {a : List Nat} (ha : U8 a) (s : Nat) {v : Nat} (hv : v < 256) : creg s (a ++ [v]) = cN 8 (creg s a ^^^ v) := by
  rw [creg_append ha, creg_cons _ hv, creg_nil]

theorem creg_lt {a : List Nat} (ha : U8 a) {s : Nat} (hs : s < 4294967296) : creg s a < 4294967296 := by
  induction a generalizing s with
  | nil => rw [creg_nil]; exact hs
  | cons v r ih =>
    have hv : v < 256 := ha v List.mem_cons_self
    rw [creg_cons s hv]
    exact ih (fun x hx => ha x (List.mem_cons_of_mem _ hx)) (cN_lt 8 (xor_lt32 hs (by omega)))

/-- The sum of the bytes. -/
def crc (bs : List Nat) : Nat := creg 4294967295 bs ^^^ 4294967295

theorem crc_lt {a : List Nat} (ha : U8 a) : crc a < 4294967296 := xor_lt32 (creg_lt ha (by decide)) (by decide)
theorem crc_nil : crc [] = 0 := by rw [crc, creg_nil, Nat.xor_self]
theorem crc_reg (a : List Nat) : crc a ^^^ 4294967295 = creg 4294967295 a := by rw [crc, xor_can]

/-- What Join says. -/
def joined (x y n : Nat) : Nat := cN (8 * n) x ^^^ y

theorem creg_xor_left (s t : Nat) (b : List Nat) : creg (s ^^^ t) b = cN (8 * b.length) s ^^^ creg t b := by
  unfold creg
  rw [Nat.xor_assoc, cN_xor]

theorem crc_append {a : List Nat} (ha : U8 a) (b : List Nat) : crc (a ++ b) = joined (crc a) (crc b) b.length := by
  rw [crc, creg_append ha, ← crc_reg a, creg_xor_left, Nat.xor_assoc]
  rfl

/-- Three lists of one length, bit by bit. -/
def xor3 : List Nat → List Nat → List Nat → List Nat
  | a :: x, b :: y, c :: z => (a ^^^ b ^^^ c) :: xor3 x y z
  | _, _, _ => []

theorem creg_xor3 {x y z : List Nat} (hx : U8 x) (hy : U8 y) (hz : U8 z) (h1 : y.length = x.length) (h2 : z.length = x.length) (s t u : Nat) :
    creg (s ^^^ t ^^^ u) (xor3 x y z) = creg s x ^^^ creg t y ^^^ creg u z := by
  induction x generalizing y z s t u with
  | nil =>
    obtain rfl : y = [] := List.eq_nil_of_length_eq_zero h1
    obtain rfl : z = [] := List.eq_nil_of_length_eq_zero h2
    simp only [xor3, creg_nil]
  | cons a x ih =>
    match y, z, h1, h2 with
    | b :: y, c :: z, h1, h2 =>
      have ha : a < 256 := hx a List.mem_cons_self
      have hb : b < 256 := hy b List.mem_cons_self
      have hc : c < 256 := hz c List.mem_cons_self
      have hab : a ^^^ b ^^^ c < 256 := Nat.xor_lt_two_pow (n := 8) (Nat.xor_lt_two_pow (n := 8) ha hb) hc
      rw [xor3, creg_cons _ hab, creg_cons _ ha, creg_cons _ hb, creg_cons _ hc, ← ih (fun v hv => hx v (List.mem_cons_of_mem _ hv)) (fun v hv => hy v (List.mem_cons_of_mem _ hv)) (fun v hv => hz v (List.mem_cons_of_mem _ hv)) (by simpa using h1) (by simpa using h2),
        ← cN_xor, ← cN_xor, xor4 s a t b, xor4 (s ^^^ t) (a ^^^ b) u c]

theorem crc_xor3 {x y z : List Nat} (hx : U8 x) (hy : U8 y) (hz : U8 z) (h1 : y.length = x.length) (h2 : z.length = x.length) :
    crc (xor3 x y z) = crc x ^^^ crc y ^^^ crc z := by
  have h := creg_xor3 hx hy hz h1 h2 4294967295 4294967295 4294967295
  rw [Nat.xor_self, Nat.zero_xor] at h
  unfold crc
  rw [h, xor4 (creg 4294967295 x) 4294967295 (creg 4294967295 y), Nat.xor_self, Nat.xor_zero, ← Nat.xor_assoc]

end Go.Proofs.Ytgmjpilinhmjoaa
