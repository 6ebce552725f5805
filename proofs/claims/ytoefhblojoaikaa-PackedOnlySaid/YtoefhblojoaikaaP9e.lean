/-
  Layer 9: the program's Decode and Range.
-/
import Derived.Test.YtoefhblojoaikaaP9c
namespace Go.Proofs.Ytoefhblojoaikaa
open Go.RowKit

/-- May numbers that lie so far above l be written in this width, and be they numbers at all? -/
def onlyF (l : Int) (wd : Int) (far : List Nat) : Bool := decide ((wdt far : Int) = wd) && (decide (loN far = 0) && decide ((hiN far : Int) ≤ 9223372036854775807 - l))
/-- The distances that stand behind the width at place a. -/
def secE (bs : List Nat) (a n : Nat) : Int := unpE (pk 8 (bs.drop (a + 1))) (bs.length - (a + 1)) (bs.getD a 0 : Nat) n
def secL (bs : List Nat) (a n : Nat) : List Nat := unpL (pk 8 (bs.drop (a + 1))) (bs.length - (a + 1)) (bs.getD a 0 : Nat) n
def above (l : Int) (far : List Nat) : List Int := far.map fun x : Nat => l + (x : Int)
theorem above_len (l : Int) (far : List Nat) : (above l far).length = far.length := by simp [above]
def decTail (bs : List Nat) (l : Int) (a n : Nat) : List Int × Int :=
  if a = bs.length then ([], 2) else if 64 < bs.getD a 0 then ([], 5) else if secE bs a n ≠ 0 then ([], secE bs a n) else if onlyF l (bs.getD a 0 : Nat) (secL bs a n) = true then (above l (secL bs a n), 0) else ([], 5)
/-- What decodeSome answers. -/
def decSome (bs : List Nat) (a : Int) (n : Nat) : List Int × Int :=
  if (vget bs a).2.2 ≠ 0 then ([], (vget bs a).2.2) else decTail bs (unfS (vget bs a).1) (vget bs a).2.1.toNat n
def decode9 (bs : List Nat) : List Int × Int :=
  if (vget bs 0).2.2 ≠ 0 then ([], (vget bs 0).2.2) else if 4096 < (vget bs 0).1 then ([], 4) else
  if (vget bs 0).1 = 0 then (if (vget bs 0).2.1 < (bs.length : Int) then ([], 3) else ([], 0)) else decSome bs (vget bs 0).2.1 (vget bs 0).1
def Dec9Post (R : List Int × Int) (w : World) (e : Ending) (w' : World) : Prop :=
  ∃ A' c', e = .returned (.tuple #[.slice A' R.1.length c', .int .i64 R.2]) ∧ OwnG shZ 2 w' w.heap.size A' c' R.1 ∧ Ext w w'

theorem Rd.dropAt {w : World} {b o n k : Nat} {bs : List Nat} (h : Rd .u8 w (some ⟨b, o, none⟩) n bs) (hk : k ≤ n) : Rd .u8 w (some ⟨b, o + k, none⟩) (n - k) (bs.drop k) := by
  refine ⟨by rw [List.length_drop, h.1], fun hn => ?_⟩
  obtain ⟨b', o', e, hb, hc⟩ := h.2 (by omega)
  injection e with e
  injection e with e1 e2
  subst e1 e2
  refine ⟨b, o + k, rfl, hb, fun j hj => ?_⟩
  have := hc (k + j) (by omega)
  rw [Nat.add_assoc, this]
  simp [List.getD, List.getElem?_drop]

theorem loN_u64 {xs : List Nat} (h : U64 xs) : loN xs < 18446744073709551616 := by
  cases xs with
  | nil => show 0 < _; omega
  | cons x r =>
    have : ∀ (r : List Nat) (x : Nat), r.foldl min x ≤ x := by
      intro r
      induction r with
      | nil => intro x; exact Nat.le_refl _
      | cons y r ih => intro x; have := ih (min x y); rw [List.foldl_cons]; omega
    have h1 := this r x
    have h2 := h x (by simp)
    show r.foldl min x < _
    omega
theorem hiN_u64 {xs : List Nat} (h : U64 xs) : hiN xs < 18446744073709551616 := by
  cases xs with
  | nil => show 0 < _; omega
  | cons x r =>
    have : ∀ (r : List Nat) (x : Nat), x < 18446744073709551616 → (∀ y ∈ r, y < 18446744073709551616) → r.foldl max x < 18446744073709551616 := by
      intro r
      induction r with
      | nil => intro x hx _; exact hx
      | cons y r ih => intro x hx hr; exact ih _ (by have := hr y (by simp); omega) (fun z hz => hr z (by simp [hz]))
    exact this r x (h x (by simp)) (fun y hy => h y (by simp [hy]))

theorem wrap_room {l : Int} (hl : R64 l) : IntKind.u64.wrap (9223372036854775807 - IntKind.u64.wrap l) = 9223372036854775807 - l := by
  simp only [IntKind.wrap_u64]
  unfold R64 at hl
  omega
theorem wrap_above {l : Int} {x : Nat} (hl : R64 l) (h : (x : Int) ≤ 9223372036854775807 - l) : IntKind.i64.wrap (IntKind.u64.wrap (IntKind.u64.wrap l + (x : Int))) = l + (x : Int) := by
  simp only [IntKind.wrap_u64, IntKind.wrap_i64]
  unfold R64 at hl
  omega

set_option maxHeartbeats 1600000 in
theorem isOnly_any (l wd : Int) (A : Option Addr) (n c : Nat) (far : List Nat) (w : World) (hl : R64 l) (hx : Rd .u64 w A n far) (hu : U64 far) (hp : 0 < n) (hn : n ≤ 140737488355328) :
    Calls Try.prog 73 #[.int .i64 l, .int .i64 wd, .slice A n c] w fun e w' => e = .returned (.bool (onlyF l wd far)) ∧ w = w' := by
  have hw := wrap_room hl
  obtain ⟨R, hR⟩ : ∃ R, R = onlyF l wd far := ⟨_, rfl⟩
  rw [← hR]
  unfold onlyF at hR
  have h1 : Hid (Calls Try.prog 53 #[.slice A n c] w fun e w' => e = .returned (.int .i64 (wdt far)) ∧ w = w') := Lib.hid (width_any A n c far w hx hu hn)
  have h2 : Hid (Calls Try.prog 78 #[.slice A n c] w fun e w' => e = .returned (.int .u64 (loN far : Nat)) ∧ w = w') := Lib.hid (minU_any A n c far w hx hp (by omega))
  have h3 : Hid (Calls Try.prog 79 #[.slice A n c] w fun e w' => e = .returned (.int .u64 (hiN far : Nat)) ∧ w = w') := Lib.hid (maxU_any A n c far w hx hp (by omega))
  obtain ⟨a, ha⟩ : ∃ a, a = wdt far := ⟨_, rfl⟩
  obtain ⟨b, hb⟩ : ∃ b, b = loN far := ⟨_, rfl⟩
  obtain ⟨d, hd⟩ : ∃ d, d = hiN far := ⟨_, rfl⟩
  rw [← ha] at h1 hR
  rw [← hb] at h2 hR
  rw [← hd] at h3 hR
  have HR := Lib.hid hR
  clear hR ha hb hd hx hu hl
  by_cases c1 : (a : Int) = wd
  · have k1 : ((a : Int) == wd) = true := by simpa using c1
    by_cases c2 : b = 0
    · have k2 : ((b : Int) == 0) = true := by simpa using c2
      have HE := Lib.hid (show R = decide ((d : Int) ≤ 9223372036854775807 - l) by rw [HR.out, decide_eq_true c1, decide_eq_true c2]; rfl)
      clear c1 c2
      go_enter Try.func73, Try.ntmps73
      go_wp2_with fail
      refine h1.out.mono ?_
      rintro e w1 ⟨rfl, rfl⟩
      go_wp2_with fail
      refine h2.out.mono ?_
      rintro e w1 ⟨rfl, rfl⟩
      go_wp2_with fail
      refine h3.out.mono ?_
      rintro e w1 ⟨rfl, rfl⟩
      go_wp2_with fail
      go_ret
      exact ⟨by rw [HE.out]; rfl, rfl⟩
    · have k2 : ((b : Int) == 0) = false := by rw [beq_eq_false_iff_ne]; omega
      have HE := Lib.hid (show R = false by rw [HR.out, decide_eq_false c2]; simp)
      clear c1 c2
      go_enter Try.func73, Try.ntmps73
      go_wp2_with fail
      refine h1.out.mono ?_
      rintro e w1 ⟨rfl, rfl⟩
      go_wp2_with fail
      refine h2.out.mono ?_
      rintro e w1 ⟨rfl, rfl⟩
      go_wp2_with fail
      go_ret
      exact ⟨by rw [HE.out]; rfl, rfl⟩
  · have k1 : ((a : Int) == wd) = false := by simpa using c1
    have HE := Lib.hid (show R = false by rw [HR.out, decide_eq_false c1]; rfl)
    clear c1
    go_enter Try.func73, Try.ntmps73
    go_wp2_with fail
    refine h1.out.mono ?_
    rintro e w1 ⟨rfl, rfl⟩
    go_wp2_with fail
    go_ret
    exact ⟨by rw [HE.out]; rfl, rfl⟩

/-- 'make([]int64, n)': n zeros, the call's own. -/
theorem wpList_mkZ {P : Program} {w : World} {ops : Array Oper} {rest : List Oper} {o : Oper} {a : Act} {Q : Exit → Act → World → Prop} (e : TypeId) (hgd : o.guard = none) (l c : Operand) (t : TypeId)
    (hop : o.op = Op.makeSlice t l c) (bytes : Nat) (ht : P.underlying t = some (.slice e)) (hi : (P.info? e).map (fun i => (i.zero, i.size, i.bytes)) = some (some (.int .i64 0), 1, bytes))
    (kl kc : IntKind) {L C : Int} (n : Nat) (hl : a.eval l = .int kl L) (hc : a.eval c = .int kc C) (hL : L = (n : Int)) (hC : C = (n : Int)) (hb : bytes * n ≤ 281474976710656) (hn : n ≤ 9223372036854775807)
    (h : ∀ w', OwnG shZ e w' w.heap.size (some ⟨w.heap.size, 0, none⟩) n (List.replicate n 0) → Ext w w' → wpList P ops Q rest (a.put o.dst (.slice (some ⟨w.heap.size, 0, none⟩) n n)) w') :
    wpList P ops Q (o :: rest) a w := by
  obtain ⟨i, hi0, hz, hsz, hbs⟩ := info_parts hi
  refine wpList_make_full w hgd l c t hop w.heap.size e i (.int .i64 0) 1 ht hi0 hz hsz kl kc L C n hl hc hL hC (by rw [hbs]; exact hb) (by unfold maxLen; omega) (Nat.le_refl _) ?_
  intro w' h1 h2
  refine h w' ?_ ⟨h2.os, h2.tape, h2.output, h2.size, fun j hj => h2.block j hj (by simp)⟩
  unfold OwnG
  have e1 : (madeCells (Value.int .i64 0).cells (n * 1)).toList = List.replicate n (Value.int .i64 0) := by
    rw [Nat.mul_one]; exact toList_madeCells_one _ _
  rw [e1] at h1
  rw [shZ.all]
  simpa [shZ] using h1

theorem set_nextZ {xs : List Int} {n j : Nat} (hl : xs.length = n) (h : j < n) : (xs.take j ++ List.replicate (n - j) 0).set j (xs.getD j 0) = xs.take (j + 1) ++ List.replicate (n - (j + 1)) 0 := by
  have h1 : (xs.take j).length = j := by rw [List.length_take]; omega
  rw [List.set_append_right _ _ (by omega), h1, Nat.sub_self, show n - j = (n - (j + 1)) + 1 from by omega, List.replicate_succ, List.set_cons_zero, take_nextG xs j (x := xs.getD j 0) (by rw [List.getD, List.getElem?_eq_getElem (by omega)]; rfl)]
  simp

theorem secL_len {bs : List Nat} {a n : Nat} (h : secE bs a n = 0) : (secL bs a n).length = n := by
  unfold secL
  rw [unp_ok h, upk_len, Int.toNat_natCast]
theorem secL_u64 (bs : List Nat) (a n : Nat) (h : bs.getD a 0 ≤ 64) : U64 (secL bs a n) := by
  unfold secL unpL
  split
  · rw [Int.toNat_natCast]
    intro v hv
    have := upk_wd _ _ _ v hv
    exact Nat.lt_of_lt_of_le this (Nat.pow_le_pow_right (by omega) h)
  · intro v hv; cases hv

/-- What every distance is below. -/
theorem le_hiN {xs : List Nat} : ∀ x ∈ xs, x ≤ hiN xs := by
  have key : ∀ (r : List Nat) (x : Nat), x ≤ r.foldl max x ∧ ∀ y ∈ r, y ≤ r.foldl max x := by
    intro r
    induction r with
    | nil => intro x; exact ⟨Nat.le_refl _, fun y hy => by cases hy⟩
    | cons z r ih =>
      intro x
      obtain ⟨h1, h2⟩ := ih (max x z)
      refine ⟨by rw [List.foldl_cons]; omega, fun y hy => ?_⟩
      rw [List.foldl_cons]
      rcases List.mem_cons.1 hy with rfl | hy
      · omega
      · exact h2 y hy
  cases xs with
  | nil => intro x hx; cases hx
  | cons z r =>
    intro x hx
    rcases List.mem_cons.1 hx with rfl | hx
    · exact (key r x).1
    · exact (key r z).2 x hx

end Go.Proofs.Ytoefhblojoaikaa
