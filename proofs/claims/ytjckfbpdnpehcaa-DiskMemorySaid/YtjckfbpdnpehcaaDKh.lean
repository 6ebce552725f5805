/-
  Layer 14: the bytes of all files.
-/
import Derived.Maps.RangeWalk
import Derived.Sort.KeysCollected
import Derived.Test.YtjckfbpdnpehcaaDKg
namespace Go.Proofs.Ytjckfbpdnpehcaa
open Go.RowKit Go.Maps Go.WideMaps Go.Sort
set_option maxRecDepth 100000

section
variable {w : World} {ops : Array Oper} {rest : List Oper} {o : Oper} {a : Act} {Q : Exit → Act → World → Prop}
/-- 'for name, f := range dir': the step. -/
theorem wpList_dirNext (hg : o.guard = none) (it : Operand) (hop : o.op = Op.next it false) (b r : Nat) {d : Dir} {D : DataW Nat} (hD : DM D d) (left : Lit → Bool) (cnt : Nat) (hit : a.eval it = .pointer (some ⟨r, 0, none⟩)) (h : w.ranges Try.prog 9 ptrR b r d.length D left cnt) (hl : ∀ x, left (.string x) = true → (lkp d x).isSome = true)
    (hDone : cnt = 0 → (∀ kl, left kl = false) → wpList Try.prog ops Q rest (a.put o.dst (.tuple #[.bool false])) w)
    (hMore : ∀ (x : List UInt8) (q : Nat) (w' : World) (cnt' : Nat), lkp d x = some q → x.length ≤ maxLen → left (.string x) = true → w'.ranges Try.prog 9 ptrR b r d.length D (fun z => left z && !z.sameKey (.string x)) cnt' → cnt' < cnt →
      w.grownBy w' (some r) → w'.heap.size = w.heap.size → (Instr.entry (.pointer (some ⟨r, 0, none⟩))).run Try.prog w' = .ok (.tuple #[nm x, .pointer (some ⟨q, 0, none⟩)]) w' → wpList Try.prog ops Q rest (a.put o.dst (.tuple #[.bool true, nm x, .pointer (some ⟨q, 0, none⟩)])) w') :
    wpList Try.prog ops Q (o :: rest) a w :=
  wpList_next_ranges w hg it hop 9 (string_keyed Try.underlying9) ptrR (fun x : List UInt8 => nm x) ptrV (fun key kl hk => by obtain ⟨x, h1, h2, _⟩ := Maps.keyOf_str Try.underlying9 hk; exact ⟨x, h1⟩) (fun v y hv => by obtain ⟨d, ps⟩ := y; obtain ⟨p, rfl, _⟩ := ptrR_inv hv; exact ⟨p, rfl⟩)
    b r d.length D left cnt hit h hDone (fun x c kl y w' cnt' hkey hlk hv hat hrg hlt hgr hsz hen => by
      obtain ⟨x', h1, h2, h3⟩ := Maps.keyOf_str Try.underlying9 hkey
      have h1 : nm x = nm x' := h1
      have hx : x = x' := by simpa using h1
      subst hx
      subst h2
      have h4 := hat .nil
      rw [hD.at_] at h4
      rw [ptrR_V] at hv
      injection hv with hv
      rw [← hv] at h4
      have h5 : lkp d x = c := ptrD_inj h4
      have h6 := hl x hlk
      rw [h5] at h6
      cases c with
      | none => cases h6
      | some q => exact hMore x q w' cnt' h5 h3 hlk hrg hlt hgr hsz hen)
end

theorem sameKey_str {x y : List UInt8} : (Lit.string y).sameKey (.string x) = decide (y = x) := by
  by_cases h : y = x
  · subst h; simp [Lit.sameKey]
  · rw [Maps.sameKey_ne (lit_ne h), decide_eq_false h]

theorem sum_step {d : Dir} (ha : AscD d) {left : Lit → Bool} {x : List UInt8} {q : Nat} (hl : lkp d x = some q) (hx : left (.string x) = true) (g : Nat → Nat) :
    ((d.filter fun e => !(left (.string e.1) && !(Lit.string e.1).sameKey (.string x))).map fun e => g e.2).sum = ((d.filter fun e => !left (.string e.1)).map fun e => g e.2).sum + g q := by
  induction d with
  | nil => cases hl
  | cons e r ih =>
    obtain ⟨y, p⟩ := e
    have ha2 := List.pairwise_cons.1 ha
    by_cases h : y = x
    · subst h
      have hq : p = q := by simp [lkp] at hl; exact hl
      subst hq
      have hr : ∀ e ∈ r, e.1 ≠ y := fun e he h2 => absurd (ha2.1 e he) (by rw [h2]; exact List.lt_irrefl _)
      have e1 : (r.filter fun e => !(left (.string e.1) && !(Lit.string e.1).sameKey (.string y))) = r.filter fun e => !left (.string e.1) := List.filter_congr fun e he => by rw [sameKey_str, decide_eq_false (hr e he)]; simp
      rw [List.filter_cons, List.filter_cons, if_pos (by rw [sameKey_str]; simp), if_neg (by simp [hx]), e1]
      simp
      omega
    · have h2 : lkp r x = some q := by simpa [lkp, h] using hl
      have ih := ih ha2.2 h2
      rw [List.filter_cons, List.filter_cons]
      have e1 : (!(left (.string y) && !(Lit.string y).sameKey (.string x))) = !left (.string y) := by rw [sameKey_str, decide_eq_false h]; simp
      simp only [e1]
      split
      · simp only [List.map_cons, List.sum_cons]; omega
      · exact ih

/-- A file's bytes by its number; of all files. -/
def lenF (S : DS) (q : Nat) : Nat := ((S.fl.find? fun e => decide (e.1 = q)).map fun e => e.2.data.length).getD 0
def usedD (S : DS) : Nat := (S.files.map fun e => lenF S e.2).sum
theorem lenF_mem {S : DS} (h : S.fl.Pairwise fun (a b : Nat × FS) => a.1 ≠ b.1) {q : Nat} {f : FS} (hf : (q, f) ∈ S.fl) : lenF S q = f.data.length := by
  unfold lenF
  cases hq : S.fl.find? fun e => decide (e.1 = q) with
  | none => exact absurd hf (by have := List.find?_eq_none.1 hq (q, f); simp at this; exact this)
  | some e =>
    obtain ⟨p, f'⟩ := e
    have h1 : p = q := by simpa using List.find?_some hq
    subst h1
    rw [one_of h hf (List.mem_of_find?_eq_some hq)]
    rfl
/-- What bounds a disk. -/
structure Fit (S : DS) (m : Nat) : Prop where
  room : 0 ≤ S.room ∧ S.room ≤ 16777216
  len : ∀ q f, (q, f) ∈ S.fl → f.data.length ≤ m
theorem lenF_le {S : DS} {m : Nat} (h : Fit S m) (q : Nat) : lenF S q ≤ m := by
  unfold lenF
  cases hq : S.fl.find? fun e => decide (e.1 = q) with
  | none => exact Nat.zero_le _
  | some e => exact h.len e.1 e.2 (List.mem_of_find?_eq_some hq)
theorem sum_le {d : Dir} {g : Nat → Nat} {m : Nat} (h : ∀ q, g q ≤ m) : (d.map fun e => g e.2).sum ≤ d.length * m := by
  induction d with
  | nil => simp
  | cons e r ih => simp only [List.map_cons, List.sum_cons, List.length_cons, Nat.add_mul]; have := h e.2; omega

section
variable {w w' : World} {X : Nat → Prop} {base dp : Nat} {S : DS} {I : DI}
set_option maxHeartbeats 1600000 in
theorem used_any (h : DK w X base dp S I) (hf : Fit S 140737488355328) : Calls Try.prog 80 #[.pointer (some ⟨dp, 0, none⟩)] w fun e w' => e = .returned (.int .i64 (usedD S : Int)) ∧ Ext w w' := by
  obtain ⟨c0, c1, c2, c3, c4, c5, c6⟩ := h.at_
  obtain ⟨D, hown, hD⟩ := h.dF
  have hsum : ∀ left : Lit → Bool, ((S.files.filter fun e => !left (.string e.1)).map fun e => lenF S e.2).sum ≤ 400 * 140737488355328 := fun left => Nat.le_trans (sum_le (fun q => lenF_le hf q)) (Nat.mul_le_mul_right _ (Nat.le_trans (List.length_filter_le _ _) h.few))
  have Hs := Lib.hid hsum
  have HD := Lib.hid hD
  have Hd := Lib.hid h
  have hF := (h.bd I.F h.xs.2.1).2
  have HF := Lib.hid hF
  clear h hD c0 c2 c3 c4 c5 c6 hf hsum hF
  go_enter Try.func80, Try.ntmps80
  go_wp2_with (first
    | (at_range; refine wpList_range_own _ rfl _ 84 rfl 9 94 (string_keyed Try.underlying9) Try.underlying84 ptrR I.F S.files.length _ rfl hown ?_; intro w0 hrg0 hg0 hs0)
    | go_in)
  go_frame
  go_loopw [3] (fun v wr => ∃ (left : Lit → Bool) (cnt : Nat) (n : Nat), v = .int .i64 (n : Int) ∧ wr.ranges Try.prog 9 ptrR I.F w.heap.size S.files.length D left cnt ∧ w.grownBy wr none ∧
      Hid (n = ((S.files.filter fun e => !left (.string e.1)).map fun e => lenF S e.2).sum) ∧ Hid (∀ x, left (.string x) = true → (lkp S.files x).isSome = true)) (fun _ wr => wr.rangeLeft I.F w.heap.size)
  case atStart => exact ⟨_, _, 0, rfl, hrg0, hg0, Lib.hid (by
      have e : (S.files.filter fun e => !Maps.has D (.string e.1)) = [] := List.filter_eq_nil_iff.2 fun e he => by
        rw [HD.out.has, (lkp_mem HD.out.asc (x := e.1) (q := e.2)).2 he]; simp
      rw [e]; rfl), Lib.hid fun x hx => by rw [← HD.out.has]; exact hx⟩
  case round =>
    obtain ⟨left, cnt, n, rfl, hrg, hgw, HI, HL⟩ := hrel
    go_wp2_with (first
      | (at_next; refine wpList_dirNext rfl _ rfl I.F w.heap.size HD.out _ _ rfl hrg HL.out ?_ ?_)
      | go_in)
    · intro _ hl0
      go_wp2
      go_ret
      refine ⟨?_, hgw.os, hgw.tape, hgw.output, hgw.size, fun i hi => hgw.block i hi (by simp)⟩
      have e : (S.files.filter fun e => !left (.string e.1)) = S.files := List.filter_eq_self.2 fun e _ => by rw [hl0]; rfl
      rw [HI.out, e]
      rfl
    · intro x q w1 cnt1 hlx hx hleft hrg1 hlt hg1 hs1 hen
      have hgw1 := hgw.andThen hg1 (fun j hj => by cases hj; exact Or.inl (Nat.le_refl _))
      obtain ⟨_, f, hf⟩ := Hd.out.idF x q hlx
      obtain ⟨k1, k2, k3⟩ := Hd.out.fil q f hf
      have hb := (hgw1.block q (Hd.out.bd q k2).2 (by simp)).trans k1.blk
      have e0 : w1.cell? ⟨q, 0, none⟩ = some (.slice (I.rows q) f.data.length (I.caps q)) := cell_of_row w1 q 0 _ _ (0, 0) hb
      have hlen := lenF_mem Hd.out.nd hf
      have hn := sum_step HD.out.asc hlx hleft (lenF S)
      rw [hlen] at hn
      have hn2 := Hs.out (fun z => left z && !z.sameKey (.string x))
      rw [hn, ← HI.out] at hn2
      obtain ⟨m, hm⟩ : ∃ m, m = f.data.length := ⟨_, rfl⟩
      rw [← hm] at e0 hn2 hn
      rw [← HI.out] at hn
      have Hn := Lib.hid hn
      have hw : IntKind.i64.wrap ((n : Int) + (m : Int)) = ((n + m : Nat) : Int) := by rw [IntWalk.i64_in _ (by omega)]; omega
      have HLx := Lib.hid hlx
      clear hn hn2 hlen hm hlx hleft hb k1 k2 k3
      go_wp2
      go_roundw
      case rel =>
        refine ⟨_, cnt1, n + m, rfl, hrg1, hgw1, Lib.hid Hn.out.symm, Lib.hid fun y hy => ?_⟩
        simp only [Bool.and_eq_true] at hy
        exact HL.out y hy.1
      case measure => rw [hrg1.left_eq, hrg.left_eq]; exact hlt

theorem left_any (h : DK w X base dp S I) (hf : Fit S 140737488355328) : Calls Try.prog 50 #[.pointer (some ⟨dp, 0, none⟩)] w fun e w' => e = .returned (.int .i64 (S.room - (usedD S : Int))) ∧ Ext w w' := by
  obtain ⟨c0, c1, c2, c3, c4, c5, c6⟩ := h.at_
  have hu : usedD S ≤ 400 * 140737488355328 := Nat.le_trans (sum_le (fun q => lenF_le hf q)) (Nat.mul_le_mul_right _ h.few)
  have hr := hf.room
  have C : ∀ W, Ext w W → Hid (Calls Try.prog 80 #[.pointer (some ⟨dp, 0, none⟩)] W fun e w' => e = .returned (.int .i64 (usedD S : Int)) ∧ Ext W w') := fun W hW => Lib.hid (used_any (h.ext hW) hf)
  have HC : Hid (∀ W, Ext w W → W.cell? ⟨dp, 0, none⟩ = some (.int .i64 S.room)) := Lib.hid (fun W hW => (h.ext hW).at_.1)
  obtain ⟨u, hu2⟩ : ∃ u, u = usedD S := ⟨_, rfl⟩
  rw [← hu2] at C hu
  obtain ⟨r, hr2⟩ : ∃ r, r = S.room := ⟨_, rfl⟩
  rw [← hr2] at HC hr c0
  rw [← hr2, ← hu2]
  have hw : IntKind.i64.wrap (r - (u : Int)) = r - (u : Int) := IntWalk.i64_in _ (by omega)
  clear h hf c1 c2 c3 c4 c5 c6 hu hr hu2 hr2
  go_enter Try.func50, Try.ntmps50
  go_wp2_with fail
  go_region_held3 (fun W => W.cell? ⟨dp, 0, none⟩ = some (.int .i64 r))
    (first | exact c0 | exact HC.out _ he3 | fail)
    (first
      | (go_at_call 80; refine (C _ ?_).out.mono ?_; (first | exact Ext.refl _ | exact (Ext.refl _).drew | exact Ext.of_drewN _ _ | fail); rintro e w3 ⟨rfl, he3'⟩; have he3 : Ext w w3 := ⟨he3'.os, he3'.tape, he3'.output, he3'.size, he3'.block⟩)
      | fail)
  go_wp2_with fail
  go_ret
  exact ⟨rfl, he3⟩
end

end Go.Proofs.Ytjckfbpdnpehcaa
