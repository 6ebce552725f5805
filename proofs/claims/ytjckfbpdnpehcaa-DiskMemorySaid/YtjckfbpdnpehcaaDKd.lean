/-
  Layer 14: what a step leaves, as a function of the disk's state; a file taken out of the directory.
-/
import Derived.Deep.RegionHeld3
import Derived.Test.YtjckfbpdnpehcaaDKc
namespace Go.Proofs.Ytjckfbpdnpehcaa
open Go.RowKit Go.Maps Go.WideMaps
set_option maxRecDepth 100000

/-- The next world: outside of X nothing has changed; what is new lies in new blocks. -/
structure Nx (X : Nat → Prop) (w : World) (X' : Nat → Prop) (w' : World) : Prop where
  fr : FrX X w w'
  up : ∀ q, X q → X' q
  new : ∀ q, X' q → X q ∨ w.heap.size ≤ q
theorem Nx.refl (X : Nat → Prop) (w : World) : Nx X w X w := ⟨FrX.refl X w, fun _ h => h, fun _ h => .inl h⟩
theorem Nx.trans {X Y Z : Nat → Prop} {a b c : World} (h : Nx X a Y b) (k : Nx Y b Z c) : Nx X a Z c where
  fr := ⟨k.fr.os.trans h.fr.os, k.fr.tape.trans h.fr.tape, k.fr.output.trans h.fr.output, Nat.le_trans h.fr.size k.fr.size, fun i hi hx => (k.fr.block i (Nat.lt_of_lt_of_le hi h.fr.size) (fun q => by
    rcases h.new i q with r | r
    · exact hx r
    · omega)).trans (h.fr.block i hi hx)⟩
  up := fun q hq => k.up q (h.up q hq)
  new := fun q hq => by
    rcases k.new q hq with r | r
    · exact h.new q r
    · exact .inr (Nat.le_trans h.fr.size r)
theorem Nx.of_ext {X : Nat → Prop} {a b : World} (h : Ext a b) : Nx X a X b := ⟨h.frX X, fun _ h => h, fun _ h => .inl h⟩
theorem Nx.of_fr {X : Nat → Prop} {a b : World} (h : FrX X a b) : Nx X a X b := ⟨h, fun _ h => h, fun _ h => .inl h⟩
theorem Nx.of_grown {X : Nat → Prop} {g : Nat} {a b : World} (h : a.grownBy b (some g)) (hg : X g) : Nx X a X b := Nx.of_fr (grownBy_frX h (.inl hg))
theorem Nx.ext {X X' : Nat → Prop} {a b c : World} (h : Nx X a X' b) (k : Ext b c) : Nx X a X' c := h.trans (Nx.of_ext k)
/-- New blocks, joined. -/
theorem Nx.wide {X : Nat → Prop} {a b : World} (h : FrX X a b) : Nx X a (fun q => X q ∨ (a.heap.size ≤ q ∧ q < b.heap.size)) b := ⟨h, fun _ h => .inl h, fun q hq => by rcases hq with r | r; exact .inl r; exact .inr r.1⟩

/-- One step under its fate. -/
def fated (S : DS) (f : DS → Int × DS) (g : DS → Int → DS) : Int × DS :=
  if S.on = false then (140, S) else
  if (S.plan (S.steps + 1)).2.1 = 1 then (141, { S with steps := S.steps + 1 }) else
  if (S.plan (S.steps + 1)).2.1 = 2 then (142, g { S with steps := S.steps + 1 } (S.plan (S.steps + 1)).2.2) else
  if (S.plan (S.steps + 1)).2.1 = 3 then (140, { S with steps := S.steps + 1, on := false }) else
  if (S.plan (S.steps + 1)).2.1 = 4 then (140, { (f { S with steps := S.steps + 1 }).2 with on := false }) else
  f { S with steps := S.steps + 1 }

section
variable {w w' : World} {X : Nat → Prop} {base dp : Nat} {S : DS} {I : DI}
/-- What the two closures of a step leave. -/
def PostF (X : Nat → Prop) (f : Nat → DS → Int × DS) (S1 : DS) (w1 : World) (r : Int) (X' : Nat → Prop) (S' : DS) (_ : DI) (w' : World) : Prop := ∃ k, w1.heap.size ≤ k ∧ (r, S') = f k S1 ∧ Nx X w1 X' w'
def PostG (X : Nat → Prop) (g : DS → Int → DS) (S1 : DS) (w1 : World) (n : Int) (X' : Nat → Prop) (S' : DS) (_ : DI) (w' : World) : Prop := S' = g S1 n ∧ Nx X w1 X' w'
theorem StepR.fated {f : Nat → DS → Int × DS} {g : DS → Int → DS} {r : Int} (h : DK w X base dp S I) (hr : StepR w X base dp S I (PostF X f { S with steps := S.steps + 1 }) (PostG X g { S with steps := S.steps + 1 }) r w') :
    ∃ X' S' I' k, DK w' X' base dp S' I' ∧ w.heap.size ≤ k ∧ (r, S') = Go.Proofs.Ytjckfbpdnpehcaa.fated S (f k) g ∧ Nx X w X' w' := by
  unfold Go.Proofs.Ytjckfbpdnpehcaa.fated
  rcases hr with ⟨h1, rfl, rfl⟩ | ⟨h1, w1, h2, h3, hr⟩
  · exact ⟨X, S, I, _, h, Nat.le_refl _, by rw [if_pos h1], Nx.refl X _⟩
  have n1 : Nx X w X w1 := Nx.of_fr ⟨h2.os, h2.tape, h2.output, h2.size, fun i hi hx => h2.block i hi (fun e => hx (by rw [e]; exact h.xs.1))⟩
  rcases hr with ⟨q, rfl, rfl⟩ | ⟨q, rfl, X', S', I', hd, rfl, hn⟩ | ⟨q, rfl, rfl⟩ | ⟨q, rfl, r0, X', S', I', w2, hd, ⟨k, hk, he, hn⟩, rfl⟩ | ⟨q1, q2, q3, q4, X', S', I', hd, ⟨k, hk, he, hn⟩⟩
  · exact ⟨X, _, I, w.heap.size, h3, Nat.le_refl _, by rw [if_neg (by rw [h1]; decide), if_pos q], n1⟩
  · exact ⟨X', _, I', w.heap.size, hd, Nat.le_refl _, by rw [if_neg (by rw [h1]; decide), if_neg (by rw [q]; decide), if_pos q], n1.trans hn⟩
  · exact ⟨X, _, I, w.heap.size, h3.off, Nat.le_refl _, by rw [if_neg (by rw [h1]; decide), if_neg (by rw [q]; decide), if_neg (by rw [q]; decide), if_pos q], n1.trans (Nx.of_grown (setCell_grown w1 ⟨dp, 6, none⟩ _) h.xs.1)⟩
  · refine ⟨X', _, I', k, hd.off, Nat.le_trans h2.size hk, ?_, (n1.trans hn).trans (Nx.of_grown (setCell_grown w2 ⟨dp, 6, none⟩ _) (hn.up _ h.xs.1))⟩
    rw [if_neg (by rw [h1]; decide), if_neg (by rw [q]; decide), if_neg (by rw [q]; decide), if_neg (by rw [q]; decide), if_pos q, ← he]
  · exact ⟨X', S', I', k, hd, Nat.le_trans h2.size hk, by rw [if_neg (by rw [h1]; decide), if_neg q1, if_neg q2, if_neg q3, if_neg q4, ← he], n1.trans hn⟩

def doRemove (x : List UInt8) (S : DS) : Int × DS := if (lkp S.files x).isSome then (0, { S with files := delD S.files x, chs := S.chs ++ [.rm x] }) else (143, S)

set_option maxHeartbeats 4000000 in
theorem remove1_some {q qn : Nat} (h : DK w X base dp S I) (x : List UInt8) (p : Nat) (hq : Bx w q dp) (hn : Bn w qn x) (nq : ¬ X q) (nn : ¬ X qn) (hl : lkp S.files x = some p) (hc : S.chs.length < 10000000000000) : Calls Try.prog 87 #[.pointer (some ⟨q, 0, none⟩), .pointer (some ⟨qn, 0, none⟩)] w fun e w' => e = .returned (.int .i64 0) ∧ ∃ X' I', DK w' X' base dp { S with files := delD S.files x, chs := S.chs ++ [.rm x] } I' ∧ Nx X w X' w' := by
  obtain ⟨hx, _⟩ := h.idF x p hl
  have hx4 : x.length ≤ 140737488355328 := by omega
  have c1 : w.cell? ⟨q, 0, none⟩ = some (.pointer (some ⟨dp, 0, none⟩)) := cell_of_row w q 0 _ _ (0, 0) hq
  have c2 : w.cell? ⟨qn, 0, none⟩ = some (nm x) := cell_of_row w qn 0 _ _ (0, 0) hn
  obtain ⟨d0, d1, d2, d3, d4, d5, d6⟩ := h.at_
  have lk := h.drew.dF.look (x := x) (by unfold maxLen; omega)
  rw [hl] at lk
  replace lk : (Instr.lookup 84 (.map (some I.F)) (nm x) false).run Try.prog w.drew = .ok (.pointer (some ⟨p, 0, none⟩)) w.drew := lk
  have Hd := Lib.hid h.drew
  have hid : Hid (∀ y r, lkp (apD S.files (.rm x)) y = some r → y.length ≤ 40 ∧ ∃ f, (r, f) ∈ S.fl) := Lib.hid (fun y r hr => by
    rw [show apD S.files (.rm x) = delD S.files x from rfl, lkp_del h.dF.asc] at hr
    split at hr
    · cases hr
    · exact h.idF y r hr)
  have h4 : Hid ((apD S.files (.rm x)).length ≤ 400) := Lib.hid (by have := len_del h.dF.asc x; have := h.few; unfold apD; simp only; omega)
  have HC : Hid (∀ W, FrX X w W → W.cell? ⟨q, 0, none⟩ = some (.pointer (some ⟨dp, 0, none⟩)) ∧ W.cell? ⟨qn, 0, none⟩ = some (nm x)) := Lib.hid (fun W hW =>
    ⟨cell_of_row W q 0 _ _ (0, 0) ((hW.block q (Array.getElem?_eq_some_iff.1 hq).1 nq).trans hq), cell_of_row W qn 0 _ _ (0, 0) ((hW.block qn (Array.getElem?_eq_some_iff.1 hn).1 nn).trans hn)⟩)
  clear h hq hn d0 d2 d3 d4 d5 d6
  go_enter Try.func87, Try.ntmps87
  go_wp2_with fail
  go_region
  all_goals
    obtain ⟨V, hV⟩ : ∃ V, V = w.drew := ⟨_, rfl⟩
    have HD : Hid (DK V X base dp S I) := Lib.hid (by rw [hV]; exact Hd.out)
    have HV : Hid (Ext w V) := Lib.hid (by rw [hV]; exact (Ext.refl w).drew)
    obtain ⟨k1, k2⟩ := HC.out V (HV.out.frX X)
    rw [← hV]
    clear hV c1 c2 d1 lk
    go_wp2_with fail
    go_region_held3 (fun W => W.cell? ⟨q, 0, none⟩ = some (.pointer (some ⟨dp, 0, none⟩)) ∧ W.cell? ⟨qn, 0, none⟩ = some (nm x))
      (first | exact ⟨k1, k2⟩ | exact HC.out _ H2.out.fr | exact HC.out _ (H1.out.frX X) | fail)
      (first
        | (go_at_call 88; refine (removed_lit x _ hx4).mono ?_; rintro e w1 ⟨bx, rfl, hk, hnew, h1⟩; have H1 : Hid (Ext w w1) := Lib.hid (HV.out.trans ⟨h1.os, h1.tape, h1.output, h1.size, h1.block⟩); have D1 := Lib.hid (HD.out.grow (w' := w1) ⟨h1.os, h1.tape, h1.output, h1.size, h1.block⟩); have HK := Lib.hid hk; have HN : Hid (V.heap.size ≤ bx) := Lib.hid hnew; have HX1 : Hid (Ext V w1) := Lib.hid ⟨h1.os, h1.tape, h1.output, h1.size, h1.block⟩; clear h1 hk hnew)
        | (go_at_call 47; refine (alter_rm D1.out HK.out (.inr ⟨HN.out, HK.out.lt bx rfl⟩) hx hid.out h4.out hc).mono ?_; rintro e w2 ⟨rfl, A, c, d2, f2⟩; have D2 := Lib.hid d2; have H2 : Hid (Nx X w (fun q => (X q ∨ (V.heap.size ≤ q ∧ q < w1.heap.size)) ∨ (w1.heap.size ≤ q ∧ q < w2.heap.size)) w2) := Lib.hid ((Nx.of_ext HV.out).trans ((Nx.wide (HX1.out.frX X)).trans (Nx.wide f2))); clear d2 f2)
        | fail)
    all_goals
      go_wp2
      go_ret
      exact ⟨rfl, _, _, D2.out, H2.out⟩

theorem remove1_any {q qn : Nat} (h : DK w X base dp S I) (x : List UInt8) (hx : x.length ≤ 140737488355328) (hq : Bx w q dp) (hn : Bn w qn x) (nq : ¬ X q) (nn : ¬ X qn) (hc : S.chs.length < 10000000000000) : Calls Try.prog 87 #[.pointer (some ⟨q, 0, none⟩), .pointer (some ⟨qn, 0, none⟩)] w fun e w' => ∃ r X' S' I', e = .returned (.int .i64 r) ∧ DK w' X' base dp S' I' ∧ PostF X (fun _ => doRemove x) S w r X' S' I' w' := by
  cases hl : lkp S.files x with
  | none => exact (remove1_none h x hx hq hn hl).mono (by rintro e w' ⟨rfl, rfl⟩; exact ⟨143, X, S, I, rfl, h.drew, _, Nat.le_refl _, by simp [doRemove, hl], Nx.of_ext (Ext.refl w).drew⟩)
  | some p => exact (remove1_some h x p hq hn nq nn hl hc).mono (by rintro e w' ⟨rfl, X', I', h1, h2⟩; exact ⟨0, X', _, I', rfl, h1, _, Nat.le_refl _, by simp [doRemove, hl], h2⟩)

/-- What a step is to leave. -/
def Stepped (w : World) (X : Nat → Prop) (base dp : Nat) (S : DS) (f : Nat → DS → Int × DS) (g : DS → Int → DS) (r : Int) (w' : World) : Prop := ∃ X' S' I' k, DK w' X' base dp S' I' ∧ w.heap.size ≤ k ∧ (r, S') = fated S (f k) g ∧ Nx X w X' w'
theorem Stepped.of {f : Nat → DS → Int × DS} {g : DS → Int → DS} {r : Int} {W : World} (h : DK W X base dp S I) (he : Ext w W) (hr : StepR W X base dp S I (PostF X f { S with steps := S.steps + 1 }) (PostG X g { S with steps := S.steps + 1 }) r w') : Stepped w X base dp S f g r w' := by
  obtain ⟨X', S', I', k, h1, h2, h3, h4⟩ := hr.fated h
  exact ⟨X', S', I', k, h1, Nat.le_trans he.size h2, h3, (Nx.of_ext he).trans h4⟩

theorem boxes2 (w : World) (dp : Nat) (x : List UInt8) : Bx ((w.alloc (.cells #[.pointer (some ⟨dp, 0, none⟩)] 26)).alloc (.cells #[nm x] 9)) w.heap.size dp ∧ Bn ((w.alloc (.cells #[.pointer (some ⟨dp, 0, none⟩)] 26)).alloc (.cells #[nm x] 9)) (w.heap.size + 1) x := by
  refine ⟨(heap_alloc_old _ _ (by simp)).trans (heap_alloc_new w _), ?_⟩
  have q := heap_alloc_new (w.alloc (.cells #[.pointer (some ⟨dp, 0, none⟩)] 26)) (.cells #[nm x] 9)
  simpa [Bn] using q

theorem Stepped.ofStep {f : Nat → DS → Int × DS} {r : Int} {W : World} (h : DK W X base dp S I) (he : Ext w W) (hr : StepR W X base dp S I (PostF X f { S with steps := S.steps + 1 }) (fun w1 _ X' S' I' w' => w' = w1 ∧ X' = X ∧ S' = { S with steps := S.steps + 1 } ∧ I' = I) r w') : Stepped w X base dp S f (fun S _ => S) r w' := by
  refine Stepped.of h he ?_
  rcases hr with q | ⟨q0, w1, q1, q2, q3⟩
  · exact .inl q
  · refine .inr ⟨q0, w1, q1, q2, ?_⟩
    rcases q3 with q | ⟨q4, q5, X', S', I', q6, rfl, rfl, rfl, rfl⟩ | q
    · exact .inl q
    · exact .inr (.inl ⟨q4, q5, _, _, _, q6, rfl, Nx.refl _ _⟩)
    · exact .inr (.inr q)

theorem remove_any (h : DK w X base dp S I) (hs : 0 ≤ S.steps ∧ S.steps < 1000000000000000) (x : List UInt8) (hx : x.length ≤ 140737488355328) (hc : S.chs.length < 10000000000000) : Calls Try.prog 69 #[.pointer (some ⟨dp, 0, none⟩), nm x] w fun e w' => ∃ r, e = .returned (.int .i64 r) ∧ Stepped w X base dp S (fun _ => doRemove x) (fun S _ => S) r w' := by
  obtain ⟨B1, B2⟩ := boxes2 w dp x
  have nX : ∀ q, w.heap.size ≤ q → ¬ X q := fun q hq hX => by have := (h.bd q hX).2; omega
  have E : Ext w ((w.alloc (.cells #[.pointer (some ⟨dp, 0, none⟩)] 26)).alloc (.cells #[nm x] 9)) := ((Ext.refl w).alloc _).alloc _
  have HW := Lib.hid (h.ext E)
  have HE := Lib.hid E
  have hz : ((w.alloc (.cells #[.pointer (some ⟨dp, 0, none⟩)] 26)).alloc (.cells #[nm x] 9)).heap.size = w.heap.size + 2 := by simp
  have hdp := (h.bd dp h.xs.1).2
  have C := Lib.hid (step_any (R1 := PostF X (fun _ => doRemove x) { S with steps := S.steps + 1 }) (c1 := #[.pointer (some ⟨w.heap.size, 0, none⟩), .pointer (some ⟨w.heap.size + 1, 0, none⟩)]) (h.ext E) hs remove1_call (fun w1 f1 d1 =>
    remove1_any d1 x hx ((f1.block w.heap.size (by rw [hz]; omega) (fun e => by omega)).trans B1) ((f1.block (w.heap.size + 1) (by rw [hz]; omega) (fun e => by omega)).trans B2) (nX _ (by omega)) (nX _ (by omega)) hc))
  clear h hs B1 B2 nX E hz hdp
  go_enter Try.func69, Try.ntmps69
  go_wp2_with fail
  refine C.out.mono ?_
  rintro e w' ⟨r, rfl, h1⟩
  have H1 := Lib.hid h1
  clear h1
  go_wp2
  go_ret
  exact ⟨r, rfl, Stepped.ofStep HW.out HE.out H1.out⟩
end

end Go.Proofs.Ytjckfbpdnpehcaa
