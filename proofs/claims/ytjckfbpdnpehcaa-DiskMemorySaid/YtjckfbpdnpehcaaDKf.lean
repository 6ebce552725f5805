/-
  Layer 14: a file's bytes made safe.
-/
import Derived.Test.YtjckfbpdnpehcaaDKe
namespace Go.Proofs.Ytjckfbpdnpehcaa
open Go.RowKit Go.Maps Go.WideMaps
set_option maxRecDepth 100000

/-- One file's state, changed. -/
def setF (l : List (Nat × FS)) (q : Nat) (h : FS → FS) : List (Nat × FS) := l.map fun e => if e.1 = q then (e.1, h e.2) else e
theorem mem_setF {l : List (Nat × FS)} {q p : Nat} {g : FS → FS} {f : FS} : (p, f) ∈ setF l q g ↔ (p ≠ q ∧ (p, f) ∈ l) ∨ (p = q ∧ ∃ f0, (p, f0) ∈ l ∧ f = g f0) := by
  unfold setF
  rw [List.mem_map]
  constructor
  · rintro ⟨⟨a, b⟩, h1, h2⟩
    by_cases e : a = q
    · simp only [if_pos e] at h2
      injection h2 with h3 h4
      subst h3
      exact .inr ⟨e, b, h1, h4.symm⟩
    · simp only [if_neg e] at h2
      injection h2 with h3 h4
      subst h3
      subst h4
      exact .inl ⟨e, h1⟩
  · rintro (⟨h1, h2⟩ | ⟨h1, f0, h2, rfl⟩)
    · exact ⟨(p, f), h2, by simp only [if_neg h1]⟩
    · exact ⟨(p, f0), h2, by simp only [if_pos h1]⟩
theorem has_setF {l : List (Nat × FS)} {q p : Nat} {g : FS → FS} (h : ∃ f, (p, f) ∈ l) : ∃ f, (p, f) ∈ setF l q g := by
  obtain ⟨f, h⟩ := h
  by_cases e : p = q
  · exact ⟨g f, mem_setF.2 (.inr ⟨e, f, h, rfl⟩)⟩
  · exact ⟨f, mem_setF.2 (.inl ⟨e, h⟩)⟩
theorem fst_setF (l : List (Nat × FS)) (q : Nat) (g : FS → FS) : (setF l q g).map (·.1) = l.map (·.1) := by
  unfold setF
  rw [List.map_map]
  refine List.map_congr_left fun e _ => ?_
  simp only [Function.comp]
  split <;> rfl
theorem one_of {l : List (Nat × FS)} (h : l.Pairwise fun (a b : Nat × FS) => a.1 ≠ b.1) {q : Nat} {f f' : FS} (h1 : (q, f) ∈ l) (h2 : (q, f') ∈ l) : f = f' := by
  induction l with
  | nil => cases h1
  | cons e r ih =>
    have h3 := List.pairwise_cons.1 h
    rcases List.mem_cons.1 h1 with e1 | h1
    · rcases List.mem_cons.1 h2 with e2 | h2
      · rw [← e1] at e2; injection e2 with _ e2; exact e2.symm
      · exact absurd (by rw [← e1]) (h3.1 _ h2)
    · rcases List.mem_cons.1 h2 with e2 | h2
      · exact absurd (by rw [← e2]) (h3.1 _ h1)
      · exact ih h3.2 h1 h2

section
variable {w w' : World} {X : Nat → Prop} {base dp : Nat} {S : DS} {I : DI}
/-- The disk behind a change of one file: its block, and perhaps its row, are new. -/
theorem DK.filed {X' : Nat → Prop} (h : DK w X base dp S I) {q : Nat} {f0 f1 : FS} (hf : (q, f0) ∈ S.fl) (A : Option Addr) (c : Nat) (hX : ∀ b, X b → X' b) (hbd : ∀ b, X' b → base ≤ b ∧ b < w'.heap.size)
    (hb : ∀ b, X b → b ≠ q → (∀ a, I.rows q = some a → b ≠ a.block) → w'.heap[b]? = w.heap[b]?) (hn : FileR w' base q f1 A c) (hA : ∀ a, A = some a → (∃ a0, I.rows q = some a0 ∧ a.block = a0.block) ∨ (X' a.block ∧ w.heap.size ≤ a.block)) :
    DK w' X' base dp { S with fl := setF S.fl q fun _ => f1 } { I with rows := fun k => if k = q then A else I.rows k, caps := fun k => if k = q then c else I.caps k } := by
  obtain ⟨hq1, hq2, hq3⟩ := h.fil q f0 hf
  obtain ⟨n1, n2, n3, n4⟩ := h.far hq1.blk (by decide) (by decide)
  have rt : ∀ a, I.rows q = some a → ∃ cur, w.heap[a.block]? = some (.cells cur 5 (0, 0)) := hq1.own.ty
  have far : ∀ b, X b → b ≠ q → (∀ cur, w.heap[b]? ≠ some (.cells cur 5 (0, 0))) → w'.heap[b]? = w.heap[b]? := fun b hx h1 h2 => hb b hx h1 (fun a ha e => by obtain ⟨cur, hc⟩ := rt a ha; exact h2 cur (by rw [e]; exact hc))
  have hblk : w'.heap[dp]? = w.heap[dp]? := far dp h.xs.1 (Ne.symm n1) (fun cur e => by rw [h.blk] at e; injection e with e; injection e with _ e; exact absurd e (by decide))
  have mapne : ∀ {b : Nat} {d : Dir}, DirR w b d → ∀ cur, w.heap[b]? ≠ some (.cells cur 5 (0, 0)) := fun hd cur e => by obtain ⟨es, cl, hm⟩ := hd.map; rw [hm] at e; cases e
  refine {
    blk := hblk.trans h.blk
    xs := ⟨hX _ h.xs.1, hX _ h.xs.2.1, hX _ h.xs.2.2⟩
    bd := hbd
    dF := h.dF.blk (far _ h.xs.2.1 (Ne.symm n2) (mapne h.dF))
    dS := h.dS.blk (far _ h.xs.2.2 (Ne.symm n3) (mapne h.dS))
    ne := h.ne
    row := h.row.blk fun a ha => far _ (h.rx a ha) (fun e => n4 a ha e.symm) (fun cur e => by obtain ⟨cur', q'⟩ := h.row.ty a ha; rw [q'] at e; injection e with e; injection e with _ e; exact absurd e (by decide))
    rx := fun a ha => hX _ (h.rx a ha)
    cln := h.cln
    cls := ?_
    fil := ?_
    nd := ?_
    sep := ?_
    idF := fun x p hp => ⟨(h.idF x p hp).1, has_setF (q := q) (g := fun _ => f1) (h.idF x p hp).2⟩
    idS := fun x p hp => ⟨(h.idS x p hp).1, has_setF (q := q) (g := fun _ => f1) (h.idS x p hp).2⟩
    idC := fun x p hp => has_setF (q := q) (g := fun _ => f1) (h.idC x p hp)
    pl := ?_
    few := h.few }
  · intro j c' g h1 h2
    obtain ⟨h5, h6⟩ := h.cls j c' g h1 h2
    refine ⟨h5.blk fun p hp => ?_, fun p hp => hX p (h6 p hp)⟩
    obtain ⟨cur, e, h7, h8⟩ := h5.ty p hp
    refine far p (h6 p hp) ?_ ?_
    · rintro rfl
      rw [hq1.blk] at h7
      injection h7 with h7
      injection h7 with _ h7
      rcases h8 with e8 | e8 <;> rw [← h7] at e8 <;> exact absurd e8 (by decide)
    · intro cur' e'
      rw [h7] at e'
      injection e' with e'
      injection e' with _ e'
      rcases h8 with e8 | e8 <;> rw [e8] at e' <;> exact absurd e' (by decide)
  · intro p f hp
    rcases mem_setF.1 (show (p, f) ∈ setF S.fl q (fun _ => f1) from hp) with ⟨h1, h2⟩ | ⟨h1, f2, h2, rfl⟩
    · obtain ⟨k1, k2, k3⟩ := h.fil p f h2
      simp only [if_neg h1]
      refine ⟨⟨(far p k2 h1 (fun cur e => by rw [k1.blk] at e; injection e with e; injection e with _ e; exact absurd e (by decide))).trans k1.blk, k1.own.blk fun a ha => ?_, k1.u8, k1.le, k1.lq⟩, hX p k2, fun a ha => hX _ (k3 a ha)⟩
      refine hb _ (k3 a ha) (fun e => ?_) (fun a0 ha0 => h.sep p f q f0 a a0 h2 hf ha ha0 h1)
      obtain ⟨cur, hc⟩ := k1.own.ty a ha
      rw [e, hq1.blk] at hc
      injection hc with hc
      injection hc with _ hc
      exact absurd hc (by decide)
    · rw [h1]
      simp only [if_pos]
      refine ⟨hn, hX q hq2, fun a ha => ?_⟩
      rcases hA a ha with ⟨a0, h3, h4⟩ | ⟨h3, _⟩
      · rw [h4]; exact hX _ (hq3 a0 h3)
      · exact h3
  · have := h.nd
    have e1 : ∀ l : List (Nat × FS), (l.Pairwise fun (a b : Nat × FS) => a.1 ≠ b.1) ↔ (l.map (·.1)).Pairwise (· ≠ ·) := fun l => by rw [List.pairwise_map]
    rw [e1] at this ⊢
    rw [fst_setF]
    exact this
  · intro p f p' f' a a' hp hp' ra ra' hne
    have inl : ∀ {k : Nat} {g : FS}, (k, g) ∈ setF S.fl q (fun _ => f1) → k ≠ q → (k, g) ∈ S.fl := fun hm hk => by
      rcases mem_setF.1 hm with ⟨_, h2⟩ | ⟨h1, _⟩
      · exact h2
      · exact absurd h1 hk
    by_cases e : p = q
    · by_cases e' : p' = q
      · exact absurd (e.trans e'.symm) hne
      · simp only [if_pos e] at ra
        simp only [if_neg e'] at ra'
        have hm := inl hp' e'
        rcases hA a ra with ⟨a0, h3, h4⟩ | ⟨_, h3⟩
        · rw [h4]; exact h.sep q f0 p' f' a0 a' hf hm h3 ra' (Ne.symm e')
        · have := (h.bd _ ((h.fil p' f' hm).2.2 a' ra')).2
          omega
    · by_cases e' : p' = q
      · simp only [if_neg e] at ra
        simp only [if_pos e'] at ra'
        have hm := inl hp e
        rcases hA a' ra' with ⟨a0, h3, h4⟩ | ⟨_, h3⟩
        · rw [h4]; exact h.sep p f q f0 a a0 hm hf ra h3 e
        · have := (h.bd _ ((h.fil p f hm).2.2 a ra)).2
          omega
      · simp only [if_neg e] at ra
        simp only [if_neg e'] at ra'
        exact h.sep p f p' f' a a' (inl hp e) (inl hp' e') ra ra' hne
  · refine h.pl.blk hX fun P hP hXP _ _ => ?_
    rcases h.pl with ⟨e1, _⟩ | ⟨P', n, D, e1, _, ⟨es, clock, h3, _⟩, _⟩
    · rw [e1] at hP; cases hP
    · rw [e1] at hP
      injection hP with hP
      injection hP with hP
      subst hP
      refine far P' hXP ?_ (fun cur e => by rw [h3] at e; cases e)
      rintro rfl
      rw [hq1.blk] at h3
      cases h3

def doSync (x : List UInt8) (S : DS) : Int × DS := match lkp S.files x with
  | some q => (0, { S with fl := setF S.fl q fun f => ⟨f.data, f.data.length⟩ })
  | none => (143, S)
theorem setF_one {l : List (Nat × FS)} (h : l.Pairwise fun (a b : Nat × FS) => a.1 ≠ b.1) {q : Nat} {f0 : FS} (hf : (q, f0) ∈ l) (g : FS → FS) : setF l q g = setF l q fun _ => g f0 := by
  unfold setF
  refine List.map_congr_left fun e he => ?_
  split
  · rename_i h1
    have : e.2 = f0 := one_of h (by rw [← h1]; exact he) hf
    rw [this]
  · rfl

theorem sync1_call (args : Array Value) (W : World) : (callFunc 53 args).run Try.prog W = .ok (.enter 53 args) W := by
  have h1 : Try.f53.name ≠ "runtime.NumGoroutine" := by decide
  have h2 : Try.f53.body ≠ none := by intro h; cases h
  simp [callFunc, Try.func53, h1, h2]

set_option maxHeartbeats 1000000 in
theorem sync1_any {q qn : Nat} (h : DK w X base dp S I) (x : List UInt8) (hx : x.length ≤ 140737488355328) (hq : Bx w q dp) (hn : Bn w qn x) (_ : ¬ X q) (_ : ¬ X qn) (_ : S.chs.length < 10000000000000) : Calls Try.prog 53 #[.pointer (some ⟨q, 0, none⟩), .pointer (some ⟨qn, 0, none⟩)] w fun e w' => ∃ r X' S' I', e = .returned (.int .i64 r) ∧ DK w' X' base dp S' I' ∧ PostF X (fun _ => doSync x) S w r X' S' I' w' := by
  have c1 : w.cell? ⟨q, 0, none⟩ = some (.pointer (some ⟨dp, 0, none⟩)) := cell_of_row w q 0 _ _ (0, 0) hq
  have c2 : w.cell? ⟨qn, 0, none⟩ = some (nm x) := cell_of_row w qn 0 _ _ (0, 0) hn
  obtain ⟨d0, d1, d2, d3, d4, d5, d6⟩ := h.at_
  have lk := h.drew.dF.look (x := x) (by unfold maxLen; omega)
  have Hd := Lib.hid h
  have HD := Lib.hid h.drew
  cases hl : lkp S.files x with
  | none =>
    rw [hl] at lk
    replace lk : (Instr.lookup 84 (.map (some I.F)) (nm x) false).run Try.prog w.drew = .ok (.pointer none) w.drew := lk
    have Hl := Lib.hid hl
    clear h hq hn d0 d2 d3 d4 d5 d6 hl
    go_enter Try.func53, Try.ntmps53
    go_wp2_with fail
    go_region
    all_goals
      go_wp2
      go_ret
      exact ⟨143, X, S, I, rfl, HD.out, _, Nat.le_refl _, by simp [doSync, Hl.out], Nx.of_ext (Ext.refl w).drew⟩
  | some p =>
    rw [hl] at lk
    replace lk : (Instr.lookup 84 (.map (some I.F)) (nm x) false).run Try.prog w.drew = .ok (.pointer (some ⟨p, 0, none⟩)) w.drew := lk
    have Hl := Lib.hid hl
    obtain ⟨_, f0, hf⟩ := h.idF x p hl
    obtain ⟨k1, k2, k3⟩ := HD.out.fil p f0 hf
    have e0 := cell_of_row w.drew p 0 _ _ (0, 0) k1.blk
    have e1 := cell_of_row w.drew p 1 _ _ (0, 0) k1.blk
    have fr : w.drew.frozen? ⟨p, 1, none⟩ = false := by simp [World.frozen?, k1.blk]
    simp only [List.getElem?_toArray, List.getElem?_cons_zero, List.getElem?_cons_succ] at e0 e1
    have e0 : w.cell? ⟨p, 0, none⟩ = some (.slice (I.rows p) f0.data.length (I.caps p)) := e0
    have fr : w.frozen? ⟨p, 1, none⟩ = false := fr
    have e1 : w.cell? ⟨p, 1, none⟩ = some (.int .i64 (f0.safe : Int)) := e1
    have Hf := Lib.hid hf
    have K1 := Lib.hid k1
    clear h hq hn d0 d2 d3 d4 d5 d6 hl hf k1 k2 k3
    go_enter Try.func53, Try.ntmps53
    go_wp2_with fail
    go_region
    all_goals
      go_wp2
      go_ret
      have hg := setCell_grown w.drew ⟨p, 1, none⟩ (.int .i64 (f0.data.length : Int))
      have hXp := (HD.out.fil p f0 Hf.out).2.1
      refine ⟨0, X, _, _, rfl, HD.out.filed (w' := w.drew.setCell ⟨p, 1, none⟩ (.int .i64 (f0.data.length : Int))) (f1 := ⟨f0.data, f0.data.length⟩) Hf.out (I.rows p) (I.caps p) (fun b hb => hb) (fun b hb => ⟨(HD.out.bd b hb).1, Nat.lt_of_lt_of_le (HD.out.bd b hb).2 hg.size⟩) (fun b hb n1 _ => hg.block b (HD.out.bd b hb).2 (fun e => n1 (Option.some.inj e))) ⟨?_, K1.out.own.blk (fun a ha => hg.block _ (HD.out.bd _ ((HD.out.fil p f0 Hf.out).2.2 a ha)).2 (fun e => ?_)), K1.out.u8, Nat.le_refl _, K1.out.lq⟩ (fun a ha => .inl ⟨a, ha, rfl⟩), _, Nat.le_refl _, ?_, (Nx.of_ext (Ext.refl w).drew).trans (Nx.of_grown hg hXp)⟩
      · rw [heap_setCell_same _ p 1 _ _ _ K1.out.blk]
        rfl
      · obtain ⟨cur, hc⟩ := K1.out.own.ty a ha
        exact ne_ty hc K1.out.blk (by decide) (Option.some.inj e)
      · simp only [doSync, Hl.out]
        rw [setF_one Hd.out.nd Hf.out (fun f => (⟨f.data, f.data.length⟩ : FS))]

theorem sync_any (h : DK w X base dp S I) (hs : 0 ≤ S.steps ∧ S.steps < 1000000000000000) (x : List UInt8) (hx : x.length ≤ 140737488355328) (hc : S.chs.length < 10000000000000) : Calls Try.prog 13 #[.pointer (some ⟨dp, 0, none⟩), nm x] w fun e w' => ∃ r, e = .returned (.int .i64 r) ∧ Stepped w X base dp S (fun _ => doSync x) (fun S _ => S) r w' := by
  obtain ⟨B1, B2⟩ := boxes2 w dp x
  have nX : ∀ q, w.heap.size ≤ q → ¬ X q := fun q hq hX => by have := (h.bd q hX).2; omega
  have E : Ext w ((w.alloc (.cells #[.pointer (some ⟨dp, 0, none⟩)] 26)).alloc (.cells #[nm x] 9)) := ((Ext.refl w).alloc _).alloc _
  have HW := Lib.hid (h.ext E)
  have HE := Lib.hid E
  have hz : ((w.alloc (.cells #[.pointer (some ⟨dp, 0, none⟩)] 26)).alloc (.cells #[nm x] 9)).heap.size = w.heap.size + 2 := by simp
  have hdp := (h.bd dp h.xs.1).2
  have C := Lib.hid (step_any (R1 := PostF X (fun _ => doSync x) { S with steps := S.steps + 1 }) (c1 := #[.pointer (some ⟨w.heap.size, 0, none⟩), .pointer (some ⟨w.heap.size + 1, 0, none⟩)]) (h.ext E) hs sync1_call (fun w1 f1 d1 =>
    sync1_any d1 x hx ((f1.block w.heap.size (by rw [hz]; omega) (fun e => by omega)).trans B1) ((f1.block (w.heap.size + 1) (by rw [hz]; omega) (fun e => by omega)).trans B2) (nX _ (by omega)) (nX _ (by omega)) hc))
  clear h hs B1 B2 nX E hz hdp
  go_enter Try.func13, Try.ntmps13
  go_wp2_with fail
  refine C.out.mono ?_
  rintro e w' ⟨r, rfl, h1⟩
  have H1 := Lib.hid h1
  clear h1
  go_wp2
  go_ret
  exact ⟨r, rfl, Stepped.ofStep HW.out HE.out H1.out⟩
end

end Go.Proofs.Ytjckfbpdnpehcaa
