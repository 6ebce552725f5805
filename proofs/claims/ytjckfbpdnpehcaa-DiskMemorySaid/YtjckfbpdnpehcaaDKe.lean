/-
  Layer 14: a file made.
-/
import Derived.Test.YtjckfbpdnpehcaaDKd
namespace Go.Proofs.Ytjckfbpdnpehcaa
open Go.RowKit Go.Maps Go.WideMaps
set_option maxRecDepth 100000

theorem nm40 {x : List UInt8} (h : isNm ⟨x.toArray⟩ = true) : x.length ≤ 40 := by
  unfold isNm at h
  simp [ByteArray.size] at h
  omega
theorem refC_ok {S : DS} {x : List UInt8} (h : refC S x = 0) : isNm ⟨x.toArray⟩ = true ∧ lkp S.files x = none ∧ S.files.length < 400 := by
  unfold refC at h
  split at h
  · omega
  · rename_i h1
    split at h
    · omega
    · rename_i h2
      split at h
      · omega
      · rename_i h3
        refine ⟨by simpa using h1, ?_, by omega⟩
        cases hl : lkp S.files x with
        | none => rfl
        | some q => rw [hl] at h2; simp at h2

/-- An empty file, new. -/
abbrev zFile : Obj := .cells #[.slice none 0 0, .int .i64 0] 96
def doCreate (x : List UInt8) (q : Nat) (S : DS) : Int × DS := if refC S x = 0 then (0, { S with fl := S.fl ++ [(q, ⟨[], 0⟩)], files := putD S.files x q, chs := S.chs ++ [.cr x q] }) else (refC S x, S)

section
variable {w w' : World} {X : Nat → Prop} {base dp : Nat} {S : DS} {I : DI}
theorem DK.addFile (h : DK w X base dp S I) {q : Nat} (hq : w.heap[q]? = some zFile) (hX : X q) (hf : ∀ f, (q, f) ∉ S.fl) :
    DK w X base dp { S with fl := S.fl ++ [(q, ⟨[], 0⟩)] } { I with rows := fun k => if k = q then none else I.rows k, caps := fun k => if k = q then 0 else I.caps k } where
  blk := h.blk
  xs := h.xs
  bd := h.bd
  dF := h.dF
  dS := h.dS
  ne := h.ne
  row := h.row
  rx := h.rx
  cln := h.cln
  cls := h.cls
  fil := by
    intro p f hp
    rcases List.mem_append.1 hp with hp | hp
    · have hne : p ≠ q := fun e => hf f (e ▸ hp)
      simp only [if_neg hne]
      exact h.fil p f hp
    · rw [List.mem_singleton] at hp
      injection hp with h1 h2
      subst h2
      rw [h1]
      refine ⟨⟨?_, ?_, (fun x hx => by cases hx), Nat.le_refl _, (h.bd _ hX).1⟩, hX, fun a ha => ?_⟩
      · simp only [if_pos]; exact hq
      · simp only [if_pos]; exact Own.nil _ _ _ _
      · simp only [if_pos] at ha; cases ha
  nd := by
    refine List.pairwise_append.2 ⟨h.nd, List.pairwise_singleton _ _, fun a ha b hb => ?_⟩
    rw [List.mem_singleton] at hb
    subst hb
    exact fun e => hf a.2 (by rw [show q = a.1 from e.symm]; exact ha)
  sep := by
    intro p f p' f' a a' hp hp' ra ra' hne
    by_cases e : p = q
    · simp only [if_pos e] at ra; cases ra
    by_cases e' : p' = q
    · simp only [if_pos e'] at ra'; cases ra'
    simp only [if_neg e] at ra
    simp only [if_neg e'] at ra'
    have m : ∀ (k : Nat) (g : FS), k ≠ q → (k, g) ∈ S.fl ++ [(q, (⟨[], 0⟩ : FS))] → (k, g) ∈ S.fl := fun k g hk hm => by
      rcases List.mem_append.1 hm with hm | hm
      · exact hm
      · rw [List.mem_singleton] at hm; injection hm with h1 _; exact absurd h1 hk
    exact h.sep p f p' f' a a' (m _ _ e hp) (m _ _ e' hp') ra ra' hne
  idF := fun x p hp => by obtain ⟨h1, f, h2⟩ := h.idF x p hp; exact ⟨h1, f, List.mem_append.2 (.inl h2)⟩
  idS := fun x p hp => by obtain ⟨h1, f, h2⟩ := h.idS x p hp; exact ⟨h1, f, List.mem_append.2 (.inl h2)⟩
  idC := fun x p hp => by obtain ⟨f, h2⟩ := h.idC x p hp; exact ⟨f, List.mem_append.2 (.inl h2)⟩
  pl := h.pl
  few := h.few

theorem create1_call (args : Array Value) (W : World) : (callFunc 45 args).run Try.prog W = .ok (.enter 45 args) W := by
  have h1 : Try.f45.name ≠ "runtime.NumGoroutine" := by decide
  have h2 : Try.f45.body ≠ none := by intro h; cases h
  simp [callFunc, Try.func45, h1, h2]

theorem created_lit (x : List UInt8) (f : Nat) (w : World) (h : x.length ≤ 140737488355328) : Calls Try.prog 48 #[nm x, .pointer (some ⟨f, 0, none⟩)] w fun e w' => ∃ bf bx : Nat, e = .returned (.func (.func 79) #[] #[.pointer (some ⟨bf, 0, none⟩), .pointer (some ⟨bx, 0, none⟩)]) ∧ CloR w' (.cr bf bx) (.cr x f) ∧ w.heap.size ≤ bf ∧ w.heap.size ≤ bx ∧ Ext w w' :=
  (created_any x f w h).mono (by
    rintro e w' ⟨k, rfl, hk, hn, he⟩
    cases k with
    | cr bf bx => exact ⟨bf, bx, rfl, hk, hn bf (.inl rfl), hn bx (.inr rfl), he⟩
    | mv bx bY => exact hk.elim
    | rm bx => exact hk.elim)
theorem alter_cr {bf bx q : Nat} {x : List UInt8} (h : DK w X base dp S I) (hk : CloR w (.cr bf bx) (.cr x q)) (hX : X bf ∧ X bx) (hr : refC S x = 0) (hq : ∃ f, (q, f) ∈ S.fl) (hn : S.chs.length < 10000000000000) :
    Calls Try.prog 47 #[.pointer (some ⟨dp, 0, none⟩), .func (.func 79) #[] #[.pointer (some ⟨bf, 0, none⟩), .pointer (some ⟨bx, 0, none⟩)]] w fun e w' => e = .returned (.tuple #[]) ∧ ∃ A c, DK w' (fun q => X q ∨ (w.heap.size ≤ q ∧ q < w'.heap.size)) base dp { S with files := putD S.files x q, chs := S.chs ++ [.cr x q] } { I with Ac := A, cc := c, clos := I.clos ++ [.cr bf bx] } ∧ FrX X w w' := by
  obtain ⟨h1, h2, h3⟩ := refC_ok hr
  refine alter_any (k := .cr bf bx) (g := .cr x q) h hk (fun p hp => by rcases hp with rfl | rfl; exact hX.1; exact hX.2) (nm40 h1) (fun y p hp => ?_) (fun y p hp => by injection hp with e1 e2; subst e2; exact hq) ?_ hn
  · rw [show apD S.files (.cr x q) = putD S.files x q from rfl, lkp_put h.dF.asc] at hp
    split at hp
    · rename_i e
      injection hp with hp
      subst hp
      rw [e]
      exact ⟨nm40 h1, hq⟩
    · exact h.idF y p hp
  · have := len_put h.dF.asc x q
    rw [h2] at this
    show (putD S.files x q).length ≤ 400
    rw [this]
    simp
    omega

set_option maxHeartbeats 4000000 in
theorem create1_some {q qn : Nat} (h : DK w X base dp S I) (x : List UInt8) (hx4 : x.length ≤ 140737488355328) (hq : Bx w q dp) (hn : Bn w qn x) (nq : ¬ X q) (nn : ¬ X qn) (hl : refC S x = 0) (hc : S.chs.length < 10000000000000) : Calls Try.prog 45 #[.pointer (some ⟨q, 0, none⟩), .pointer (some ⟨qn, 0, none⟩)] w fun e w' => e = .returned (.int .i64 0) ∧ ∃ X' I', DK w' X' base dp (doCreate x w.heap.size S).2 I' ∧ Nx X w X' w' := by
  have c1 : w.cell? ⟨q, 0, none⟩ = some (.pointer (some ⟨dp, 0, none⟩)) := cell_of_row w q 0 _ _ (0, 0) hq
  have c2 : w.cell? ⟨qn, 0, none⟩ = some (nm x) := cell_of_row w qn 0 _ _ (0, 0) hn
  have CR := Lib.hid (refusal_any h x hx4)
  rw [hl] at CR
  have Hd := Lib.hid h
  have Hl := Lib.hid hl
  have HC : Hid (∀ W, FrX X w W → W.cell? ⟨q, 0, none⟩ = some (.pointer (some ⟨dp, 0, none⟩)) ∧ W.cell? ⟨qn, 0, none⟩ = some (nm x)) := Lib.hid (fun W hW =>
    ⟨cell_of_row W q 0 _ _ (0, 0) ((hW.block q (Array.getElem?_eq_some_iff.1 hq).1 nq).trans hq), cell_of_row W qn 0 _ _ (0, 0) ((hW.block qn (Array.getElem?_eq_some_iff.1 hn).1 nn).trans hn)⟩)
  have HB : Hid (∀ o, Ext w ((w.alloc o).drew) ∧ Ext w (w.drew.alloc o)) := Lib.hid (fun o => ⟨((Ext.refl w).alloc o).drew, ((Ext.refl w).drew).trans ((Ext.refl _).alloc o)⟩)
  have Hnf : Hid (∀ f, (w.heap.size, f) ∉ S.fl) := Lib.hid (fun f hf => by have := (h.bd _ (h.fil _ f hf).2.1).2; omega)
  clear h hq hn hl
  go_enter Try.func45, Try.ntmps45
  go_wp2_with fail
  refine CR.out.mono ?_
  rintro e w1 ⟨rfl, rfl⟩
  go_wp2_with fail
  go_region_held3 (fun W => W.cell? ⟨q, 0, none⟩ = some (.pointer (some ⟨dp, 0, none⟩)) ∧ W.cell? ⟨qn, 0, none⟩ = some (nm x))
      (first | exact ⟨c1, c2⟩ | exact HC.out _ H2.out.fr | exact HC.out _ (H1.out.frX X) | exact HC.out _ ((HB.out _).1.frX X) | exact HC.out _ ((HB.out _).2.frX X) | fail)
      (first
        | (go_at_call 48; refine (created_lit x _ _ hx4).mono ?_; rintro e w2 ⟨bf, bx, rfl, hk, hb1, hb2, h1⟩; have HXX : Hid (Ext (w.alloc zFile) w2) := Lib.hid ⟨h1.os, h1.tape, h1.output, h1.size, h1.block⟩; have H1 : Hid (Ext w w2) := Lib.hid (((Ext.refl w).alloc zFile).trans HXX.out); have D1 := Lib.hid ((Hd.out.grow H1.out).addFile ((HXX.out.block w.heap.size (by simp)).trans (heap_alloc_new w zFile)) (.inr ⟨Nat.le_refl _, by have := HXX.out.size; simp at this; omega⟩) Hnf.out); have HK := Lib.hid hk; have HN : Hid (w.heap.size ≤ bf ∧ w.heap.size ≤ bx) := Lib.hid (by simp at hb1 hb2; omega); clear h1 hk hb1 hb2)
        | (go_at_call 47; refine (alter_cr D1.out HK.out ⟨.inr ⟨HN.out.1, HK.out.lt bf (.inl rfl)⟩, .inr ⟨HN.out.2, HK.out.lt bx (.inr rfl)⟩⟩ Hl.out ⟨_, List.mem_append.2 (.inr (List.mem_singleton.2 rfl))⟩ hc).mono ?_; rintro e w3 ⟨rfl, A, c, d2, f2⟩; have D2 := Lib.hid d2; have H2 : Hid (Nx X w (fun q => (X q ∨ (w.heap.size ≤ q ∧ q < w2.heap.size)) ∨ (w2.heap.size ≤ q ∧ q < w3.heap.size)) w3) := Lib.hid ((Nx.wide (H1.out.frX X)).trans (Nx.wide f2)); clear d2 f2)
        | fail)
  all_goals
      go_wp2
      go_ret
      refine ⟨rfl, _, { I with rows := fun k => if k = w.heap.size then none else I.rows k, caps := fun k => if k = w.heap.size then 0 else I.caps k, Ac := A, cc := c, clos := I.clos ++ [.cr bf bx] }, ?_, H2.out⟩
      have := D2.out
      unfold doCreate
      rw [if_pos Hl.out]
      exact this

theorem create1_any {q qn : Nat} (h : DK w X base dp S I) (x : List UInt8) (hx : x.length ≤ 140737488355328) (hq : Bx w q dp) (hn : Bn w qn x) (nq : ¬ X q) (nn : ¬ X qn) (hc : S.chs.length < 10000000000000) : Calls Try.prog 45 #[.pointer (some ⟨q, 0, none⟩), .pointer (some ⟨qn, 0, none⟩)] w fun e w' => ∃ r X' S' I', e = .returned (.int .i64 r) ∧ DK w' X' base dp S' I' ∧ PostF X (doCreate x) S w r X' S' I' w' := by
  by_cases hl : refC S x = 0
  · exact (create1_some h x hx hq hn nq nn hl hc).mono (by rintro e w' ⟨rfl, X', I', h1, h2⟩; exact ⟨0, X', _, I', rfl, h1, w.heap.size, Nat.le_refl _, by simp [doCreate, hl], h2⟩)
  · have c1 : w.cell? ⟨q, 0, none⟩ = some (.pointer (some ⟨dp, 0, none⟩)) := cell_of_row w q 0 _ _ (0, 0) hq
    have c2 : w.cell? ⟨qn, 0, none⟩ = some (nm x) := cell_of_row w qn 0 _ _ (0, 0) hn
    have CR := Lib.hid (refusal_any h x hx)
    have Hd := Lib.hid h
    obtain ⟨R, hR⟩ : ∃ R, R = refC S x := ⟨_, rfl⟩
    rw [← hR] at CR hl
    have HR := Lib.hid hR
    clear h hq hn hR
    go_enter Try.func45, Try.ntmps45
    go_wp2_with fail
    refine CR.out.mono ?_
    rintro e w1 ⟨rfl, rfl⟩
    go_wp2
    go_ret
    exact ⟨R, X, S, I, rfl, Hd.out, w.heap.size, Nat.le_refl _, by unfold doCreate; rw [HR.out] at hl ⊢; rw [if_neg hl], Nx.refl _ _⟩

theorem create_any (h : DK w X base dp S I) (hs : 0 ≤ S.steps ∧ S.steps < 1000000000000000) (x : List UInt8) (hx : x.length ≤ 140737488355328) (hc : S.chs.length < 10000000000000) : Calls Try.prog 10 #[.pointer (some ⟨dp, 0, none⟩), nm x] w fun e w' => ∃ r, e = .returned (.int .i64 r) ∧ Stepped w X base dp S (doCreate x) (fun S _ => S) r w' := by
  obtain ⟨B1, B2⟩ := boxes2 w dp x
  have nX : ∀ q, w.heap.size ≤ q → ¬ X q := fun q hq hX => by have := (h.bd q hX).2; omega
  have E : Ext w ((w.alloc (.cells #[.pointer (some ⟨dp, 0, none⟩)] 26)).alloc (.cells #[nm x] 9)) := ((Ext.refl w).alloc _).alloc _
  have HW := Lib.hid (h.ext E)
  have HE := Lib.hid E
  have hz : ((w.alloc (.cells #[.pointer (some ⟨dp, 0, none⟩)] 26)).alloc (.cells #[nm x] 9)).heap.size = w.heap.size + 2 := by simp
  have hdp := (h.bd dp h.xs.1).2
  have C := Lib.hid (step_any (R1 := PostF X (doCreate x) { S with steps := S.steps + 1 }) (c1 := #[.pointer (some ⟨w.heap.size, 0, none⟩), .pointer (some ⟨w.heap.size + 1, 0, none⟩)]) (h.ext E) hs create1_call (fun w1 f1 d1 =>
    create1_any d1 x hx ((f1.block w.heap.size (by rw [hz]; omega) (fun e => by omega)).trans B1) ((f1.block (w.heap.size + 1) (by rw [hz]; omega) (fun e => by omega)).trans B2) (nX _ (by omega)) (nX _ (by omega)) hc))
  clear h hs B1 B2 nX E hz hdp
  go_enter Try.func10, Try.ntmps10
  go_wp2_with fail
  refine C.out.mono ?_
  rintro e w' ⟨r, rfl, h1⟩
  have H1 := Lib.hid h1
  clear h1
  go_wp2
  go_ret
  exact ⟨r, rfl, Stepped.ofStep HW.out HE.out H1.out⟩
end

end Go.Proofs.Ytjckfbpdnpehcaa
