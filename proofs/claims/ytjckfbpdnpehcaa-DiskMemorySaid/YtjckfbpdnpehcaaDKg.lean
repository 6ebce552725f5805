/-
  Layer 14: a file given another name.
-/
import Derived.Test.YtjckfbpdnpehcaaDKf
namespace Go.Proofs.Ytjckfbpdnpehcaa
open Go.RowKit Go.Maps Go.WideMaps
set_option maxRecDepth 100000

def doRename (x y : List UInt8) (S : DS) : Int × DS := match lkp S.files x with
  | some q => if isNm ⟨y.toArray⟩ = false then (145, S) else if x = y then (0, S) else (0, { S with files := delD (putD S.files y q) x, chs := S.chs ++ [.mv x y] })
  | none => (143, S)

section
variable {w w' : World} {X : Nat → Prop} {base dp : Nat} {S : DS} {I : DI}
theorem renamed_lit (x y : List UInt8) (w : World) (h : x.length ≤ 140737488355328) (h2 : y.length ≤ 140737488355328) : Calls Try.prog 62 #[nm x, nm y] w fun e w' => ∃ bx bY : Nat, e = .returned (.func (.func 84) #[] #[.pointer (some ⟨bx, 0, none⟩), .pointer (some ⟨bY, 0, none⟩)]) ∧ CloR w' (.mv bx bY) (.mv x y) ∧ w.heap.size ≤ bx ∧ w.heap.size ≤ bY ∧ Ext w w' :=
  (renamed_any x y w h h2).mono (by
    rintro e w' ⟨k, rfl, hk, hn, he⟩
    cases k with
    | cr bf bx => exact hk.elim
    | mv bx bY => exact ⟨bx, bY, rfl, hk, hn bx (.inl rfl), hn bY (.inr rfl), he⟩
    | rm bx => exact hk.elim)
theorem alter_mv {bx bY p : Nat} {x y : List UInt8} (h : DK w X base dp S I) (hk : CloR w (.mv bx bY) (.mv x y)) (hX : X bx ∧ X bY) (hl : lkp S.files x = some p) (hy : y.length ≤ 40) (hn : S.chs.length < 10000000000000) :
    Calls Try.prog 47 #[.pointer (some ⟨dp, 0, none⟩), .func (.func 84) #[] #[.pointer (some ⟨bx, 0, none⟩), .pointer (some ⟨bY, 0, none⟩)]] w fun e w' => e = .returned (.tuple #[]) ∧ ∃ A c, DK w' (fun q => X q ∨ (w.heap.size ≤ q ∧ q < w'.heap.size)) base dp { S with files := delD (putD S.files y p) x, chs := S.chs ++ [.mv x y] } { I with Ac := A, cc := c, clos := I.clos ++ [.mv bx bY] } ∧ FrX X w w' := by
  have e : apD S.files (.mv x y) = delD (putD S.files y p) x := by unfold apD; simp only [hl]
  have e' := alter_any (k := .mv bx bY) (g := .mv x y) h hk (fun r hr => by rcases hr with rfl | rfl; exact hX.1; exact hX.2) ⟨(h.idF x p hl).1, hy, by rw [hl]; rfl⟩
  rw [e] at e'
  refine e' (fun z r hr => ?_) (fun z r hr => by cases hr) ?_ hn
  · rw [lkp_del (asc_put h.dF.asc y p)] at hr
    split at hr
    · cases hr
    · rw [lkp_put h.dF.asc] at hr
      split at hr
      · rename_i e1
        injection hr with hr
        subst hr
        rw [e1]
        exact ⟨hy, (h.idF x p hl).2⟩
      · exact h.idF z r hr
  · have h1 := len_del (asc_put h.dF.asc y p) x
    have h2 := len_put h.dF.asc y p
    have h3 := h.few
    have h4 : (lkp (putD S.files y p) x).isSome = true := by
      rw [lkp_put h.dF.asc]
      split
      · rfl
      · rw [hl]; rfl
    rw [h4, if_pos rfl] at h1
    split at h2 <;> omega

theorem rename1_call (args : Array Value) (W : World) : (callFunc 60 args).run Try.prog W = .ok (.enter 60 args) W := by
  have h1 : Try.f60.name ≠ "runtime.NumGoroutine" := by decide
  have h2 : Try.f60.body ≠ none := by intro h; cases h
  simp [callFunc, Try.func60, h1, h2]

theorem size_nm (y : List UInt8) : (ByteArray.mk y.toArray).size = y.length := by simp [ByteArray.size]
theorem neq_nm (x y : List UInt8) (h : x ≠ y) : ((x.toArray.toList == y.toArray.toList) = false) := by simpa using h

set_option maxHeartbeats 4000000 in
theorem rename1_any {q qx qy : Nat} (h : DK w X base dp S I) (x y : List UInt8) (hx : x.length ≤ 140737488355328) (hy : y.length ≤ 140737488355328) (hq : Bx w q dp) (hn : Bn w qx x) (hm : Bn w qy y) (nq : ¬ X q) (nn : ¬ X qx) (nm' : ¬ X qy) (hc : S.chs.length < 10000000000000) : Calls Try.prog 60 #[.pointer (some ⟨q, 0, none⟩), .pointer (some ⟨qx, 0, none⟩), .pointer (some ⟨qy, 0, none⟩)] w fun e w' => ∃ r X' S' I', e = .returned (.int .i64 r) ∧ DK w' X' base dp S' I' ∧ PostF X (fun _ => doRename x y) S w r X' S' I' w' := by
  have c1 : w.cell? ⟨q, 0, none⟩ = some (.pointer (some ⟨dp, 0, none⟩)) := cell_of_row w q 0 _ _ (0, 0) hq
  have c2 : w.cell? ⟨qx, 0, none⟩ = some (nm x) := cell_of_row w qx 0 _ _ (0, 0) hn
  have c3 : w.cell? ⟨qy, 0, none⟩ = some (nm y) := cell_of_row w qy 0 _ _ (0, 0) hm
  obtain ⟨d0, d1, d2, d3, d4, d5, d6⟩ := h.at_
  have lk := h.drew.dF.look (x := x) (by unfold maxLen; omega)
  have HD := Lib.hid h.drew
  have CN := fun W => Lib.hid (disName_any ⟨y.toArray⟩ W (by simpa [ByteArray.size] using hy))
  have HC : Hid (∀ W, FrX X w W → W.cell? ⟨q, 0, none⟩ = some (.pointer (some ⟨dp, 0, none⟩)) ∧ W.cell? ⟨qx, 0, none⟩ = some (nm x) ∧ W.cell? ⟨qy, 0, none⟩ = some (nm y)) := Lib.hid (fun W hW =>
    ⟨cell_of_row W q 0 _ _ (0, 0) ((hW.block q (Array.getElem?_eq_some_iff.1 hq).1 nq).trans hq), cell_of_row W qx 0 _ _ (0, 0) ((hW.block qx (Array.getElem?_eq_some_iff.1 hn).1 nn).trans hn), cell_of_row W qy 0 _ _ (0, 0) ((hW.block qy (Array.getElem?_eq_some_iff.1 hm).1 nm').trans hm)⟩)
  cases hl : lkp S.files x with
  | none =>
    rw [hl] at lk
    replace lk : (Instr.lookup 84 (.map (some I.F)) (nm x) false).run Try.prog w.drew = .ok (.pointer none) w.drew := lk
    have Hl := Lib.hid hl
    clear h hq hn hm d0 d2 d3 d4 d5 d6 hl
    go_enter Try.func60, Try.ntmps60
    go_wp2_with fail
    go_region
    all_goals
      go_wp2
      go_ret
      exact ⟨143, X, S, I, rfl, HD.out, _, Nat.le_refl _, by simp [doRename, Hl.out], Nx.of_ext (Ext.refl w).drew⟩
  | some p =>
    rw [hl] at lk
    replace lk : (Instr.lookup 84 (.map (some I.F)) (nm x) false).run Try.prog w.drew = .ok (.pointer (some ⟨p, 0, none⟩)) w.drew := lk
    have Hl := Lib.hid hl
    obtain ⟨N, hN⟩ : ∃ N, N = isNm ⟨y.toArray⟩ := ⟨_, rfl⟩
    rw [← hN] at CN
    have HN := Lib.hid hN
    clear h hq hn hm d0 d2 d3 d4 d5 d6 hl hN
    go_enter Try.func60, Try.ntmps60
    go_wp2_with fail
    go_region
    all_goals
      obtain ⟨V, hV⟩ : ∃ V, V = w.drew := ⟨_, rfl⟩
      have HD : Hid (DK V X base dp S I) := Lib.hid (by rw [hV]; exact HD.out)
      have HV : Hid (Ext w V) := Lib.hid (by rw [hV]; exact (Ext.refl w).drew)
      obtain ⟨k1, k2, k3⟩ := HC.out V (HV.out.frX X)
      rw [← hV]
      clear hV c1 c2 c3 d1 lk
      go_wp2_with fail
      refine (CN _).out.mono ?_
      rintro e w1 ⟨rfl, rfl⟩
      cases N with
      | false =>
        go_wp2
        go_ret
        exact ⟨145, X, S, I, rfl, HD.out, _, HV.out.size, by simp [doRename, Hl.out, ← HN.out], Nx.of_ext HV.out⟩
      | true =>
        by_cases hxy : x = y
        · subst hxy
          have eq : (x.toArray.toList == x.toArray.toList) = true := by simp
          go_wp2
          go_ret
          exact ⟨0, X, S, I, rfl, HD.out, _, HV.out.size, by simp [doRename, Hl.out, ← HN.out], Nx.of_ext HV.out⟩
        · have eq := neq_nm x y hxy
          have hy40 := nm40 HN.out.symm
          have Hxy := Lib.hid hxy
          clear hxy
          go_wp2_with fail
          go_region_held3 (fun W => W.cell? ⟨q, 0, none⟩ = some (.pointer (some ⟨dp, 0, none⟩)) ∧ W.cell? ⟨qx, 0, none⟩ = some (nm x) ∧ W.cell? ⟨qy, 0, none⟩ = some (nm y))
            (first | exact ⟨k1, k2, k3⟩ | exact HC.out _ H2.out.fr | exact HC.out _ (H1.out.frX X) | fail)
            (first
              | (go_at_call 62; refine (renamed_lit x y _ hx hy).mono ?_; rintro e w1 ⟨bx, bY, rfl, hk, hn1, hn2, h1⟩; have H1 : Hid (Ext w w1) := Lib.hid (HV.out.trans ⟨h1.os, h1.tape, h1.output, h1.size, h1.block⟩); have D1 := Lib.hid (HD.out.grow (w' := w1) ⟨h1.os, h1.tape, h1.output, h1.size, h1.block⟩); have HK := Lib.hid hk; have HN1 : Hid (V.heap.size ≤ bx) := Lib.hid hn1; have HN2 : Hid (V.heap.size ≤ bY) := Lib.hid hn2; have HX1 : Hid (Ext V w1) := Lib.hid ⟨h1.os, h1.tape, h1.output, h1.size, h1.block⟩; clear h1 hk hn1 hn2)
              | (go_at_call 47; refine (alter_mv D1.out HK.out ⟨.inr ⟨HN1.out, HK.out.lt bx (.inl rfl)⟩, .inr ⟨HN2.out, HK.out.lt bY (.inr rfl)⟩⟩ Hl.out hy40 hc).mono ?_; rintro e w2 ⟨rfl, A, c, d2, f2⟩; have D2 := Lib.hid d2; have H2 : Hid (Nx X w (fun q => (X q ∨ (V.heap.size ≤ q ∧ q < w1.heap.size)) ∨ (w1.heap.size ≤ q ∧ q < w2.heap.size)) w2) := Lib.hid ((Nx.of_ext HV.out).trans ((Nx.wide (HX1.out.frX X)).trans (Nx.wide f2))); clear d2 f2)
              | fail)
          all_goals
            go_wp2
            go_ret
            exact ⟨0, _, _, _, rfl, D2.out, _, Nat.le_refl _, by simp [doRename, Hl.out, ← HN.out, Hxy.out], H2.out⟩

theorem boxes3 (w : World) (dp : Nat) (x y : List UInt8) : Bx (((w.alloc (.cells #[.pointer (some ⟨dp, 0, none⟩)] 26)).alloc (.cells #[nm x] 9)).alloc (.cells #[nm y] 9)) w.heap.size dp ∧ Bn (((w.alloc (.cells #[.pointer (some ⟨dp, 0, none⟩)] 26)).alloc (.cells #[nm x] 9)).alloc (.cells #[nm y] 9)) (w.heap.size + 1) x ∧ Bn (((w.alloc (.cells #[.pointer (some ⟨dp, 0, none⟩)] 26)).alloc (.cells #[nm x] 9)).alloc (.cells #[nm y] 9)) (w.heap.size + 2) y := by
  obtain ⟨h1, h2⟩ := boxes2 w dp x
  refine ⟨(heap_alloc_old _ _ (by simp; omega)).trans h1, (heap_alloc_old _ _ (by simp)).trans h2, ?_⟩
  have q := heap_alloc_new ((w.alloc (.cells #[.pointer (some ⟨dp, 0, none⟩)] 26)).alloc (.cells #[nm x] 9)) (.cells #[nm y] 9)
  simpa [Bn] using q
theorem rename_any (h : DK w X base dp S I) (hs : 0 ≤ S.steps ∧ S.steps < 1000000000000000) (x y : List UInt8) (hx : x.length ≤ 140737488355328) (hy : y.length ≤ 140737488355328) (hc : S.chs.length < 10000000000000) : Calls Try.prog 24 #[.pointer (some ⟨dp, 0, none⟩), nm x, nm y] w fun e w' => ∃ r, e = .returned (.int .i64 r) ∧ Stepped w X base dp S (fun _ => doRename x y) (fun S _ => S) r w' := by
  obtain ⟨B1, B2, B3⟩ := boxes3 w dp x y
  have nX : ∀ q, w.heap.size ≤ q → ¬ X q := fun q hq hX => by have := (h.bd q hX).2; omega
  have E : Ext w (((w.alloc (.cells #[.pointer (some ⟨dp, 0, none⟩)] 26)).alloc (.cells #[nm x] 9)).alloc (.cells #[nm y] 9)) := (((Ext.refl w).alloc _).alloc _).alloc _
  have HW := Lib.hid (h.ext E)
  have HE := Lib.hid E
  have hz : (((w.alloc (.cells #[.pointer (some ⟨dp, 0, none⟩)] 26)).alloc (.cells #[nm x] 9)).alloc (.cells #[nm y] 9)).heap.size = w.heap.size + 3 := by simp
  have hdp := (h.bd dp h.xs.1).2
  have C := Lib.hid (step_any (R1 := PostF X (fun _ => doRename x y) { S with steps := S.steps + 1 }) (c1 := #[.pointer (some ⟨w.heap.size, 0, none⟩), .pointer (some ⟨w.heap.size + 1, 0, none⟩), .pointer (some ⟨w.heap.size + 2, 0, none⟩)]) (h.ext E) hs rename1_call (fun w1 f1 d1 =>
    rename1_any d1 x y hx hy ((f1.block w.heap.size (by rw [hz]; omega) (fun e => by omega)).trans B1) ((f1.block (w.heap.size + 1) (by rw [hz]; omega) (fun e => by omega)).trans B2) ((f1.block (w.heap.size + 2) (by rw [hz]; omega) (fun e => by omega)).trans B3) (nX _ (by omega)) (nX _ (by omega)) (nX _ (by omega)) hc))
  clear h hs B1 B2 B3 nX E hz hdp
  go_enter Try.func24, Try.ntmps24
  go_wp2_with fail
  refine C.out.mono ?_
  rintro e w' ⟨r, rfl, h1⟩
  have H1 := Lib.hid h1
  clear h1
  go_wp2
  go_ret
  exact ⟨r, rfl, Stepped.ofStep HW.out HE.out H1.out⟩
end

end Go.Proofs.Ytjckfbpdnpehcaa
