/-
  Layer 14: one step under its fate.
-/
import Derived.Test.YtjckfbpdnpehcaaDK8
namespace Go.Proofs.Ytjckfbpdnpehcaa
open Go.RowKit Go.Maps Go.WideMaps
set_option maxRecDepth 100000

theorem PlanR.look {w : World} {X : Nat → Prop} {F Sb : Nat} {pv : Value} {pl : Int → Int × Int × Int} (h : PlanR w X F Sb pv pl) (k : Int) (hk : (Lit.int .i64 k).wf = true) : (Instr.lookup 86 pv (.int .i64 k) false).run Try.prog w = .ok (fateV (pl k)) w := by
  rcases h with ⟨rfl, h1⟩ | ⟨P, n, D, rfl, _, h1, h2⟩
  · rw [h1]
    exact Maps.look_nil false (int_keyed Try.underlying3) Try.underlying86 (z := zfate) (by rfl) (keyOf_int_mk Try.underlying3 hk)
  · obtain ⟨v, ps, hrun, hv⟩ := h1.lookup (int_keyed Try.underlying3) Try.underlying86 (z := zfate) (by rfl) (zd := fateD (0, 0, 0)) (zp := []) rfl (keyOf_int_mk Try.underlying3 hk)
    obtain ⟨p, rfl, hp⟩ := fateR_inv hv
    rw [h2] at hp
    rw [hrun, fateD_inj hp]

theorem wf_step {k : Int} (h1 : 0 ≤ k) (h2 : k < 1000000000000000) : (Lit.int .i64 (k + 1)).wf = true := by
  have a : IntKind.i64.min = -9223372036854775808 := by decide
  have b : IntKind.i64.max = 9223372036854775807 := by decide
  have c : IntKind.i64.min ≤ k + 1 := by rw [a]; omega
  have d : k + 1 ≤ IntKind.i64.max := by rw [b]; omega
  rw [b] at d
  simp [Lit.wf, c]
  omega
section
variable {w : World} {X : Nat → Prop} {base dp : Nat} {S : DS} {I : DI}
theorem DK.drew (h : DK w X base dp S I) : DK w.drew X base dp S I := h.kept (fun _ hb => hb) (fun b hb => h.bd b hb) (fun _ _ => rfl)
/-- A step counted. -/
theorem DK.counted (h : DK w X base dp S I) : DK (w.setCell ⟨dp, 5, none⟩ (.int .i64 (S.steps + 1))) X base dp { S with steps := S.steps + 1 } I := by
  have hg := setCell_grown w ⟨dp, 5, none⟩ (.int .i64 (S.steps + 1))
  refine h.next (fun _ hb => hb) (fun b hb => ⟨(h.bd b hb).1, Nat.lt_of_lt_of_le (h.bd b hb).2 hg.size⟩) (fun b hb n1 _ _ _ => hg.block b (h.bd b hb).2 (fun e => n1 (Option.some.inj e))) rfl rfl rfl rfl rfl rfl rfl ?_ (h.dF.kept hg (fun e => h.ne_F (Option.some.inj e).symm)) (h.dS.kept hg (fun e => h.ne_S (Option.some.inj e).symm)) (h.row.grown hg fun a ha e => h.row_D a ha (Option.some.inj e)) h.rx h.cln (fun _ _ _ h1 h2 => .inl ⟨h1, h2⟩) h.idF h.idS h.idC h.few
  rw [heap_setCell_same w dp 5 _ _ _ h.blk]
  rfl
end

section
variable {w : World} {X : Nat → Prop} {base dp : Nat} {S : DS} {I : DI}
/-- What one step leaves. -/
def StepR (w : World) (X : Nat → Prop) (base dp : Nat) (S : DS) (I : DI) (R1 : World → Int → (Nat → Prop) → DS → DI → World → Prop) (R2 : World → Int → (Nat → Prop) → DS → DI → World → Prop) (r : Int) (w' : World) : Prop :=
  (S.on = false ∧ r = 140 ∧ w' = w) ∨ (S.on = true ∧ ∃ w1, FrX (fun q => q = dp) w w1 ∧ DK w1 X base dp { S with steps := S.steps + 1 } I ∧
    (((S.plan (S.steps + 1)).2.1 = 1 ∧ r = 141 ∧ w' = w1) ∨
     ((S.plan (S.steps + 1)).2.1 = 2 ∧ r = 142 ∧ ∃ X' S' I', DK w' X' base dp S' I' ∧ R2 w1 (S.plan (S.steps + 1)).2.2 X' S' I' w') ∨
     ((S.plan (S.steps + 1)).2.1 = 3 ∧ r = 140 ∧ w' = w1.setCell ⟨dp, 6, none⟩ (.bool false)) ∨
     ((S.plan (S.steps + 1)).2.1 = 4 ∧ r = 140 ∧ ∃ r0 X' S' I' w2, DK w2 X' base dp S' I' ∧ R1 w1 r0 X' S' I' w2 ∧ w' = w2.setCell ⟨dp, 6, none⟩ (.bool false)) ∨
     ((S.plan (S.steps + 1)).2.1 ≠ 1 ∧ (S.plan (S.steps + 1)).2.1 ≠ 2 ∧ (S.plan (S.steps + 1)).2.1 ≠ 3 ∧ (S.plan (S.steps + 1)).2.1 ≠ 4 ∧ ∃ X' S' I', DK w' X' base dp S' I' ∧ R1 w1 r X' S' I' w')))

set_option maxHeartbeats 4000000 in
theorem partly_any {f1 f2 : FuncId} {c1 c2 : Array Value} {R1 R2 : World → Int → (Nat → Prop) → DS → DI → World → Prop} (h : DK w X base dp S I) (hs : 0 ≤ S.steps ∧ S.steps < 1000000000000000) (hf1 : ∀ args W, (callFunc f1 args).run Try.prog W = .ok (.enter f1 args) W) (hf2 : ∀ args W, (callFunc f2 args).run Try.prog W = .ok (.enter f2 args) W)
    (H1 : ∀ w1, FrX (fun q => q = dp) w w1 → DK w1 X base dp { S with steps := S.steps + 1 } I → Calls Try.prog f1 c1 w1 fun e w' => ∃ r X' S' I', e = .returned (.int .i64 r) ∧ DK w' X' base dp S' I' ∧ R1 w1 r X' S' I' w')
    (H2 : ∀ w1 n, FrX (fun q => q = dp) w w1 → DK w1 X base dp { S with steps := S.steps + 1 } I → Calls Try.prog f2 (#[.int .i64 n] ++ c2) w1 fun e w' => e = .returned (.tuple #[]) ∧ ∃ X' S' I', DK w' X' base dp S' I' ∧ R2 w1 n X' S' I' w') :
    Calls Try.prog 52 #[.pointer (some ⟨dp, 0, none⟩), .func (.func f1) #[] c1, .func (.func f2) #[] c2] w fun e w' => ∃ r, e = .returned (.int .i64 r) ∧ StepR w X base dp S I R1 R2 r w' := by
  obtain ⟨c0, cc1, cc2, c3, c4, c5, c6⟩ := h.at_
  have Hd := Lib.hid h
  have HF1 := Lib.hid hf1
  have HF2 := Lib.hid hf2
  have HH1 := Lib.hid H1
  have HH2 := Lib.hid H2
  have fr : w.frozen? ⟨dp, 5, none⟩ = false := by simp [World.frozen?, h.blk]
  obtain ⟨on, hon⟩ : ∃ on, on = S.on := ⟨_, rfl⟩
  rw [← hon] at c6
  have Hon := Lib.hid hon
  clear h H1 H2 hf1 hf2 c0 cc1 cc2 c3 hon
  cases on with
  | false =>
    go_enter Try.func52, Try.ntmps52
    go_wp2
    go_ret
    exact ⟨_, rfl, .inl ⟨Hon.out.symm, rfl, rfl⟩⟩
  | true =>
    go_enter Try.func52, Try.ntmps52
    go_wp2_with fail
    obtain ⟨W, hW⟩ : ∃ W, W = w.setCell ⟨dp, 5, none⟩ (.int .i64 (S.steps + 1)) := ⟨_, rfl⟩
    have D1 := Hd.out.counted
    rw [← hW] at D1
    have E1 : FrX (fun q => q = dp) w W := by rw [hW]; exact grownBy_frX (setCell_grown w ⟨dp, 5, none⟩ _) (.inl rfl)
    rw [← hW]
    clear hW c4 c5 c6 fr
    obtain ⟨d0, d1, d2, d3, d4, d5, d6⟩ := D1.at_
    have D2 := (D1.ext ((Ext.refl _).alloc (.cells #[.int .i64 0, .int .i64 0, .int .i64 0] 64))).drew
    obtain ⟨e0, e1, e2, e3, e4, e5, e6⟩ := D2.at_
    have l1 := D1.drew.pl.look (S.steps + 1) (wf_step hs.1 hs.2)
    have l2 := D2.pl.look (S.steps + 1) (wf_step hs.1 hs.2)
    clear D2
    obtain ⟨⟨p0, p1, p2⟩, hp⟩ : ∃ p, p = S.plan (S.steps + 1) := ⟨_, rfl⟩
    rw [show ({ S with steps := S.steps + 1 } : DS).plan = S.plan from rfl, ← hp] at l1 l2
    simp only [fateV] at l1 l2
    have Hp := Lib.hid hp
    have D1 := Lib.hid D1
    have E1 := Lib.hid E1
    clear hp d0 d1 d2 d3 d6 e0 e1 e2 e3 e6
    go_region
    all_goals
      obtain ⟨V, hV⟩ : ∃ V, V = (W.alloc (Obj.cells #[Value.int .i64 p0, Value.int .i64 p1, Value.int .i64 p2] 64)).drew := ⟨_, rfl⟩
      have D3 : Hid (DK V X base dp { S with steps := S.steps + 1 } I) := Lib.hid (by rw [hV]; exact (D1.out.ext ((Ext.refl _).alloc _)).drew)
      have E3 : Hid (FrX (fun q => q = dp) w V) := Lib.hid (by rw [hV]; exact E1.out.trans ((((Ext.refl W).alloc _).frX _).trans ⟨rfl, rfl, rfl, Nat.le_refl _, fun _ _ _ => rfl⟩))
      have hb : V.heap[W.heap.size]? = some (.cells #[Value.int .i64 p0, Value.int .i64 p1, Value.int .i64 p2] 64 (0, 0)) := by rw [hV]; exact heap_alloc_new W _
      have k1 : V.cell? ⟨W.heap.size, 1, none⟩ = some (.int .i64 p1) := cell_of_row V W.heap.size 1 _ _ (0, 0) hb
      have k2 : V.cell? ⟨W.heap.size, 2, none⟩ = some (.int .i64 p2) := cell_of_row V W.heap.size 2 _ _ (0, 0) hb
      rw [← hV]
      clear hV hb l1 l2
      by_cases n1 : p1 = 1
      · subst n1
        go_wp2
        go_ret
        exact ⟨_, rfl, .inr ⟨Hon.out.symm, V, E3.out, D3.out, .inl ⟨by rw [← Hp.out], rfl, rfl⟩⟩⟩
      · by_cases n2 : p1 = 2
        · subst n2
          have C := Lib.hid (HH2.out V p2 E3.out D3.out)
          go_wp2_with fail
          rw [HF2.out, Oper.upon_enter]
          refine C.out.mono ?_
          rintro e w' ⟨rfl, X', S', I', DD, RR⟩
          go_wp2
          go_ret
          exact ⟨_, rfl, .inr ⟨Hon.out.symm, V, E3.out, D3.out, .inr (.inl ⟨by rw [← Hp.out], rfl, X', S', I', DD, by rw [← Hp.out]; exact RR⟩)⟩⟩
        · by_cases n3 : p1 = 3
          · subst n3
            have C := Lib.hid (off_any D3.out)
            go_wp2_with fail
            refine C.out.mono ?_
            rintro e w' ⟨rfl, rfl⟩
            go_wp2
            go_ret
            exact ⟨_, rfl, .inr ⟨Hon.out.symm, V, E3.out, D3.out, .inr (.inr (.inl ⟨by rw [← Hp.out], rfl, rfl⟩))⟩⟩
          · have C := Lib.hid (HH1.out V E3.out D3.out)
            by_cases n4 : p1 = 4
            · subst n4
              go_wp2_with fail
              rw [HF1.out, Oper.upon_enter]
              refine C.out.mono ?_
              rintro e w2 ⟨r0, X', S', I', rfl, DD, RR⟩
              have C2 := Lib.hid (off_any DD)
              have Hdd := Lib.hid DD
              clear DD
              go_wp2_with fail
              refine C2.out.mono ?_
              rintro e w' ⟨rfl, rfl⟩
              go_wp2
              go_ret
              exact ⟨_, rfl, .inr ⟨Hon.out.symm, V, E3.out, D3.out, .inr (.inr (.inr (.inl ⟨by rw [← Hp.out], rfl, r0, X', S', I', w2, Hdd.out, RR, rfl⟩)))⟩⟩
            · go_wp2_with fail
              rw [HF1.out, Oper.upon_enter]
              refine C.out.mono ?_
              rintro e w' ⟨r0, X', S', I', rfl, DD, RR⟩
              go_wp2
              go_ret
              exact ⟨_, rfl, .inr ⟨Hon.out.symm, V, E3.out, D3.out, .inr (.inr (.inr (.inr ⟨by rw [← Hp.out]; exact n1, by rw [← Hp.out]; exact n2, by rw [← Hp.out]; exact n3, by rw [← Hp.out]; exact n4, X', S', I', DD, RR⟩)))⟩⟩
end

end Go.Proofs.Ytjckfbpdnpehcaa
