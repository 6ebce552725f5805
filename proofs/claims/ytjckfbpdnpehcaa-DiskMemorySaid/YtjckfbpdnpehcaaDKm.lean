/-
  Layer 14: the power comes back.
-/
import Derived.Test.YtjckfbpdnpehcaaDKl
namespace Go.Proofs.Ytjckfbpdnpehcaa
open Go.RowKit Go.Maps Go.WideMaps
set_option maxRecDepth 100000

/-- What is kept of a file. -/
def keepF (ks : List Int) (j : Nat) (f : FS) : FS := ⟨f.data.take (f.safe + (keptC ks (j + 1) ((f.data.length : Int) - (f.safe : Int))).toNat), f.safe + (keptC ks (j + 1) ((f.data.length : Int) - (f.safe : Int))).toNat⟩
def onFl (ks : List Int) (d : Dir) (fl : List (Nat × FS)) : Nat → List (Nat × FS)
  | 0 => fl
  | j + 1 => match d[j]? with
    | some e => setF (onFl ks d fl j) e.2 (keepF ks j)
    | none => onFl ks d fl j
def doOn (ks : List Int) (S : DS) : DS := { S with files := preD S (keptC ks 0 (S.chs.length : Int)).toNat, safe := preD S (keptC ks 0 (S.chs.length : Int)).toNat, chs := [], fl := onFl ks (preD S (keptC ks 0 (S.chs.length : Int)).toNat) S.fl (preD S (keptC ks 0 (S.chs.length : Int)).toNat).length, on := true }
theorem keptC_le (ks : List Int) (i : Nat) (n : Nat) : 0 ≤ keptC ks i (n : Int) ∧ keptC ks i (n : Int) ≤ (n : Int) := by
  unfold keptC
  split <;> omega
theorem onFl_has {ks : List Int} {d : Dir} {fl : List (Nat × FS)} {q : Nat} : ∀ j, (∃ f, (q, f) ∈ fl) → ∃ f, (q, f) ∈ onFl ks d fl j
  | 0, h => h
  | j + 1, h => by
    have ih := onFl_has (ks := ks) (d := d) j h
    unfold onFl
    split
    · exact has_setF ih
    · exact ih

/-- The state behind the first j names. -/
def onS (ks : List Int) (S : DS) (D : Dir) (j : Nat) : DS := { S with files := D.take j, safe := D, chs := [], fl := onFl ks D S.fl j }

theorem put_next {d : Dir} (h : AscD d) {j : Nat} {x : List UInt8} {q : Nat} (hj : d[j]? = some (x, q)) : putD (d.take j) x q = d.take (j + 1) := by
  have hlt : j < d.length := (List.getElem?_eq_some_iff.1 hj).1
  have hall : ∀ e ∈ d.take j, e.1 < x := by
    intro e he
    obtain ⟨i, hi, hie⟩ := List.getElem_of_mem he
    rw [List.length_take] at hi
    rw [List.getElem_take] at hie
    have h2 := List.pairwise_iff_getElem.1 h i j (by omega) hlt (by omega)
    have h3 : d[j] = (x, q) := by have := List.getElem?_eq_some_iff.1 hj; exact this.2
    rw [← hie]
    rw [h3] at h2
    exact h2
  unfold putD
  have e1 : (d.take j).filter (fun e => decide (e.1 < x)) = d.take j := List.filter_eq_self.2 fun e he => decide_eq_true (hall e he)
  have e2 : (d.take j).filter (fun e => decide (x < e.1)) = [] := List.filter_eq_nil_iff.2 fun e he => by
    have := hall e he
    simp only [decide_eq_true_eq]
    exact fun q => List.lt_irrefl _ (List.lt_trans this q)
  rw [e1, e2, List.take_add_one, hj]
  rfl

section
variable {w w' : World} {X : Nat → Prop} {base dp : Nat} {S : DS} {I : DI}
theorem grown_drew {a b : World} {r : Option Nat} (h : a.grownBy b r) : a.grownBy b.drew r := ⟨h.os, h.tape, h.output, h.size, h.block⟩
/-- One file's block, written. -/
theorem DK.wrote (h : DK w X base dp S I) {q : Nat} {f0 f1 : FS} (hf : (q, f0) ∈ S.fl) {k : Nat} (hk : k ≤ f0.data.length) (hd : f1.data = f0.data.take k) (hs : f1.safe ≤ k) (hg : w.grownBy w' (some q)) (hb : w'.heap[q]? = some (.cells #[.slice (I.rows q) k (I.caps q), .int .i64 (f1.safe : Int)] 96 (0, 0))) :
    DK w' X base dp { S with fl := setF S.fl q fun _ => f1 } { I with rows := fun p => if p = q then I.rows q else I.rows p, caps := fun p => if p = q then I.caps q else I.caps p } := by
  obtain ⟨k1, k2, k3⟩ := h.fil q f0 hf
  have hl : f1.data.length = k := by rw [hd, List.length_take]; omega
  refine h.filed hf (I.rows q) (I.caps q) (fun _ hb => hb) (fun b hb => ⟨(h.bd b hb).1, Nat.lt_of_lt_of_le (h.bd b hb).2 hg.size⟩) (fun b hb n1 _ => hg.block b (h.bd b hb).2 (fun e => n1 (Option.some.inj e))) ⟨?_, ?_, ?_, by rw [hl]; exact hs, k1.lq⟩ (fun a ha => .inl ⟨a, ha, rfl⟩)
  · rw [hl]; exact hb
  · rw [hd]
    refine (k1.own.take hk).blk fun a ha => hg.block _ (h.bd _ (k3 a ha)).2 (fun e => ?_)
    obtain ⟨cur, hc⟩ := k1.own.ty a ha
    exact ne_ty hc k1.blk (by decide) (Option.some.inj e)
  · intro y hy
    rw [hd] at hy
    exact k1.u8 y (List.mem_of_mem_take hy)

set_option maxHeartbeats 6400000 in
theorem on_any {Ak : Option Addr} {mk ck : Nat} {ks : List Int} (h : DK w X base dp S I) (hh : Hist0 S) (hr : RdG shZ w Ak mk ks) (hnX : 0 < mk → ∀ a, Ak = some a → ¬ X a.block) (hf : Fit S 140737488355328) (_hmk : mk ≤ 140737488355328) :
    Calls Try.prog 15 #[.pointer (some ⟨dp, 0, none⟩), .slice Ak mk ck] w fun e w' => e = .returned (.tuple #[]) ∧ ∃ X' I', DK w' X' base dp (doOn ks S) I' ∧ Nx X w X' w' := by
  obtain ⟨c0, c1, c2, c3, c4, c5, c6⟩ := h.at_
  obtain ⟨n, hn⟩ : ∃ n, n = S.chs.length := ⟨_, rfl⟩
  have hcl := h.cln
  rw [← hn] at hcl
  rw [hcl] at c3
  obtain ⟨k0, hk0⟩ : ∃ k, k = (keptC ks 0 (n : Int)).toNat := ⟨_, rfl⟩
  have hkle := keptC_le ks 0 n
  have hkv : keptC ks 0 (n : Int) = (k0 : Int) := by omega
  have hk0n : k0 ≤ n := by omega
  have KP : Hid (Calls Try.prog 56 #[.slice Ak mk ck, .int .i64 0, .int .i64 (n : Int)] w.drew fun e w' => e = .returned (.int .i64 (k0 : Int)) ∧ w' = w.drew) := Lib.hid (by rw [← hkv]; exact kept_any (hr.ext (Ext.refl w).drew) 0 (n : Int))
  have hcap := h.row.cap
  rw [hcl] at hcap
  have hsl := run_uptoC I.Ac n I.cc k0 (by omega)
  have fr3 : w.frozen? ⟨dp, 3, none⟩ = false := by simp [World.frozen?, h.blk]
  obtain ⟨D0, F0⟩ := h.drew.cutCh k0 (by omega)
  have HS := Lib.hid (settle2_any D0 (hh.cut k0 (by omega)))
  rw [show preD { S with chs := S.chs.take k0 } (S.chs.take k0).length = preD S k0 from by rw [List.length_take, Nat.min_eq_left (by omega), preD_take S k0 k0 (Nat.le_refl _)]] at HS
  have hD : AscD (preD S k0) := by
    have : ∀ (l : List Chg) (d : Dir), AscD d → AscD (l.foldl apD d) := by
      intro l
      induction l with
      | nil => intro d hd; exact hd
      | cons c r ih => intro d hd; exact ih _ (apD_asc hd c)
    exact this _ _ h.dS.asc
  obtain ⟨D, hDD⟩ : ∃ D, D = preD S k0 := ⟨_, rfl⟩
  rw [← hDD] at HS hD
  have hlen : D.length ≤ 400 := by rw [hDD]; exact hh.few k0 (by omega)
  have HDid : Hid (∀ x q, lkp D x = some q → x.length ≤ 40 ∧ ∃ f, (q, f) ∈ S.fl) := Lib.hid (fun x q hl => by rw [hDD] at hl; exact hh.id k0 x q (by omega) hl)
  have HF0 := Lib.hid ((Nx.of_ext (Ext.refl w).drew : Nx X w X w.drew).trans (Nx.of_fr F0))
  have HA := Lib.hid hD
  have Hdo : Hid (doOn ks S = { onS ks S D D.length with on := true }) := Lib.hid (by
    unfold doOn onS
    rw [← hn, ← hk0, ← hDD, List.take_of_length_le (Nat.le_refl _)])
  have Hd := Lib.hid h
  have Hr := Lib.hid hr
  have HnX := Lib.hid hnX
  have Hfit := Lib.hid hf
  have e0n : (0 : Int) = ((0 : Nat) : Int) := rfl
  clear h hh hr hnX hf c0 c1 c2 c4 c5 c6 hn hcl hk0 hkle hkv hcap D0 F0 hD hDD e0n
  go_enter Try.func15, Try.ntmps15
  go_wp2_with fail
  refine wp_region_T (S := fun W => W.cell? ⟨dp, 3, none⟩ = some (.slice I.Ac n I.cc)) (late := fun j => j == 15) (by kernel_rfl) ?_
  refine wpAnyT_take (i := 0) (v := ?_) rfl (by kernel_rfl) (by kernel_rfl) (by kernel_rfl) (by kernel_rfl) (fun _ _ _ h => h) (Or.inl ⟨by rfl, ?_⟩) (by exact c3) ?_
  rotate_left
  · (intro w hSw; (try dsimp only at hSw); go_simp; (try with_reducible rfl))
  (try (simp only [Act.put, List.getElem_toArray, List.getElem_cons_zero, List.setIfInBounds_toArray, List.set_cons_zero, List.set_cons_succ]))
  refine wpAnyT_take (i := 1) (v := ?_) rfl (by kernel_rfl) (by kernel_rfl) (by kernel_rfl) (by kernel_rfl) (fun _ _ _ h => h) (Or.inl ⟨by rfl, ?_⟩) (by exact c3) ?_
  rotate_left
  · (intro w hSw; (try dsimp only at hSw); go_simp; (try with_reducible rfl))
  (try (simp only [Act.put, List.getElem_toArray, List.getElem_cons_zero, List.getElem_cons_succ, List.setIfInBounds_toArray, List.set_cons_zero, List.set_cons_succ]))
  refine wpAnyT_take (i := 2) (v := ?_) rfl (by kernel_rfl) (by kernel_rfl) (by kernel_rfl) (by kernel_rfl) (fun _ _ _ h => h) (Or.inl ⟨by rfl, ?_⟩) (by exact c3) ?_
  rotate_left
  · (intro w hSw; (try dsimp only at hSw); go_simp; (try with_reducible rfl))
  (try (simp only [Act.put, List.getElem_toArray, List.getElem_cons_zero, List.getElem_cons_succ, List.setIfInBounds_toArray, List.set_cons_zero, List.set_cons_succ]))
  refine wpAnyT_take (i := 3) (v := ?_) rfl (by kernel_rfl) (by kernel_rfl) (by kernel_rfl) (by kernel_rfl) (fun _ _ _ h => h) (Or.inl ⟨by rfl, ?_⟩) (by exact c3) ?_
  rotate_left
  · (intro w hSw; (try dsimp only at hSw); go_simp; (try with_reducible rfl))
  (try (simp only [Act.put, List.getElem_toArray, List.getElem_cons_zero, List.getElem_cons_succ, List.setIfInBounds_toArray, List.set_cons_zero, List.set_cons_succ]))
  refine wpAnyT_take (i := 4) (v := ?_) rfl (by kernel_rfl) (by kernel_rfl) (by kernel_rfl) (by kernel_rfl) (fun _ _ _ h => h) (Or.inl ⟨by rfl, ?_⟩) (by exact c3) ?_
  rotate_left
  · (intro w hSw; (try dsimp only at hSw); go_simp; (try with_reducible rfl))
  (try (simp only [Act.put, List.getElem_toArray, List.getElem_cons_zero, List.getElem_cons_succ, List.setIfInBounds_toArray, List.set_cons_zero, List.set_cons_succ]))
  refine wpAnyT_take (i := 5) (v := ?_) rfl (by kernel_rfl) (by kernel_rfl) (by kernel_rfl) (by kernel_rfl) (fun _ _ _ h => h) (Or.inl ⟨by rfl, ?_⟩) (by exact c3) ?_
  rotate_left
  · (intro w hSw; (try dsimp only at hSw); go_simp; (try with_reducible rfl))
  (try (simp only [Act.put, List.getElem_toArray, List.getElem_cons_zero, List.getElem_cons_succ, List.setIfInBounds_toArray, List.set_cons_zero, List.set_cons_succ]))
  refine wpAnyT_take (i := 6) (v := ?_) rfl (by kernel_rfl) (by kernel_rfl) (by kernel_rfl) (by kernel_rfl) (fun _ _ _ h => h) (Or.inl ⟨by rfl, ?_⟩) (by exact c3) ?_
  rotate_left
  · (intro w hSw; (try dsimp only at hSw); go_simp; (try with_reducible rfl))
  (try (simp only [Act.put, List.getElem_toArray, List.getElem_cons_zero, List.getElem_cons_succ, List.setIfInBounds_toArray, List.set_cons_zero, List.set_cons_succ]))
  refine wpAnyT_take (i := 7) (v := ?_) rfl (by kernel_rfl) (by kernel_rfl) (by kernel_rfl) (by kernel_rfl) (fun _ _ _ h => h) (Or.inl ⟨by rfl, ?_⟩) (by exact c3) ?_
  rotate_left
  · (intro w hSw; (try dsimp only at hSw); go_simp; (try with_reducible rfl))
  (try (simp only [Act.put, List.getElem_toArray, List.getElem_cons_zero, List.getElem_cons_succ, List.setIfInBounds_toArray, List.set_cons_zero, List.set_cons_succ]))
  refine wpAnyT_take (i := 8) (v := ?_) rfl (by kernel_rfl) (by kernel_rfl) (by kernel_rfl) (by kernel_rfl) (fun _ _ _ h => h) (Or.inl ⟨by rfl, ?_⟩) (by exact c3) ?_
  rotate_left
  · (intro w hSw; (try dsimp only at hSw); go_simp; (try with_reducible rfl))
  (try (simp only [Act.put, List.getElem_toArray, List.getElem_cons_zero, List.getElem_cons_succ, List.setIfInBounds_toArray, List.set_cons_zero, List.set_cons_succ]))
  refine wpAnyT_take (i := 9) (v := ?_) rfl (by kernel_rfl) (by kernel_rfl) (by kernel_rfl) (by kernel_rfl) (fun _ _ _ h => h) (Or.inl ⟨by rfl, ?_⟩) (by exact c3) ?_
  rotate_left
  · (intro w hSw; (try dsimp only at hSw); go_simp; (try with_reducible rfl))
  (try (simp only [Act.put, List.getElem_toArray, List.getElem_cons_zero, List.getElem_cons_succ, List.setIfInBounds_toArray, List.set_cons_zero, List.set_cons_succ]))
  refine wpAnyT_take (i := 10) (v := ?_) rfl (by kernel_rfl) (by kernel_rfl) (by kernel_rfl) (by kernel_rfl) (fun _ _ _ h => h) (Or.inl ⟨by rfl, ?_⟩) (by exact c3) ?_
  rotate_left
  · (intro w hSw; (try dsimp only at hSw); go_simp; (try with_reducible rfl))
  (try (simp only [Act.put, List.getElem_toArray, List.getElem_cons_zero, List.getElem_cons_succ, List.setIfInBounds_toArray, List.set_cons_zero, List.set_cons_succ]))
  refine wpAnyT_step (i := 11) (by kernel_rfl) rfl rfl ?_
  go_simp
  refine KP.out.mono ?_
  rintro e w1 ⟨rfl, rfl⟩
  (try refine ⟨by first | exact fun _ => c3 | exact c3, ?_⟩)
  (try (simp only [Act.put, List.getElem_toArray, List.getElem_cons_zero, List.getElem_cons_succ, List.setIfInBounds_toArray, List.set_cons_zero, List.set_cons_succ]))
  refine wpAnyT_step (i := 12) (by kernel_rfl) rfl rfl ?_
  go_simp
  (try refine ⟨by first | exact fun _ => c3 | exact c3, ?_⟩)
  (try (simp only [Act.put, List.getElem_toArray, List.getElem_cons_zero, List.getElem_cons_succ, List.setIfInBounds_toArray, List.set_cons_zero, List.set_cons_succ]))
  refine wpAnyT_step (i := 13) (by kernel_rfl) rfl rfl ?_
  go_simp
  (try refine ⟨by first | exact fun _ => c3 | exact c3, ?_⟩)
  (try (simp only [Act.put, List.getElem_toArray, List.getElem_cons_zero, List.getElem_cons_succ, List.setIfInBounds_toArray, List.set_cons_zero, List.set_cons_succ]))
  refine wpAnyT_step (i := 14) (by kernel_rfl) rfl rfl ?_
  go_simp
  (try refine ⟨by first | exact fun _ => c3 | exact c3, ?_⟩)
  (try (simp only [Act.put, List.getElem_toArray, List.getElem_cons_zero, List.getElem_cons_succ, List.setIfInBounds_toArray, List.set_cons_zero, List.set_cons_succ]))
  refine wpAnyT_step (i := 15) (by kernel_rfl) rfl rfl ?_
  go_simp
  (try (simp only [Act.put, List.getElem_toArray, List.getElem_cons_zero, List.getElem_cons_succ, List.setIfInBounds_toArray, List.set_cons_zero, List.set_cons_succ]))
  (try refine wpAnyT_done (by kernel_rfl) ?_ _)
  (try (simp only [Act.put, List.getElem_toArray, List.getElem_cons_zero, List.getElem_cons_succ, List.setIfInBounds_toArray, List.set_cons_zero, List.set_cons_succ]))
  obtain ⟨W0, hW0⟩ : ∃ W0, W0 = (w.setCell ⟨dp, 3, none⟩ (.slice I.Ac k0 I.cc)).drew := ⟨_, rfl⟩
  have HS : Hid (Calls Try.prog 55 #[.pointer (some ⟨dp, 0, none⟩)] W0 fun e w' => e = .returned (.tuple #[]) ∧ DK w' X base dp { S with safe := D, chs := [] } { I with Ac := none, cc := 0, clos := [] } ∧ FrX X W0 w') := by rw [hW0]; exact HS
  have HF0 : Hid (Nx X w X W0) := by rw [hW0]; exact HF0
  rw [← hW0]
  clear hW0 c3 fr3 hsl KP
  go_wp2_with fail
  refine HS.out.mono ?_
  rintro e w1 ⟨rfl, d1, f1⟩
  have N1 := Lib.hid (HF0.out.trans (Nx.of_fr f1))
  have D1 := Lib.hid d1
  obtain ⟨g0, g1, g2, g3, g4, g5, g6⟩ := d1.at_
  have hmkd := run_mkD w1
  have D2 := Lib.hid d1.newDir.1
  have N2 := Lib.hid (N1.out.trans d1.newDir.2)
  have fr1 : w1.frozen? ⟨dp, 1, none⟩ = false := by simp [World.frozen?, d1.blk]
  have fr1' : (w1.alloc (.map #[] 0)).frozen? ⟨dp, 1, none⟩ = false := by simp [World.frozen?, (heap_alloc_old w1 (.map #[] 0) (d1.bd dp d1.xs.1).2).trans d1.blk]
  have g1' : (w1.alloc (.map #[] 0)).cell? ⟨dp, 1, none⟩ = some (.map (some I.F)) := cell_of_row _ dp 1 _ _ (0, 0) ((heap_alloc_old w1 (.map #[] 0) (d1.bd dp d1.xs.1).2).trans d1.blk)
  have g2' : (w1.alloc (.map #[] 0)).cell? ⟨dp, 2, none⟩ = some (.map (some I.Sb)) := cell_of_row _ dp 2 _ _ (0, 0) ((heap_alloc_old w1 (.map #[] 0) (d1.bd dp d1.xs.1).2).trans d1.blk)
  clear d1 f1 g0 g3 g4 g5 g6 HS
  obtain ⟨W2, hW2⟩ : ∃ W2, W2 = (w1.alloc (.map #[] 0)).setCell ⟨dp, 1, none⟩ (.map (some w1.heap.size)) := ⟨_, rfl⟩
  obtain ⟨X2, hX2⟩ : ∃ X2 : Nat → Prop, X2 = fun b => X b ∨ b = w1.heap.size := ⟨_, rfl⟩
  rw [← hW2, ← hX2] at D2 N2
  have HE2 : Hid (∃ I', DK W2 X2 base dp (onS ks S D 0) I' ∧ I'.Sb = I.Sb) := Lib.hid ⟨_, D2.out, rfl⟩
  have HX2 : Hid (∀ b, X2 b → b < W2.heap.size) := Lib.hid (fun b hb => (D2.out.bd b hb).2)
  have HXk : Hid (0 < mk → ∀ a, Ak = some a → a.block < w.heap.size → ¬ X2 a.block) := Lib.hid (fun h0 a ha hl hx => by
    rw [hX2] at hx
    rcases hx with hx | hx
    · exact HnX.out h0 a ha hx
    · have := N1.out.fr.size; omega)
  have HNM : Hid (Calls Try.prog 57 #[.map (some I.Sb)] W2 fun e w' => ∃ A c, e = .returned (.slice A D.length c) ∧ OwnG shNm 9 w' W2.heap.size A c (D.map fun e => e.1) ∧ Ext W2 w') := Lib.hid (names_any (w := W2) (b := I.Sb) (d := D) D2.out.dS (by omega))
  go_wp2_with fail
  rw [← hW2]
  clear hW2 hX2 hmkd fr1 fr1' g1 g1' g2 g2' D2 D1 N1
  refine HNM.out.mono ?_
  rintro e W3 ⟨An, cn, rfl, hON, hE3⟩
  have HON := Lib.hid hON
  have HE3 := Lib.hid hE3
  have N3 := Lib.hid (N2.out.ext hE3)
  obtain ⟨mD, hmD⟩ : ∃ m, m = D.length := ⟨_, rfl⟩
  rw [← hmD]
  have HmD := Lib.hid hmD
  have hm4 : mD ≤ 400 := by omega
  clear hON hE3 HNM N2 hmD hlen
  go_wp2_with fail
  go_loopw [4, 5, 6, 34] (fun _ _ _ i wr => ∃ j : Nat, j ≤ mD ∧ i = .int .i64 (j : Int) ∧ Hid (∃ I', DK wr X2 base dp (onS ks S D j) I') ∧ Hid (FrX X2 W3 wr)) (fun _ _ _ i _ => mD - (intOf i).toNat)
  case atStart => exact ⟨0, Nat.zero_le _, rfl, Lib.hid (by obtain ⟨I', h1, _⟩ := HE2.out; exact ⟨I', h1.ext HE3.out⟩), Lib.hid (FrX.refl _ _)⟩
  case round =>
    obtain ⟨j, hj, rfl, HI, HG⟩ := hrel
    by_cases hlt : j < mD
    · obtain ⟨I', hI'⟩ := HI.out
      have HD := Lib.hid hI'
      obtain ⟨a0, a1, a2, a3, a4, a5, a6⟩ := hI'.at_
      obtain ⟨b, x, hA, hbl, hblt, hc, hce, _⟩ := HON.out.at_ (j := j) (by rw [List.length_map]; have := HmD.out; omega)
      have hce := hce 0 _ rfl
      have hnb : ¬ X2 b := fun hx => by have := HX2.out b hx; omega
      have hcr : wr.cell? ⟨b, j, none⟩ = some (nm x) := by
        have e1 := (World.cell?_of_block (w := W3) (w' := wr) (a := ⟨b, j, none⟩) (HG.out.block b hblt hnb))
        rw [e1]
        simpa [shNm] using hce
      rw [hA]
      obtain ⟨q, hDj⟩ : ∃ q, D[j]? = some (x, q) := by
        rw [List.getElem?_map] at hc
        cases hDj : D[j]? with
        | none => rw [hDj] at hc; cases hc
        | some e => rw [hDj] at hc; injection hc with hc; exact ⟨e.2, by rw [← hc]⟩
      have hlq : lkp D x = some q := (lkp_mem HA.out).2 (List.mem_of_getElem? hDj)
      obtain ⟨hx40, hxf⟩ := HDid.out x q hlq
      have lk := hI'.dS.look (x := x) (by unfold maxLen; omega)
      rw [show (onS ks S D j).safe = D from rfl, hlq] at lk
      replace lk : (Instr.lookup 84 (.map (some I'.Sb)) (nm x) false).run Try.prog wr = .ok (.pointer (some ⟨q, 0, none⟩)) wr := lk
      obtain ⟨f0, hf0⟩ := onFl_has (ks := ks) (d := D) j hxf
      obtain ⟨k1, k2, k3⟩ := hI'.fil q f0 hf0
      obtain ⟨Aq, hAq⟩ : ∃ A, A = I'.rows q := ⟨_, rfl⟩
      obtain ⟨cq, hcq⟩ : ∃ c, c = I'.caps q := ⟨_, rfl⟩
      obtain ⟨mq, hmq⟩ : ∃ m, m = f0.data.length := ⟨_, rfl⟩
      obtain ⟨sq, hsq⟩ : ∃ s, s = f0.safe := ⟨_, rfl⟩
      have kb := k1.blk
      have kle := k1.le
      have kcap := k1.own.cap
      rw [← hAq, ← hcq, ← hmq, ← hsq] at kb
      rw [← hmq, ← hsq] at kle
      rw [← hmq, ← hcq] at kcap
      have e0 : wr.cell? ⟨q, 0, none⟩ = some (.slice Aq mq cq) := cell_of_row wr q 0 _ _ (0, 0) kb
      have e1 : wr.cell? ⟨q, 1, none⟩ = some (.int .i64 (sq : Int)) := cell_of_row wr q 1 _ _ (0, 0) kb
      have hbig : mq ≤ 9223372036854775807 := by omega
      obtain ⟨nq, hnq⟩ : ∃ n, n = mq - sq := ⟨_, rfl⟩
      have hkl := keptC_le ks (j + 1) nq
      obtain ⟨kk, hkk⟩ : ∃ k, k = (keptC ks (j + 1) (nq : Int)).toNat := ⟨_, rfl⟩
      have hkv : keptC ks (j + 1) (nq : Int) = (kk : Int) := by omega
      obtain ⟨s2, hs2⟩ : ∃ s, s = sq + kk := ⟨_, rfl⟩
      have hs2m : s2 ≤ mq := by omega
      have hw1 : IntKind.i64.wrap ((j : Int) + 1) = ((j + 1 : Nat) : Int) := by rw [IntWalk.i64_in _ (by omega)]; omega
      have hw2 : IntKind.i64.wrap ((mq : Int) - (sq : Int)) = (nq : Int) := by rw [IntWalk.i64_in _ (by omega)]; omega
      have hw3 : IntKind.i64.wrap ((sq : Int) + (kk : Int)) = (s2 : Int) := by rw [IntWalk.i64_in _ (by omega)]; omega
      have Hrk : RdG shZ wr.drew Ak mk ks := by
        rcases Nat.eq_zero_or_pos mk with h0 | h0
        · exact ⟨Hr.out.1, fun hm => by omega⟩
        · exact (Hr.out.fr (w' := W3) N3.out.fr.size (fun a ha hl => N3.out.fr.block _ hl (fun hx => HnX.out h0 a ha hx))).fr (w' := wr.drew) HG.out.size (fun a ha hl => HG.out.block _ hl (fun hx => HXk.out h0 a ha (Hr.out.lt h0 a ha) hx))
      have KP2 : Hid (Calls Try.prog 56 #[.slice Ak mk ck, .int .i64 ((j + 1 : Nat) : Int), .int .i64 (nq : Int)] wr.drew fun e w' => e = .returned (.int .i64 (kk : Int)) ∧ w' = wr.drew) := Lib.hid (by rw [← hkv]; exact kept_any Hrk (j + 1) (nq : Int))
      have fr1 : wr.frozen? ⟨q, 1, none⟩ = false := by simp [World.frozen?, kb]
      have HKB := Lib.hid kb
      have HF0' := Lib.hid hf0
      have HDj := Lib.hid hDj
      have Hx40 := Lib.hid hx40
      have Hkeep : Hid (keepF ks j f0 = ⟨f0.data.take s2, s2⟩) := Lib.hid (by
        unfold keepF
        rw [← hmq, ← hsq, show (mq : Int) - (sq : Int) = (nq : Int) from by omega, ← hkk, ← hs2])
      have Hs2m := Lib.hid hs2m
      have Hq : Hid (X2 q) := Lib.hid k2
      have HAq := Lib.hid hAq
      have Hcq := Lib.hid hcq
      have Hmq := Lib.hid hmq
      have hsl2 := run_upto .i64 Aq mq cq s2 (by omega)
      have Hlt := Lib.hid hlt
      clear hI' a0 a3 a4 a5 a6 hA hbl hblt hc hce hnb hDj hlq hxf hf0 k1 k2 k3 hAq hcq hmq hsq kb kle kcap hbig hnq hkl hkk hkv hs2 hs2m Hrk hx40
      go_wp2_with fail
      refine wp_region_T (S := fun W => W.cell? ⟨q, 0, none⟩ = some (.slice Aq mq cq) ∧ W.cell? ⟨q, 1, none⟩ = some (.int .i64 (sq : Int))) (late := fun j => j == 21) (by kernel_rfl) ?_
      refine wpAnyT_take (i := 0) (v := ?_) rfl (by kernel_rfl) (by kernel_rfl) (by kernel_rfl) (by kernel_rfl) (fun _ _ _ h => h) (Or.inl ⟨by rfl, ?_⟩) (by exact ⟨e0, e1⟩) ?_
      rotate_left
      · (intro w hSw; (try dsimp only at hSw); go_simp; (try with_reducible rfl))
      (try (simp only [Act.put, List.getElem_toArray, List.getElem_cons_zero, List.setIfInBounds_toArray, List.set_cons_zero, List.set_cons_succ]))
      refine wpAnyT_take (i := 1) (v := ?_) rfl (by kernel_rfl) (by kernel_rfl) (by kernel_rfl) (by kernel_rfl) (fun _ _ _ h => h) (Or.inl ⟨by rfl, ?_⟩) (by exact ⟨e0, e1⟩) ?_
      rotate_left
      · (intro w hSw; (try dsimp only at hSw); go_simp; (try with_reducible rfl))
      (try (simp only [Act.put, List.getElem_toArray, List.getElem_cons_zero, List.getElem_cons_succ, List.setIfInBounds_toArray, List.set_cons_zero, List.set_cons_succ]))
      refine wpAnyT_take (i := 2) (v := ?_) rfl (by kernel_rfl) (by kernel_rfl) (by kernel_rfl) (by kernel_rfl) (fun _ _ _ h => h) (Or.inl ⟨by rfl, ?_⟩) (by exact ⟨e0, e1⟩) ?_
      rotate_left
      · (intro w hSw; (try dsimp only at hSw); go_simp; (try with_reducible rfl))
      (try (simp only [Act.put, List.getElem_toArray, List.getElem_cons_zero, List.getElem_cons_succ, List.setIfInBounds_toArray, List.set_cons_zero, List.set_cons_succ]))
      refine wpAnyT_take (i := 3) (v := ?_) rfl (by kernel_rfl) (by kernel_rfl) (by kernel_rfl) (by kernel_rfl) (fun _ _ _ h => h) (Or.inl ⟨by rfl, ?_⟩) (by exact ⟨e0, e1⟩) ?_
      rotate_left
      · (intro w hSw; (try dsimp only at hSw); go_simp; (try with_reducible rfl))
      (try (simp only [Act.put, List.getElem_toArray, List.getElem_cons_zero, List.getElem_cons_succ, List.setIfInBounds_toArray, List.set_cons_zero, List.set_cons_succ]))
      refine wpAnyT_take (i := 4) (v := ?_) rfl (by kernel_rfl) (by kernel_rfl) (by kernel_rfl) (by kernel_rfl) (fun _ _ _ h => h) (Or.inl ⟨by rfl, ?_⟩) (by exact ⟨e0, e1⟩) ?_
      rotate_left
      · (intro w hSw; (try dsimp only at hSw); go_simp; (try with_reducible rfl))
      (try (simp only [Act.put, List.getElem_toArray, List.getElem_cons_zero, List.getElem_cons_succ, List.setIfInBounds_toArray, List.set_cons_zero, List.set_cons_succ]))
      refine wpAnyT_take (i := 5) (v := ?_) rfl (by kernel_rfl) (by kernel_rfl) (by kernel_rfl) (by kernel_rfl) (fun _ _ _ h => h) (Or.inl ⟨by rfl, ?_⟩) (by exact ⟨e0, e1⟩) ?_
      rotate_left
      · (intro w hSw; (try dsimp only at hSw); go_simp; (try with_reducible rfl))
      (try (simp only [Act.put, List.getElem_toArray, List.getElem_cons_zero, List.getElem_cons_succ, List.setIfInBounds_toArray, List.set_cons_zero, List.set_cons_succ]))
      refine wpAnyT_take (i := 6) (v := ?_) rfl (by kernel_rfl) (by kernel_rfl) (by kernel_rfl) (by kernel_rfl) (fun _ _ _ h => h) (Or.inl ⟨by rfl, ?_⟩) (by exact ⟨e0, e1⟩) ?_
      rotate_left
      · (intro w hSw; (try dsimp only at hSw); go_simp; (try with_reducible rfl))
      (try (simp only [Act.put, List.getElem_toArray, List.getElem_cons_zero, List.getElem_cons_succ, List.setIfInBounds_toArray, List.set_cons_zero, List.set_cons_succ]))
      refine wpAnyT_take (i := 7) (v := ?_) rfl (by kernel_rfl) (by kernel_rfl) (by kernel_rfl) (by kernel_rfl) (fun _ _ _ h => h) (Or.inl ⟨by rfl, ?_⟩) (by exact ⟨e0, e1⟩) ?_
      rotate_left
      · (intro w hSw; (try dsimp only at hSw); go_simp; (try with_reducible rfl))
      (try (simp only [Act.put, List.getElem_toArray, List.getElem_cons_zero, List.getElem_cons_succ, List.setIfInBounds_toArray, List.set_cons_zero, List.set_cons_succ]))
      refine wpAnyT_take (i := 8) (v := ?_) rfl (by kernel_rfl) (by kernel_rfl) (by kernel_rfl) (by kernel_rfl) (fun _ _ _ h => h) (Or.inl ⟨by rfl, ?_⟩) (by exact ⟨e0, e1⟩) ?_
      rotate_left
      · (intro w hSw; (try dsimp only at hSw); go_simp; (try with_reducible rfl))
      (try (simp only [Act.put, List.getElem_toArray, List.getElem_cons_zero, List.getElem_cons_succ, List.setIfInBounds_toArray, List.set_cons_zero, List.set_cons_succ]))
      refine wpAnyT_take (i := 9) (v := ?_) rfl (by kernel_rfl) (by kernel_rfl) (by kernel_rfl) (by kernel_rfl) (fun _ _ _ h => h) (Or.inl ⟨by rfl, ?_⟩) (by exact ⟨e0, e1⟩) ?_
      rotate_left
      · (intro w hSw; (try dsimp only at hSw); go_simp; (try with_reducible rfl))
      (try (simp only [Act.put, List.getElem_toArray, List.getElem_cons_zero, List.getElem_cons_succ, List.setIfInBounds_toArray, List.set_cons_zero, List.set_cons_succ]))
      refine wpAnyT_take (i := 10) (v := ?_) rfl (by kernel_rfl) (by kernel_rfl) (by kernel_rfl) (by kernel_rfl) (fun _ _ _ h => h) (Or.inl ⟨by rfl, ?_⟩) (by exact ⟨e0, e1⟩) ?_
      rotate_left
      · (intro w hSw; (try dsimp only at hSw); go_simp; (try with_reducible rfl))
      (try (simp only [Act.put, List.getElem_toArray, List.getElem_cons_zero, List.getElem_cons_succ, List.setIfInBounds_toArray, List.set_cons_zero, List.set_cons_succ]))
      refine wpAnyT_take (i := 11) (v := ?_) rfl (by kernel_rfl) (by kernel_rfl) (by kernel_rfl) (by kernel_rfl) (fun _ _ _ h => h) (Or.inl ⟨by rfl, ?_⟩) (by exact ⟨e0, e1⟩) ?_
      rotate_left
      · (intro w hSw; (try dsimp only at hSw); go_simp; (try with_reducible rfl))
      (try (simp only [Act.put, List.getElem_toArray, List.getElem_cons_zero, List.getElem_cons_succ, List.setIfInBounds_toArray, List.set_cons_zero, List.set_cons_succ]))
      refine wpAnyT_take (i := 12) (v := ?_) rfl (by kernel_rfl) (by kernel_rfl) (by kernel_rfl) (by kernel_rfl) (fun _ _ _ h => h) (Or.inl ⟨by rfl, ?_⟩) (by exact ⟨e0, e1⟩) ?_
      rotate_left
      · (intro w hSw; (try dsimp only at hSw); go_simp; (try with_reducible rfl))
      (try (simp only [Act.put, List.getElem_toArray, List.getElem_cons_zero, List.getElem_cons_succ, List.setIfInBounds_toArray, List.set_cons_zero, List.set_cons_succ]))
      refine wpAnyT_take (i := 13) (v := ?_) rfl (by kernel_rfl) (by kernel_rfl) (by kernel_rfl) (by kernel_rfl) (fun _ _ _ h => h) (Or.inl ⟨by rfl, ?_⟩) (by exact ⟨e0, e1⟩) ?_
      rotate_left
      · (intro w hSw; (try dsimp only at hSw); go_simp; (try with_reducible rfl))
      (try (simp only [Act.put, List.getElem_toArray, List.getElem_cons_zero, List.getElem_cons_succ, List.setIfInBounds_toArray, List.set_cons_zero, List.set_cons_succ]))
      refine wpAnyT_take (i := 14) (v := ?_) rfl (by kernel_rfl) (by kernel_rfl) (by kernel_rfl) (by kernel_rfl) (fun _ _ _ h => h) (Or.inl ⟨by rfl, ?_⟩) (by exact ⟨e0, e1⟩) ?_
      rotate_left
      · (intro w hSw; (try dsimp only at hSw); go_simp; (try with_reducible rfl))
      (try (simp only [Act.put, List.getElem_toArray, List.getElem_cons_zero, List.getElem_cons_succ, List.setIfInBounds_toArray, List.set_cons_zero, List.set_cons_succ]))
      refine wpAnyT_take (i := 15) (v := ?_) rfl (by kernel_rfl) (by kernel_rfl) (by kernel_rfl) (by kernel_rfl) (fun _ _ _ h => h) (Or.inl ⟨by rfl, ?_⟩) (by exact ⟨e0, e1⟩) ?_
      rotate_left
      · (intro w hSw; (try dsimp only at hSw); go_simp; (try with_reducible rfl))
      (try (simp only [Act.put, List.getElem_toArray, List.getElem_cons_zero, List.getElem_cons_succ, List.setIfInBounds_toArray, List.set_cons_zero, List.set_cons_succ]))
      refine wpAnyT_take (i := 16) (v := ?_) rfl (by kernel_rfl) (by kernel_rfl) (by kernel_rfl) (by kernel_rfl) (fun _ _ _ h => h) (Or.inl ⟨by rfl, ?_⟩) (by exact ⟨e0, e1⟩) ?_
      rotate_left
      · (intro w hSw; (try dsimp only at hSw); go_simp; (try with_reducible rfl))
      (try (simp only [Act.put, List.getElem_toArray, List.getElem_cons_zero, List.getElem_cons_succ, List.setIfInBounds_toArray, List.set_cons_zero, List.set_cons_succ]))
      refine wpAnyT_step (i := 17) (by kernel_rfl) rfl rfl ?_
      go_simp
      refine KP2.out.mono ?_
      rintro e w1 ⟨rfl, rfl⟩
      (try refine ⟨by first | exact fun _ => ⟨e0, e1⟩ | exact ⟨e0, e1⟩, ?_⟩)
      (try (simp only [Act.put, List.getElem_toArray, List.getElem_cons_zero, List.getElem_cons_succ, List.setIfInBounds_toArray, List.set_cons_zero, List.set_cons_succ]))
      refine wpAnyT_step (i := 18) (by kernel_rfl) rfl rfl ?_
      go_simp
      (try refine ⟨by first | exact fun _ => ⟨e0, e1⟩ | exact ⟨e0, e1⟩, ?_⟩)
      (try (simp only [Act.put, List.getElem_toArray, List.getElem_cons_zero, List.getElem_cons_succ, List.setIfInBounds_toArray, List.set_cons_zero, List.set_cons_succ]))
      refine wpAnyT_step (i := 19) (by kernel_rfl) rfl rfl ?_
      go_simp
      (try refine ⟨by first | exact fun _ => ⟨e0, e1⟩ | exact ⟨e0, e1⟩, ?_⟩)
      (try (simp only [Act.put, List.getElem_toArray, List.getElem_cons_zero, List.getElem_cons_succ, List.setIfInBounds_toArray, List.set_cons_zero, List.set_cons_succ]))
      refine wpAnyT_step (i := 20) (by kernel_rfl) rfl rfl ?_
      go_simp
      (try refine ⟨by first | exact fun _ => ⟨e0, e1⟩ | exact ⟨e0, e1⟩, ?_⟩)
      (try (simp only [Act.put, List.getElem_toArray, List.getElem_cons_zero, List.getElem_cons_succ, List.setIfInBounds_toArray, List.set_cons_zero, List.set_cons_succ]))
      refine wpAnyT_step (i := 21) (by kernel_rfl) rfl rfl ?_
      go_simp
      (try (simp only [Act.put, List.getElem_toArray, List.getElem_cons_zero, List.getElem_cons_succ, List.setIfInBounds_toArray, List.set_cons_zero, List.set_cons_succ]))
      (try refine wpAnyT_done (by kernel_rfl) ?_ _)
      (try (simp only [Act.put, List.getElem_toArray, List.getElem_cons_zero, List.getElem_cons_succ, List.setIfInBounds_toArray, List.set_cons_zero, List.set_cons_succ]))
      obtain ⟨W7, hW7⟩ : ∃ W7, W7 = (wr.setCell ⟨q, 1, none⟩ (.int .i64 (s2 : Int))).drew := ⟨_, rfl⟩
      have hg7 : wr.grownBy W7 (some q) := by rw [hW7]; exact grown_drew (setCell_grown wr ⟨q, 1, none⟩ (.int .i64 (s2 : Int)))
      have hb7 : W7.heap[q]? = some (.cells #[.slice Aq mq cq, .int .i64 (s2 : Int)] 96 (0, 0)) := by
        rw [hW7]
        refine (heap_setCell_same wr q 1 _ _ _ HKB.out).trans ?_
        rfl
      rw [← hW7]
      have e02 : W7.cell? ⟨q, 0, none⟩ = some (.slice Aq mq cq) := cell_of_row W7 q 0 _ _ (0, 0) hb7
      have e12 : W7.cell? ⟨q, 1, none⟩ = some (.int .i64 (s2 : Int)) := cell_of_row W7 q 1 _ _ (0, 0) hb7
      have fr2 : W7.frozen? ⟨q, 0, none⟩ = false := by simp [World.frozen?, hb7]
      have Hg7 := Lib.hid hg7
      have Hb7 := Lib.hid hb7
      clear hW7 hg7 hb7 fr1 e0 e1 KP2
      go_wp2_with fail
      refine wp_region_T (S := fun W => W.cell? ⟨q, 0, none⟩ = some (.slice Aq mq cq) ∧ W.cell? ⟨q, 1, none⟩ = some (.int .i64 (s2 : Int))) (late := fun j => j == 12) (by kernel_rfl) ?_
      refine wpAnyT_take (i := 0) (v := ?_) rfl (by kernel_rfl) (by kernel_rfl) (by kernel_rfl) (by kernel_rfl) (fun _ _ _ h => h) (Or.inl ⟨by rfl, ?_⟩) (by exact ⟨e02, e12⟩) ?_
      rotate_left
      · (intro w hSw; (try dsimp only at hSw); go_simp; (try with_reducible rfl))
      (try (simp only [Act.put, List.getElem_toArray, List.getElem_cons_zero, List.setIfInBounds_toArray, List.set_cons_zero, List.set_cons_succ]))
      refine wpAnyT_take (i := 1) (v := ?_) rfl (by kernel_rfl) (by kernel_rfl) (by kernel_rfl) (by kernel_rfl) (fun _ _ _ h => h) (Or.inl ⟨by rfl, ?_⟩) (by exact ⟨e02, e12⟩) ?_
      rotate_left
      · (intro w hSw; (try dsimp only at hSw); go_simp; (try with_reducible rfl))
      (try (simp only [Act.put, List.getElem_toArray, List.getElem_cons_zero, List.getElem_cons_succ, List.setIfInBounds_toArray, List.set_cons_zero, List.set_cons_succ]))
      refine wpAnyT_take (i := 2) (v := ?_) rfl (by kernel_rfl) (by kernel_rfl) (by kernel_rfl) (by kernel_rfl) (fun _ _ _ h => h) (Or.inl ⟨by rfl, ?_⟩) (by exact ⟨e02, e12⟩) ?_
      rotate_left
      · (intro w hSw; (try dsimp only at hSw); go_simp; (try with_reducible rfl))
      (try (simp only [Act.put, List.getElem_toArray, List.getElem_cons_zero, List.getElem_cons_succ, List.setIfInBounds_toArray, List.set_cons_zero, List.set_cons_succ]))
      refine wpAnyT_take (i := 3) (v := ?_) rfl (by kernel_rfl) (by kernel_rfl) (by kernel_rfl) (by kernel_rfl) (fun _ _ _ h => h) (Or.inl ⟨by rfl, ?_⟩) (by exact ⟨e02, e12⟩) ?_
      rotate_left
      · (intro w hSw; (try dsimp only at hSw); go_simp; (try with_reducible rfl))
      (try (simp only [Act.put, List.getElem_toArray, List.getElem_cons_zero, List.getElem_cons_succ, List.setIfInBounds_toArray, List.set_cons_zero, List.set_cons_succ]))
      refine wpAnyT_take (i := 4) (v := ?_) rfl (by kernel_rfl) (by kernel_rfl) (by kernel_rfl) (by kernel_rfl) (fun _ _ _ h => h) (Or.inl ⟨by rfl, ?_⟩) (by exact ⟨e02, e12⟩) ?_
      rotate_left
      · (intro w hSw; (try dsimp only at hSw); go_simp; (try with_reducible rfl))
      (try (simp only [Act.put, List.getElem_toArray, List.getElem_cons_zero, List.getElem_cons_succ, List.setIfInBounds_toArray, List.set_cons_zero, List.set_cons_succ]))
      refine wpAnyT_take (i := 5) (v := ?_) rfl (by kernel_rfl) (by kernel_rfl) (by kernel_rfl) (by kernel_rfl) (fun _ _ _ h => h) (Or.inl ⟨by rfl, ?_⟩) (by exact ⟨e02, e12⟩) ?_
      rotate_left
      · (intro w hSw; (try dsimp only at hSw); go_simp; (try with_reducible rfl))
      (try (simp only [Act.put, List.getElem_toArray, List.getElem_cons_zero, List.getElem_cons_succ, List.setIfInBounds_toArray, List.set_cons_zero, List.set_cons_succ]))
      refine wpAnyT_take (i := 6) (v := ?_) rfl (by kernel_rfl) (by kernel_rfl) (by kernel_rfl) (by kernel_rfl) (fun _ _ _ h => h) (Or.inl ⟨by rfl, ?_⟩) (by exact ⟨e02, e12⟩) ?_
      rotate_left
      · (intro w hSw; (try dsimp only at hSw); go_simp; (try with_reducible rfl))
      (try (simp only [Act.put, List.getElem_toArray, List.getElem_cons_zero, List.getElem_cons_succ, List.setIfInBounds_toArray, List.set_cons_zero, List.set_cons_succ]))
      refine wpAnyT_take (i := 7) (v := ?_) rfl (by kernel_rfl) (by kernel_rfl) (by kernel_rfl) (by kernel_rfl) (fun _ _ _ h => h) (Or.inl ⟨by rfl, ?_⟩) (by exact ⟨e02, e12⟩) ?_
      rotate_left
      · (intro w hSw; (try dsimp only at hSw); go_simp; (try with_reducible rfl))
      (try (simp only [Act.put, List.getElem_toArray, List.getElem_cons_zero, List.getElem_cons_succ, List.setIfInBounds_toArray, List.set_cons_zero, List.set_cons_succ]))
      refine wpAnyT_take (i := 8) (v := ?_) rfl (by kernel_rfl) (by kernel_rfl) (by kernel_rfl) (by kernel_rfl) (fun _ _ _ h => h) (Or.inl ⟨by rfl, ?_⟩) (by exact ⟨e02, e12⟩) ?_
      rotate_left
      · (intro w hSw; (try dsimp only at hSw); go_simp; (try with_reducible rfl))
      (try (simp only [Act.put, List.getElem_toArray, List.getElem_cons_zero, List.getElem_cons_succ, List.setIfInBounds_toArray, List.set_cons_zero, List.set_cons_succ]))
      refine wpAnyT_step (i := 9) (by kernel_rfl) rfl rfl ?_
      go_simp
      (try refine ⟨by first | exact fun _ => ⟨e02, e12⟩ | exact ⟨e02, e12⟩, ?_⟩)
      (try (simp only [Act.put, List.getElem_toArray, List.getElem_cons_zero, List.getElem_cons_succ, List.setIfInBounds_toArray, List.set_cons_zero, List.set_cons_succ]))
      refine wpAnyT_step (i := 10) (by kernel_rfl) rfl rfl ?_
      go_simp
      (try refine ⟨by first | exact fun _ => ⟨e02, e12⟩ | exact ⟨e02, e12⟩, ?_⟩)
      (try (simp only [Act.put, List.getElem_toArray, List.getElem_cons_zero, List.getElem_cons_succ, List.setIfInBounds_toArray, List.set_cons_zero, List.set_cons_succ]))
      refine wpAnyT_step (i := 11) (by kernel_rfl) rfl rfl ?_
      go_simp
      (try refine ⟨by first | exact fun _ => ⟨e02, e12⟩ | exact ⟨e02, e12⟩, ?_⟩)
      (try (simp only [Act.put, List.getElem_toArray, List.getElem_cons_zero, List.getElem_cons_succ, List.setIfInBounds_toArray, List.set_cons_zero, List.set_cons_succ]))
      refine wpAnyT_step (i := 12) (by kernel_rfl) rfl rfl ?_
      go_simp
      (try (simp only [Act.put, List.getElem_toArray, List.getElem_cons_zero, List.getElem_cons_succ, List.setIfInBounds_toArray, List.set_cons_zero, List.set_cons_succ]))
      (try refine wpAnyT_done (by kernel_rfl) ?_ _)
      (try (simp only [Act.put, List.getElem_toArray, List.getElem_cons_zero, List.getElem_cons_succ, List.setIfInBounds_toArray, List.set_cons_zero, List.set_cons_succ]))
      obtain ⟨W8, hW8⟩ : ∃ W8, W8 = (W7.setCell ⟨q, 0, none⟩ (.slice Aq s2 cq)).drew := ⟨_, rfl⟩
      have hg8 : wr.grownBy W8 (some q) := by rw [hW8]; exact Hg7.out.trans (grown_drew (setCell_grown W7 ⟨q, 0, none⟩ (.slice Aq s2 cq)))
      have hb8 : W8.heap[q]? = some (.cells #[.slice Aq s2 cq, .int .i64 (s2 : Int)] 96 (0, 0)) := by
        rw [hW8]
        refine (heap_setCell_same W7 q 0 _ _ _ Hb7.out).trans ?_
        rfl
      rw [← hW8]
      have D8 := HD.out.wrote (w' := W8) (f1 := keepF ks j f0) HF0'.out (k := s2) (by rw [← Hmq.out]; exact Hs2m.out) (by rw [Hkeep.out]) (by rw [Hkeep.out]; exact Nat.le_refl _) hg8 (by rw [hb8, Hkeep.out, HAq.out, Hcq.out])
      have HD8 := Lib.hid D8
      have b1 : W8.cell? ⟨dp, 1, none⟩ = some (.map (some I'.F)) := D8.at_.2.1
      have Hg8 := Lib.hid hg8
      have hd8 := D8.dF
      have hd8 : DirR W8 I'.F (D.take j) := hd8
      have HDir := Lib.hid hd8
      have hlt2 : (D.take j).length < maxLen := by rw [List.length_take]; unfold maxLen; omega
      have hx9 : x.length ≤ maxLen := by have := Hx40.out; unfold maxLen; omega
      clear hW8 hg8 hb8 e02 e12 fr2 D8 hd8
      go_wp2_with (at_mapUpdate; refine wpList_dirPut rfl _ _ _ rfl rfl HDir.out hlt2 (k := x) (q := q) hx9 rfl rfl ?_; intro w9 h9 g9)
      go_roundw
      case rel =>
        have hpn := put_next HA.out HDj.out
        have hmem := List.mem_of_getElem? HDj.out
        have hlen9 : (putD (D.take j) x q).length ≤ 400 := by rw [hpn, List.length_take]; have := HmD.out; omega
        have D9 := HD8.out.named (x := x) (q := q) Hx40.out (has_setF (q := q) (g := fun _ => keepF ks j f0) ⟨_, HF0'.out⟩) hlen9 h9 g9
        have e9 : onS ks S D (j + 1) = { S with files := putD (D.take j) x q, safe := D, chs := [], fl := setF (onFl ks D S.fl j) q fun _ => keepF ks j f0 } := by
          unfold onS
          rw [hpn]
          have e10 : onFl ks D S.fl (j + 1) = setF (onFl ks D S.fl j) q (keepF ks j) := by
            rw [onFl]
            simp only [HDj.out]
          have e11 : setF (onFl ks D S.fl j) q (keepF ks j) = setF (onFl ks D S.fl j) q fun _ => keepF ks j f0 := setF_one HD.out.nd HF0'.out (keepF ks j)
          rw [e10, e11]
        have Hex : ∃ I2, DK w9 X2 base dp (onS ks S D (j + 1)) I2 := ⟨_, by rw [e9]; exact D9⟩
        exact ⟨j + 1, by have := Hlt.out; omega, by go_num, Lib.hid Hex, Lib.hid ((HG.out.trans (grownBy_frX Hg8.out (.inl Hq.out))).trans (grownBy_frX g9 (.inl HD8.out.xs.2.1)))⟩
      case measure => simp [intOf]; have := Hlt.out; omega
    · obtain rfl : j = mD := by omega
      obtain ⟨I', hI'⟩ := HI.out
      have HD := Lib.hid hI'
      have a6 := hI'.at_.2.2.2.2.2.2
      have fr6 : wr.frozen? ⟨dp, 6, none⟩ = false := by simp [World.frozen?, hI'.blk]
      clear hI'
      go_wp2_with fail
      go_end0
      refine ⟨rfl, X2, I', ?_, (N3.out.trans (Nx.of_fr HG.out)).trans (Nx.of_grown (setCell_grown wr ⟨dp, 6, none⟩ _) HD.out.xs.1)⟩
      rw [Hdo.out, ← HmD.out]
      exact HD.out.powered true
end

end Go.Proofs.Ytjckfbpdnpehcaa
