/-
  Layer 4: the law of frames one behind the other.
-/
import Derived.Test.YtegplcllimoakaaJ2
import Derived.Deep.RegionHeld3
namespace Go.Proofs.Ytegplcllimoakaa
open Go.RowKit

theorem Try.infoInt : (Try.prog.info? 3).map (fun i => (i.zero, i.size, i.bytes)) = some (some (.int .i64 0), 1, 8) := by kernel_rfl

theorem own_neF {w : World} {base base' c c' : Nat} {A A' : Option Addr} {k : IntKind} {e : TypeId} {fs : List Fr} {xs : List Nat} (h : OwnF w base A c fs) (k : Own k e w base' A' c' xs) (hne : 45 ≠ e) : ∀ p q, A = some p → A' = some q → p.block ≠ q.block := by
  rintro p q rfl rfl hpq
  rcases h.2 with ⟨hv, _⟩ | ⟨g, cap, cur, hv, hg, hh, _⟩
  · cases hv
  · injection hv with hA
    injection hA with hA
    subst hA
    rcases k.2 with ⟨hv', _⟩ | ⟨g', cap', cur', hv', _, hh', _⟩
    · cases hv'
    · injection hv' with hA
      injection hA with hA
      subst hA
      simp only at hpq
      subst hpq
      rw [hh] at hh'
      injection hh' with hh'
      injection hh' with h1 h2 h3
      exact hne h2

theorem own_neK {w : World} {base base' c c' : Nat} {A A' : Option Addr} {k k' : IntKind} {e e' : TypeId} {xs ys : List Nat} (h : Own k e w base A c ys) (k : Own k' e' w base' A' c' xs) (hne : e ≠ e') : ∀ p q, A = some p → A' = some q → p.block ≠ q.block := by
  intro p q hp hq hpq
  have := own_ne2 h k hne q hq
  rw [hp] at this
  exact this (by simp [Value.ownBlock, hpq])

theorem Own.init (w : World) {base : Nat} (hb : base ≤ w.heap.size) : Own .i64 3 (w.alloc (.cells #[.int .i64 0] 3)) base (some ⟨w.heap.size, 0, none⟩) 1 [0] :=
  ⟨rfl, .inr ⟨w.heap.size, 1, #[.int .i64 0], rfl, hb, heap_alloc_new w _, Nat.le_refl _, by unfold maxLen; omega, rfl, rfl⟩⟩

theorem OwnF.grown {w w' : World} {base c : Nat} {A : Option Addr} {fs : List Fr} {row : Option Nat} (h : OwnF w base A c fs) (hg : w.grownBy w' row) (hne : ∀ a, A = some a → some a.block ≠ row) : OwnF w' base A c fs := by
  refine World.ownsRow.kept h hg ?_
  cases A with
  | none => exact Or.inl rfl
  | some a => exact Or.inr (hne a rfl)

theorem own_neFB {w : World} {base base' c c' : Nat} {A A' : Option Addr} {k : IntKind} {e : TypeId} {fs : List Fr} {xs : List Nat} (h : OwnF w base A c fs) (k : Own k e w base' A' c' xs) (hne : 45 ≠ e) : ∀ a, A' = some a → some a.block ≠ (Value.slice A fs.length c).ownBlock := by
  intro a ha q
  cases hA : A with
  | none => rw [hA] at q; simp [Value.ownBlock] at q
  | some p => rw [hA] at q; simp [Value.ownBlock] at q; exact own_neF h k hne p a hA ha q.symm

theorem ends_pushed {w1 w w' : World} {A5 A6 A7 A' : Option Addr} {c5 c6 c7 : Nat} {xs ys : List Nat} {fs : List Fr} (h5 : Own .u8 5 w w1.heap.size A5 c5 xs) (h6 : Own .i64 3 w w1.heap.size A6 c6 ys) (h7 : OwnF w w1.heap.size A7 c7 fs)
    (hb : Below w1.heap.size w1 w) (hw : A' = A6 ∧ w.grownBy w' (A6.map (·.block)) ∨ Ext w w' ∧ ∀ q, A' = some q → w.heap.size ≤ q.block) : Own .u8 5 w' w1.heap.size A5 c5 xs ∧ OwnF w' w1.heap.size A7 c7 fs ∧ Below w1.heap.size w1 w' := by
  rcases hw with ⟨_, hg⟩ | ⟨he, _⟩
  · refine ⟨h5.grown hg ?_, h7.grown hg ?_, Below.grown hb hg hb.size ?_⟩
    · intro a ha e
      cases hA : A6 with
      | none => rw [hA] at e; simp at e
      | some q => rw [hA] at e; simp at e; exact own_neK h6 h5 (by decide) q a hA ha e.symm
    · intro a ha e
      cases hA : A6 with
      | none => rw [hA] at e; simp at e
      | some q => rw [hA] at e; simp at e; exact own_neF h7 h6 (by decide) a q ha hA e
    · intro g hg'
      cases hA : A6 with
      | none => rw [hA] at hg'; simp at hg'
      | some q => rw [hA] at hg'; simp at hg'; subst hg'; exact (h6.block q hA).1
  · exact ⟨h5.ext he, h7.ext he, Ext.trans hb he⟩

theorem OwnF.cap {w : World} {base c : Nat} {A : Option Addr} {fs : List Fr} (h : OwnF w base A c fs) : fs.length ≤ c ∧ c ≤ 9223372036854775807 := by
  rcases h.2 with ⟨hv, h0⟩ | ⟨g, cap, cur, hv, hg, hh, hnc, hcm, _⟩
  · injection hv with _ _ hc
    omega
  · injection hv with _ _ hc
    subst hc
    exact ⟨hnc, by unfold maxLen at hcm; omega⟩
theorem OwnF.shape {w : World} {base c : Nat} {A : Option Addr} {fs : List Fr} (h : OwnF w base A c fs) : (∃ b o, A = some ⟨b, o, none⟩) ∨ (A = none ∧ c = 0) := by
  rcases h.2 with ⟨hv, h0⟩ | ⟨g, cap, cur, hv, hg, hh, hnc, hcm, _⟩
  · injection hv with hA _ hc
    exact .inr ⟨hA, hc⟩
  · injection hv with hA
    exact .inl ⟨g, 0, hA⟩

theorem sum_mem {l : List FrI} {f : FrI} (h : f ∈ l) : f.body.length + 2 ≤ (l.map fun f => f.body.length + 2).sum := by
  induction l with
  | nil => cases h
  | cons g r ih =>
    rw [List.map_cons, List.sum_cons]
    rcases List.mem_cons.1 h with rfl | h
    · omega
    · have := ih h; omega

theorem sum_take (l : List FrI) (j : Nat) : ((l.take j).map fun f => f.body.length + 2).sum ≤ (l.map fun f => f.body.length + 2).sum := by
  induction l generalizing j with
  | nil => simp
  | cons g r ih =>
    cases j with
    | zero => simp
    | succ j => rw [List.take_succ_cons, List.map_cons, List.map_cons, List.sum_cons, List.sum_cons]; have := ih j; omega

/-- What stands after j frames handed in. -/
structure Stands (w1 wr : World) (gl : List (Nat × List Nat)) (A5 A6 A7 : Option Addr) (c5 c6 c7 : Nat) (ys : List Nat) (fs : List Fr) : Prop where
  own5 : Own .u8 5 wr w1.heap.size A5 c5 (allB gl)
  own6 : Own .i64 3 wr w1.heap.size A6 c6 ys
  own7 : OwnF wr w1.heap.size A7 c7 fs
  ends : EndsL gl ys
  kv : fs.map Fr.kv = gl
  rd : ∀ f ∈ fs, Rd .u8 w1 f.A f.body.length f.body
  below : Below w1.heap.size w1 wr

set_option maxHeartbeats 3200000 in
theorem walk_FrameScans (A : Option Addr) (n c : Nat) (fsI : List FrI) (ct : Int) (w : World) (hx : RdI w A n fsI) (hu : ∀ f ∈ fsI, U8 f.body ∧ -9223372036854775808 ≤ f.k ∧ f.k ≤ 9223372036854775807) (hn : (fsI.map fun f => f.body.length + 2).sum ≤ 1048576) (_h1 : -9223372036854775808 ≤ ct) (h2 : ct ≤ 9223372036854775807) :
    Calls Try.prog 13 #[.slice A n c, .int .i64 ct] w fun e w' => e = .returned (.bool true) ∧ Ext w w' := by
  have Hl := Lib.hid hx.1
  have Hn := Lib.hid hn
  have Hu := Lib.hid hu
  have hnn : n ≤ 1048576 := by
    have : fsI.length ≤ (fsI.map fun f => f.body.length + 2).sum := by
      clear hx hu hn Hl Hn Hu
      induction fsI with
      | nil => simp
      | cons f r ih => simp only [List.map_cons, List.sum_cons, List.length_cons]; omega
    have := hx.1
    omega
  clear hu hn
  go_enter Try.func13, Try.ntmps13
  go_wp2_with fail
  refine (alive4 _).mono ?_
  rintro e w1 ⟨rfl, he1⟩
  have hx1 := hx.ext he1
  clear hx
  go_wp2_with fail
  go_loopw [5, 6, 7, 23] (fun v5 v6 v7 i wr => ∃ (j c5 c6 c7 : Nat) (A5 A6 A7 : Option Addr) (ys : List Nat) (fs : List Fr), j ≤ n ∧ i = .int .i64 j ∧ v5 = .slice A5 (allB (goodI (fsI.take j))).length c5 ∧ v6 = .slice A6 ys.length c6 ∧ v7 = .slice A7 fs.length c7 ∧ Stands w1 wr (goodI (fsI.take j)) A5 A6 A7 c5 c6 c7 ys fs) (fun _ _ _ i _ => n - (intOf i).toNat)
  case atStart =>
    refine ⟨0, 0, 1, 0, _, _, _, [0], [], Nat.zero_le _, rfl, rfl, rfl, rfl, ?_, ?_, ?_, EndsL.nil, rfl, (by intro f hf; cases hf), ((((Ext.refl w1).alloc _).alloc _).alloc _)⟩
    · exact (Own.made _ _ w1 (Nat.le_refl _)).ext (((Ext.refl _).alloc _).alloc _)
    · have h := Own.init (w1.alloc (.cells #[] 5)) (base := w1.heap.size) (by simp)
      simp only [World.size_alloc] at h
      exact h.ext ((Ext.refl _).alloc _)
    · have h := OwnF.made (base := w1.heap.size) ((w1.alloc (.cells #[] 5)).alloc (.cells #[.int .i64 0] 3)) (by simp; omega)
      simp only [World.size_alloc] at h
      exact h
  case round =>
    obtain ⟨j, c5, c6, c7, A5, A6, A7, ys, fs, hj, rfl, rfl, rfl, rfl, hS⟩ := hrel
    by_cases hlt : j < n
    · obtain ⟨b0, o0, f0, e0, _, hf0, _, _, h3w⟩ := hx1.at_ hlt
      obtain ⟨b, o, f, rfl, hbl, hf, h1, h2, h3⟩ := (hx1.ext hS.below).at_ hlt
      have hff : f = f0 := by rw [hf0] at hf; injection hf with h; exact h.symm
      subst hff
      clear e0 hf0
      obtain ⟨k, fA, fc, body⟩ := f
      simp only at h1 h2 h3 h3w
      have huf := Hu.out _ (List.mem_of_getElem? hf)
      simp only at huf
      have hnx : fsI.take (j + 1) = fsI.take j ++ [⟨k, fA, fc, body⟩] := by rw [List.take_add_one, hf]; rfl
      have hble : body.length + 2 ≤ 1048576 := by
        have h := Hn.out
        have : body.length + 2 ≤ (fsI.map fun f => f.body.length + 2).sum := by
          have hm : (⟨k, fA, fc, body⟩ : FrI) ∈ fsI := List.mem_of_getElem? hf
          exact sum_mem hm
        omega
      have hsz := hS.below.size
      have HS := Lib.hid hS
      have Hnx := Lib.hid hnx
      clear hS hnx hf
      have K : Hid (∀ w', Ext (wr.alloc (.cells #[.int .i64 k, .slice fA body.length fc] 45)) w' → w'.cell? ⟨wr.heap.size, 0, none⟩ = some (.int .i64 k) ∧ w'.cell? ⟨wr.heap.size, 1, none⟩ = some (.slice fA body.length fc)) :=
        Lib.hid (fun w' he => ⟨cell_of_row w' wr.heap.size 0 _ _ (0, 0) (Ext.kept he), cell_of_row w' wr.heap.size 1 _ _ (0, 0) (Ext.kept he)⟩)
      obtain ⟨W8, hW8⟩ : ∃ W8, W8 = wr.alloc (.cells #[.int .i64 k, .slice fA body.length fc] 45) := ⟨_, rfl⟩
      have hE8 : Ext wr W8 := by rw [hW8]; exact (Ext.refl wr).alloc _
      have h38 := h3.ext hE8
      rw [← hW8] at K
      have hble2 : body.length ≤ 140737488355328 := by omega
      have hub := huf.1
      go_wp2_with fail
      rw [← hW8]
      have g8 := K.out _ (Ext.refl W8)
      have g80 := g8.1
      have g81 := g8.2
      have h3' := h3
      clear h1 h2 h3 hW8
      go_region_held3 (fun w' => w'.cell? ⟨wr.heap.size, 0, none⟩ = some (.int .i64 k) ∧ w'.cell? ⟨wr.heap.size, 1, none⟩ = some (.slice fA body.length fc))
        (first | exact g8 | exact K.out _ (he9.undrew'.trans he10.undrew') | exact K.out _ (he9.undrew'.trans he10) | exact K.out _ he9.undrew' | exact K.out _ he9 | fail)
        (first
          | (go_at_call 26; refine (copy_any _ _ _ body _ ?_ hble2).mono ?_; exact h38; rintro e w9 ⟨A9, c9, rfl, hown9, he9⟩)
          | (go_at_call 31; refine (fput_any k _ _ _ body _ ?_ hub).mono ?_; exact hown9.rd; rintro e w10 ⟨A10, c10, rfl, hown10, he10⟩)
          | fail)
      have hE10 : Ext wr w10 := hE8.trans (by first | exact he9.undrew'.trans he10.undrew' | exact he9.undrew'.trans he10 | exact he9.trans he10.undrew' | exact he9.trans he10)
      have K10 : Hid (∀ w', Ext w10 w' → w'.cell? ⟨wr.heap.size, 0, none⟩ = some (.int .i64 k) ∧ w'.cell? ⟨wr.heap.size, 1, none⟩ = some (.slice fA body.length fc)) := Lib.hid (fun w' h => K.out w' (Ext.trans (by first | exact he9.undrew'.trans he10.undrew' | exact he9.undrew'.trans he10 | exact he9.trans he10.undrew' | exact he9.trans he10) h))
      have k10 := K.out w10 (by first | exact he9.undrew'.trans he10.undrew' | exact he9.undrew'.trans he10 | exact he9.trans he10.undrew' | exact he9.trans he10)
      have k100 := k10.1
      have k101 := k10.2
      have hsz10 := hE10.size
      have o10 := hown10.mono (base' := w1.heap.size) (by first | (have := he9.size; have := hE8.size; simp at *; omega) | (have := he9.size; have := hE8.size; omega))
      clear g8 g80 g81 hown9 hown10 he9 he10 h38 k10
      by_cases hok : okI ⟨k, fA, fc, body⟩ = true
      · have hd := of_decide_eq_true hok
        simp only at hd
        have hE : fputE k body = 0 := fputE_ok (by omega) (by omega)
        have hL : fputL k body = fr k.toNat body := by rw [fputL, if_pos hE]
        rw [hL] at o10 ⊢
        rw [hE]
        obtain ⟨kn, rfl⟩ := Int.eq_ofNat_of_zero_le (show 0 ≤ k by omega)
        rw [Int.toNat_natCast] at o10 ⊢
        have hgo : goodI (fsI.take (j + 1)) = goodI (fsI.take j) ++ [(kn, body)] := by rw [Hnx.out]; exact goodI_snoc_ok hok
        have hz1 := (goodI_size (fs := fsI.take j)).1
        have hz2 := (goodI_size (fs := fsI.take j)).2
        have hz3 := sum_take fsI j
        have hz4 := Hn.out
        rw [List.length_take] at hz2
        obtain ⟨gl, hgl⟩ : ∃ gl, gl = goodI (fsI.take j) := ⟨_, rfl⟩
        have hS1 := HS.out
        rw [← hgl] at hgo hz1 hz2 hS1 ⊢
        have hkl : fs.length = gl.length := by rw [← hS1.kv, List.length_map]
        have hel := hS1.ends.1
        have hL2 : (allB (gl ++ [(kn, body)])).length = (allB gl).length + (fr kn body).length := by rw [allB_snoc, List.length_append]
        have hfl := fr_len kn body
        have Hgo := Lib.hid hgo
        have HL2 := Lib.hid hL2
        have HS1 := Lib.hid hS1
        have b1 : (allB gl).length ≤ 13631488 := by omega
        have b2 : gl.length ≤ 1048576 := by omega
        have b3 : fs.length ≤ 1048576 := by omega
        have b4 : ys.length ≤ 1048577 := by omega
        have b5 : (fr kn body).length ≤ 65549 := by omega
        have hrd := (h3'.ext (Ext.refl _))
        clear HS hgo hz1 hz2 hz3 hz4 hS1 hkl hel hL2 hfl hd hE hL hok hgl
        go_wp2_with fail
        refine (cat_any A5 A10 (allB gl).length c5 (fr kn body).length c10 (allB gl) (fr kn body) _ (HS1.out.own5.rd.ext hE10) o10.rd (by omega)).mono ?_
        rintro e w11 ⟨A11, c11, rfl, hown11, he11⟩
        rw [← HL2.out]
        have hX := (Ext.refl w11).alloc (.cells #[.int .i64 (kn : Int), .slice fA body.length fc] 45)
        have hE12 := (hE10.trans he11).trans hX
        have o7 := HS1.out.own7.ext hE12
        have o6 := HS1.out.own6.ext hE12
        have o5 := (hown11.mono (base' := w1.heap.size) (by omega)).ext hX
        have hbl2 := Ext.trans HS1.out.below hE12
        have hz12 := hbl2.size
        have k11 := K10.out w11 he11
        have k110 := k11.1
        have k111 := k11.2
        clear k11
        go_wp2_with (at_builtin; first
          | (refine wpList_pushF (w0 := w1) ⟨kn, fA, fc, body⟩ rfl _ _ rfl o7 fs.length rfl rfl rfl (heap_alloc_new w11 _) b3 hbl2 hz12 ?_; intro A12 c12 w12 hown12 hgr hb12 hz12'; have o5' := o5.grown hgr (own_neFB o7 o5 (by decide)); have o6' := o6.grown hgr (own_neFB o7 o6 (by decide)); clear o5 o6)
          | (refine wpList_push2 .i64 (allB (gl ++ [(kn, body)])).length 3 rfl _ _ 63 rfl _ 8 Try.underlying63 Try.infoInt rfl o6' ys.length rfl rfl rfl rfl (by omega) (by omega) hz12' ?_; intro A13 c13 w13 hown13 hw13 hz13)
          | fail)
        obtain ⟨p5, p7, pb⟩ := ends_pushed o5' o6' hown12 hb12 hw13
        clear o5' o6' hown12 hw13 hgr
        go_roundw
        case rel =>
          refine ⟨j + 1, c11, c13, c12, A11, A13, A12, ys ++ [(allB (gl ++ [(kn, body)])).length], fs ++ [⟨kn, fA, fc, body⟩], by omega, by go_num, by rw [Hgo.out], by simp, by simp, ?_⟩
          rw [Hgo.out]
          refine ⟨by rw [allB_snoc]; exact p5, hown13, p7, HS1.out.ends.snoc _, by rw [List.map_append, HS1.out.kv]; rfl, ?_, pb⟩
          intro f hf
          rcases List.mem_append.1 hf with hf | hf
          · exact HS1.out.rd f hf
          · simp at hf
            subst hf
            exact h3w
        case measure => simp [intOf]; omega
      · have hE : fputE k body ≠ 0 := by
          intro h0
          refine hok (decide_eq_true ?_)
          simp only
          unfold fputE at h0
          split at h0
          · omega
          · split at h0
            · omega
            · omega
        have hEb : (fputE k body != 0) = true := by simpa using hE
        have hgo : goodI (fsI.take (j + 1)) = goodI (fsI.take j) := by rw [Hnx.out]; exact goodI_snoc_no (by simpa using hok)
        have Hgo := Lib.hid hgo
        obtain ⟨E, hEe⟩ : ∃ E, E = fputE k body := ⟨_, rfl⟩
        rw [← hEe] at hEb ⊢
        clear hgo hE hEe hok
        go_wp2_with fail
        go_roundw
        case rel => exact ⟨j + 1, c5, c6, c7, A5, A6, A7, ys, fs, by omega, by go_num, by rw [Hgo.out], rfl, rfl, by rw [Hgo.out]; exact ⟨HS.out.own5.ext hE10, HS.out.own6.ext hE10, HS.out.own7.ext hE10, HS.out.ends, HS.out.kv, HS.out.rd, Ext.trans HS.out.below hE10⟩⟩
        case measure => simp [intOf]; omega
    · obtain rfl : j = n := by omega
      have hgood := goodI_good (fs := fsI) (fun f hf => (Hu.out f hf).1)
      rw [List.take_of_length_le (by rw [Hl.out]; exact Nat.le_refl _)] at hS ⊢
      have hz1 := (goodI_size (fs := fsI)).1
      have hz2 := (goodI_size (fs := fsI)).2
      have hz4 := Hn.out
      have hz5 := Hl.out
      obtain ⟨gl, hgl⟩ : ∃ gl, gl = goodI fsI := ⟨_, rfl⟩
      rw [← hgl] at hgood hz1 hz2 hS ⊢
      have hkl : fs.length = gl.length := by rw [← hS.kv, List.length_map]
      have hel := hS.ends.1
      obtain ⟨L, hL⟩ : ∃ L, L = (allB gl).length := ⟨_, rfl⟩
      rw [← hL] at hz1 ⊢
      have HL := Lib.hid hL
      have Hkl := Lib.hid hkl
      have Hel := Lib.hid hel
      have HS := Lib.hid hS
      have b1 : L ≤ 13631488 := by omega
      have b2 : gl.length ≤ 1048576 := by omega
      have hE : Ext w wr := Ext.trans he1 hS.below
      clear hz1 hz2 hz4 hz5 hgl hL hkl hel hS
      by_cases hc0 : ct < 0
      · go_wp2_with fail
        have hCL : L ≤ L := by omega
        obtain ⟨M, hM⟩ : ∃ M, M = whole gl L := ⟨_, rfl⟩
        have hML : M ≤ gl.length := by rw [hM]; exact whole_le gl L
        have hst : ∀ m, m < M → m < gl.length ∧ (allB (gl.take (m + 1))).length ≤ L := fun m hm => whole_step (by rw [← hM]; exact hm)
        have hsp : M < gl.length → L < (allB (gl.take (M + 1))).length := fun h => by have := whole_stop (fl := gl) (c := L) (by rw [← hM]; exact h); rw [← hM] at this; exact this
        have hsc := fscan_all (c := L) hgood (by rw [← HL.out]; exact hCL)
        rw [← hM] at hsc
        have Hst := Lib.hid hst
        have Hsp := Lib.hid hsp
        have Hsc := Lib.hid hsc
        obtain ⟨W0, hW0⟩ : ∃ W0, W0 = wr := ⟨_, rfl⟩
        have hr6 := HS.out.own6.rd
        rw [← hW0] at hr6 HS hE
        clear hM hst hsp hsc
        go_loopw [12] (fun i wx => ∃ m : Nat, m ≤ M ∧ i = .int .i64 m ∧ wx = W0) (fun i _ => M - (intOf i).toNat)
        case atStart => exact ⟨0, Nat.zero_le _, rfl, hW0.symm⟩
        case round =>
          obtain ⟨m, hm, rfl, hwx⟩ := hrel
          clear hW0
          subst hwx
          have hr6' := hr6
          have hml : m < ys.length := by have := Hel.out; omega
          by_cases hlt2 : m < M
          · obtain ⟨q1, q2⟩ := Hst.out m hlt2
            have hm1 : m + 1 < ys.length := by have := Hel.out; omega
            obtain ⟨b, o, rfl, hb1, hcl⟩ := hr6'.at_ hm1
            rw [HS.out.ends.2 (m + 1) (by omega)] at hcl
            obtain ⟨E1, hE1⟩ : ∃ E1, E1 = (allB (gl.take (m + 1))).length := ⟨_, rfl⟩
            rw [← hE1] at hcl q2
            have t1 : (m : Int) < (fs.length : Int) := by have := Hkl.out; omega
            have t2 : (m : Int) + 1 < (ys.length : Int) := by omega
            have t3 : (E1 : Int) ≤ (L : Int) := by omega
            have t4 : (0 : Int) ≤ (m : Int) + 1 := by omega
            clear hE1 q2
            go_wp2_with fail
            go_roundw
            case rel => exact ⟨m + 1, by omega, by go_num, (by first | rfl | trivial)⟩
            case measure => simp [intOf]; omega
          · have hmM : m = M := by omega
            subst hmM
            obtain ⟨b, o, rfl, hb1, hcl0⟩ := hr6'.at_ hml
            rw [HS.out.ends.2 m (by omega)] at hcl0
            have hpc : piece (allB gl) 0 (L : Int) = (allB gl).take L := by unfold piece; simp
            have hl11 : ((allB gl).take L).length = L := by rw [List.length_take, ← HL.out]; omega
            have Hpc := Lib.hid hpc
            have Hl11 := Lib.hid hl11
            have Hgu := Lib.hid (u8_take (allB_u8 hgood) L)
            have r5 := HS.out.own5.rd' HL.out.symm
            clear hpc hl11
            by_cases hM2 : m < gl.length
            · have q2 := Hsp.out hM2
              have hm1 : m + 1 < ys.length := by have := Hel.out; omega
              obtain ⟨b', o', e', _, hcl⟩ := hr6'.at_ hm1
              injection e' with e'
              injection e' with e1 e2
              subst e1 e2
              rw [HS.out.ends.2 (m + 1) (by omega)] at hcl
              obtain ⟨E1, hE1⟩ : ∃ E1, E1 = (allB (gl.take (m + 1))).length := ⟨_, rfl⟩
              rw [← hE1] at hcl q2
              have t1 : (m : Int) < (fs.length : Int) := by have := Hkl.out; omega
              have t2 : (m : Int) + 1 < (ys.length : Int) := by omega
              have t3 : (L : Int) < (E1 : Int) := by omega
              have t4 : (0 : Int) ≤ (m : Int) + 1 := by omega
              clear hE1 q2
              go_wp2_with fail
              refine (piece_any A5 L c5 0 (L : Int) (allB gl) _ r5 (by omega) (by omega)).mono ?_
              rintro e w11 ⟨A11, c11, rfl, hown11, he11⟩
              rw [Hpc.out] at hown11 ⊢
              obtain ⟨hcap11, hcm11⟩ := hown11.cap
              rw [Hl11.out] at hcap11 ⊢
              have hsh11 := hown11.shape
              have hr11 := hown11.rd' Hl11.out
              go_wp2_with fail
              refine (fscan_big _ L _ ((allB gl).take L) _ hr11 Hgu.out hsh11 (by omega) hcap11 hcm11).mono ?_
              rintro e w12 ⟨gs, A12, c12, rfl, hkv, hown12, hbods12, he12⟩
              rw [Hsc.out] at hkv ⊢
              simp only at hkv ⊢
              have hgm : gs.length = m := by
                have := congrArg List.length hkv
                rw [List.length_map, List.length_take] at this
                omega
              have rdG := hown12.rdF hbods12
              rw [hgm] at rdG ⊢
              have hEE := he11.trans he12
              have rdK := ((HS.out.own7.rdF' (fun f hf => (HS.out.rd f hf).ext HS.out.below)).take (m := m) (by have := Hkl.out; omega)).ext hEE
              have hkk : gs.map Fr.kv = (fs.take m).map Fr.kv := by rw [hkv, List.map_take, HS.out.kv]
              have hgb : ∀ f ∈ gs, f.body.length ≤ 281474976710656 := fun f hf => by
                have h := kv_mem hkv hf
                have := (hgood _ (List.mem_of_mem_take h)).2.2.1
                simp only at this
                omega
              have k0 := (Below.cell hEE (p := ⟨b, o + m, none⟩) hb1).trans hcl0
              have hfin := hE.trans hEE
              obtain ⟨E0, hE0⟩ : ∃ E0, E0 = (allB (gl.take m)).length := ⟨_, rfl⟩
              rw [← hE0] at k0 ⊢
              obtain ⟨R, hR⟩ : ∃ R : Int, R = if E0 = L then 0 else 2 := ⟨_, rfl⟩
              rw [← hR]
              have HR := Lib.hid hR
              have Hkk := Lib.hid hkk
              have s1 : (m : Int) ≤ (c7 : Int) := by have := HS.out.own7.cap.1; have := Hkl.out; omega
              have s2 : (0 : Int) ≤ (m : Int) := by omega
              have s3 : (m : Int) < (ys.length : Int) := by omega
              have hsh7 := HS.out.own7.shape
              clear hR hkk hkv hE0 hown11 hown12 hbods12 he11 he12 hr11 hcl0 r5 hgm
              have hmn : m ≤ 1048576 := by omega
              rcases hsh7 with ⟨b7, o7, rfl⟩ | ⟨rfl, hc7⟩
              · go_wp2_with fail
                refine (alike_yes A12 _ m c12 _ gs (fs.take m) _ rdG rdK Hkk.out hmn hgb).mono ?_
                rintro e w13 ⟨rfl, q13, rfl⟩
                by_cases hend : E0 = L
                · have hR0 : R = 0 := by rw [HR.out, if_pos hend]
                  have hend' : (E0 : Int) = (L : Int) := by rw [hend]
                  clear HR
                  subst hR0
                  go_wp2_with fail
                  go_ret
                  exact ⟨by first | (simp; done) | (simp [hend']), hfin.drewN _⟩
                · have hR0 : R = 2 := by rw [HR.out, if_neg hend]
                  have hend' : ¬ (E0 : Int) = (L : Int) := by omega
                  clear HR
                  subst hR0
                  go_wp2_with fail
                  go_ret
                  exact ⟨by first | (simp; done) | (simp [hend']), hfin.drewN _⟩
              · have hm0 : m = 0 := by omega
                subst hm0
                subst hc7
                have k00 := k0
                rw [Nat.add_zero] at k00
                have s4 : (0 : Int) < (ys.length : Int) := by omega
                have s5 : 0 < ys.length := by omega
                go_wp2_with fail
                refine (alike_yes A12 _ 0 c12 _ gs (fs.take 0) _ rdG rdK Hkk.out hmn hgb).mono ?_
                rintro e w13 ⟨rfl, q13, rfl⟩
                by_cases hend : E0 = L
                · have hR0 : R = 0 := by rw [HR.out, if_pos hend]
                  have hend' : (E0 : Int) = (L : Int) := by rw [hend]
                  clear HR
                  subst hR0
                  go_wp2_with fail
                  go_ret
                  exact ⟨by first | (simp; done) | (simp [hend']), hfin.drewN _⟩
                · have hR0 : R = 2 := by rw [HR.out, if_neg hend]
                  have hend' : ¬ (E0 : Int) = (L : Int) := by omega
                  clear HR
                  subst hR0
                  go_wp2_with fail
                  go_ret
                  exact ⟨by first | (simp; done) | (simp [hend']), hfin.drewN _⟩
            · have t1 : (fs.length : Int) ≤ (m : Int) := by have := Hkl.out; omega
              go_wp2_with fail
              refine (piece_any A5 L c5 0 (L : Int) (allB gl) _ r5 (by omega) (by omega)).mono ?_
              rintro e w11 ⟨A11, c11, rfl, hown11, he11⟩
              rw [Hpc.out] at hown11 ⊢
              obtain ⟨hcap11, hcm11⟩ := hown11.cap
              rw [Hl11.out] at hcap11 ⊢
              have hsh11 := hown11.shape
              have hr11 := hown11.rd' Hl11.out
              go_wp2_with fail
              refine (fscan_big _ L _ ((allB gl).take L) _ hr11 Hgu.out hsh11 (by omega) hcap11 hcm11).mono ?_
              rintro e w12 ⟨gs, A12, c12, rfl, hkv, hown12, hbods12, he12⟩
              rw [Hsc.out] at hkv ⊢
              simp only at hkv ⊢
              have hgm : gs.length = m := by
                have := congrArg List.length hkv
                rw [List.length_map, List.length_take] at this
                omega
              have rdG := hown12.rdF hbods12
              rw [hgm] at rdG ⊢
              have hEE := he11.trans he12
              have rdK := ((HS.out.own7.rdF' (fun f hf => (HS.out.rd f hf).ext HS.out.below)).take (m := m) (by have := Hkl.out; omega)).ext hEE
              have hkk : gs.map Fr.kv = (fs.take m).map Fr.kv := by rw [hkv, List.map_take, HS.out.kv]
              have hgb : ∀ f ∈ gs, f.body.length ≤ 281474976710656 := fun f hf => by
                have h := kv_mem hkv hf
                have := (hgood _ (List.mem_of_mem_take h)).2.2.1
                simp only at this
                omega
              have k0 := (Below.cell hEE (p := ⟨b, o + m, none⟩) hb1).trans hcl0
              have hfin := hE.trans hEE
              obtain ⟨E0, hE0⟩ : ∃ E0, E0 = (allB (gl.take m)).length := ⟨_, rfl⟩
              rw [← hE0] at k0 ⊢
              obtain ⟨R, hR⟩ : ∃ R : Int, R = if E0 = L then 0 else 2 := ⟨_, rfl⟩
              rw [← hR]
              have HR := Lib.hid hR
              have Hkk := Lib.hid hkk
              have s1 : (m : Int) ≤ (c7 : Int) := by have := HS.out.own7.cap.1; have := Hkl.out; omega
              have s2 : (0 : Int) ≤ (m : Int) := by omega
              have s3 : (m : Int) < (ys.length : Int) := by omega
              have hsh7 := HS.out.own7.shape
              clear hR hkk hkv hE0 hown11 hown12 hbods12 he11 he12 hr11 hcl0 r5 hgm
              have hmn : m ≤ 1048576 := by omega
              rcases hsh7 with ⟨b7, o7, rfl⟩ | ⟨rfl, hc7⟩
              · go_wp2_with fail
                refine (alike_yes A12 _ m c12 _ gs (fs.take m) _ rdG rdK Hkk.out hmn hgb).mono ?_
                rintro e w13 ⟨rfl, q13, rfl⟩
                by_cases hend : E0 = L
                · have hR0 : R = 0 := by rw [HR.out, if_pos hend]
                  have hend' : (E0 : Int) = (L : Int) := by rw [hend]
                  clear HR
                  subst hR0
                  go_wp2_with fail
                  go_ret
                  exact ⟨by first | (simp; done) | (simp [hend']), hfin.drewN _⟩
                · have hR0 : R = 2 := by rw [HR.out, if_neg hend]
                  have hend' : ¬ (E0 : Int) = (L : Int) := by omega
                  clear HR
                  subst hR0
                  go_wp2_with fail
                  go_ret
                  exact ⟨by first | (simp; done) | (simp [hend']), hfin.drewN _⟩
              · have hm0 : m = 0 := by omega
                subst hm0
                subst hc7
                have k00 := k0
                rw [Nat.add_zero] at k00
                have s4 : (0 : Int) < (ys.length : Int) := by omega
                have s5 : 0 < ys.length := by omega
                go_wp2_with fail
                refine (alike_yes A12 _ 0 c12 _ gs (fs.take 0) _ rdG rdK Hkk.out hmn hgb).mono ?_
                rintro e w13 ⟨rfl, q13, rfl⟩
                by_cases hend : E0 = L
                · have hR0 : R = 0 := by rw [HR.out, if_pos hend]
                  have hend' : (E0 : Int) = (L : Int) := by rw [hend]
                  clear HR
                  subst hR0
                  go_wp2_with fail
                  go_ret
                  exact ⟨by first | (simp; done) | (simp [hend']), hfin.drewN _⟩
                · have hR0 : R = 2 := by rw [HR.out, if_neg hend]
                  have hend' : ¬ (E0 : Int) = (L : Int) := by omega
                  clear HR
                  subst hR0
                  go_wp2_with fail
                  go_ret
                  exact ⟨by first | (simp; done) | (simp [hend']), hfin.drewN _⟩
      · by_cases hc1 : (L : Int) < ct
        · go_wp2_with fail
          have hCL : L ≤ L := by omega
          obtain ⟨M, hM⟩ : ∃ M, M = whole gl L := ⟨_, rfl⟩
          have hML : M ≤ gl.length := by rw [hM]; exact whole_le gl L
          have hst : ∀ m, m < M → m < gl.length ∧ (allB (gl.take (m + 1))).length ≤ L := fun m hm => whole_step (by rw [← hM]; exact hm)
          have hsp : M < gl.length → L < (allB (gl.take (M + 1))).length := fun h => by have := whole_stop (fl := gl) (c := L) (by rw [← hM]; exact h); rw [← hM] at this; exact this
          have hsc := fscan_all (c := L) hgood (by rw [← HL.out]; exact hCL)
          rw [← hM] at hsc
          have Hst := Lib.hid hst
          have Hsp := Lib.hid hsp
          have Hsc := Lib.hid hsc
          obtain ⟨W0, hW0⟩ : ∃ W0, W0 = wr := ⟨_, rfl⟩
          have hr6 := HS.out.own6.rd
          rw [← hW0] at hr6 HS hE
          clear hM hst hsp hsc
          go_loopw [12] (fun i wx => ∃ m : Nat, m ≤ M ∧ i = .int .i64 m ∧ wx = W0) (fun i _ => M - (intOf i).toNat)
          case atStart => exact ⟨0, Nat.zero_le _, rfl, hW0.symm⟩
          case round =>
            obtain ⟨m, hm, rfl, hwx⟩ := hrel
            clear hW0
            subst hwx
            have hr6' := hr6
            have hml : m < ys.length := by have := Hel.out; omega
            by_cases hlt2 : m < M
            · obtain ⟨q1, q2⟩ := Hst.out m hlt2
              have hm1 : m + 1 < ys.length := by have := Hel.out; omega
              obtain ⟨b, o, rfl, hb1, hcl⟩ := hr6'.at_ hm1
              rw [HS.out.ends.2 (m + 1) (by omega)] at hcl
              obtain ⟨E1, hE1⟩ : ∃ E1, E1 = (allB (gl.take (m + 1))).length := ⟨_, rfl⟩
              rw [← hE1] at hcl q2
              have t1 : (m : Int) < (fs.length : Int) := by have := Hkl.out; omega
              have t2 : (m : Int) + 1 < (ys.length : Int) := by omega
              have t3 : (E1 : Int) ≤ (L : Int) := by omega
              have t4 : (0 : Int) ≤ (m : Int) + 1 := by omega
              clear hE1 q2
              go_wp2_with fail
              go_roundw
              case rel => exact ⟨m + 1, by omega, by go_num, (by first | rfl | trivial)⟩
              case measure => simp [intOf]; omega
            · have hmM : m = M := by omega
              subst hmM
              obtain ⟨b, o, rfl, hb1, hcl0⟩ := hr6'.at_ hml
              rw [HS.out.ends.2 m (by omega)] at hcl0
              have hpc : piece (allB gl) 0 (L : Int) = (allB gl).take L := by unfold piece; simp
              have hl11 : ((allB gl).take L).length = L := by rw [List.length_take, ← HL.out]; omega
              have Hpc := Lib.hid hpc
              have Hl11 := Lib.hid hl11
              have Hgu := Lib.hid (u8_take (allB_u8 hgood) L)
              have r5 := HS.out.own5.rd' HL.out.symm
              clear hpc hl11
              by_cases hM2 : m < gl.length
              · have q2 := Hsp.out hM2
                have hm1 : m + 1 < ys.length := by have := Hel.out; omega
                obtain ⟨b', o', e', _, hcl⟩ := hr6'.at_ hm1
                injection e' with e'
                injection e' with e1 e2
                subst e1 e2
                rw [HS.out.ends.2 (m + 1) (by omega)] at hcl
                obtain ⟨E1, hE1⟩ : ∃ E1, E1 = (allB (gl.take (m + 1))).length := ⟨_, rfl⟩
                rw [← hE1] at hcl q2
                have t1 : (m : Int) < (fs.length : Int) := by have := Hkl.out; omega
                have t2 : (m : Int) + 1 < (ys.length : Int) := by omega
                have t3 : (L : Int) < (E1 : Int) := by omega
                have t4 : (0 : Int) ≤ (m : Int) + 1 := by omega
                clear hE1 q2
                go_wp2_with fail
                refine (piece_any A5 L c5 0 (L : Int) (allB gl) _ r5 (by omega) (by omega)).mono ?_
                rintro e w11 ⟨A11, c11, rfl, hown11, he11⟩
                rw [Hpc.out] at hown11 ⊢
                obtain ⟨hcap11, hcm11⟩ := hown11.cap
                rw [Hl11.out] at hcap11 ⊢
                have hsh11 := hown11.shape
                have hr11 := hown11.rd' Hl11.out
                go_wp2_with fail
                refine (fscan_big _ L _ ((allB gl).take L) _ hr11 Hgu.out hsh11 (by omega) hcap11 hcm11).mono ?_
                rintro e w12 ⟨gs, A12, c12, rfl, hkv, hown12, hbods12, he12⟩
                rw [Hsc.out] at hkv ⊢
                simp only at hkv ⊢
                have hgm : gs.length = m := by
                  have := congrArg List.length hkv
                  rw [List.length_map, List.length_take] at this
                  omega
                have rdG := hown12.rdF hbods12
                rw [hgm] at rdG ⊢
                have hEE := he11.trans he12
                have rdK := ((HS.out.own7.rdF' (fun f hf => (HS.out.rd f hf).ext HS.out.below)).take (m := m) (by have := Hkl.out; omega)).ext hEE
                have hkk : gs.map Fr.kv = (fs.take m).map Fr.kv := by rw [hkv, List.map_take, HS.out.kv]
                have hgb : ∀ f ∈ gs, f.body.length ≤ 281474976710656 := fun f hf => by
                  have h := kv_mem hkv hf
                  have := (hgood _ (List.mem_of_mem_take h)).2.2.1
                  simp only at this
                  omega
                have k0 := (Below.cell hEE (p := ⟨b, o + m, none⟩) hb1).trans hcl0
                have hfin := hE.trans hEE
                obtain ⟨E0, hE0⟩ : ∃ E0, E0 = (allB (gl.take m)).length := ⟨_, rfl⟩
                rw [← hE0] at k0 ⊢
                obtain ⟨R, hR⟩ : ∃ R : Int, R = if E0 = L then 0 else 2 := ⟨_, rfl⟩
                rw [← hR]
                have HR := Lib.hid hR
                have Hkk := Lib.hid hkk
                have s1 : (m : Int) ≤ (c7 : Int) := by have := HS.out.own7.cap.1; have := Hkl.out; omega
                have s2 : (0 : Int) ≤ (m : Int) := by omega
                have s3 : (m : Int) < (ys.length : Int) := by omega
                have hsh7 := HS.out.own7.shape
                clear hR hkk hkv hE0 hown11 hown12 hbods12 he11 he12 hr11 hcl0 r5 hgm
                have hmn : m ≤ 1048576 := by omega
                rcases hsh7 with ⟨b7, o7, rfl⟩ | ⟨rfl, hc7⟩
                · go_wp2_with fail
                  refine (alike_yes A12 _ m c12 _ gs (fs.take m) _ rdG rdK Hkk.out hmn hgb).mono ?_
                  rintro e w13 ⟨rfl, q13, rfl⟩
                  by_cases hend : E0 = L
                  · have hR0 : R = 0 := by rw [HR.out, if_pos hend]
                    have hend' : (E0 : Int) = (L : Int) := by rw [hend]
                    clear HR
                    subst hR0
                    go_wp2_with fail
                    go_ret
                    exact ⟨by first | (simp; done) | (simp [hend']), hfin.drewN _⟩
                  · have hR0 : R = 2 := by rw [HR.out, if_neg hend]
                    have hend' : ¬ (E0 : Int) = (L : Int) := by omega
                    clear HR
                    subst hR0
                    go_wp2_with fail
                    go_ret
                    exact ⟨by first | (simp; done) | (simp [hend']), hfin.drewN _⟩
                · have hm0 : m = 0 := by omega
                  subst hm0
                  subst hc7
                  have k00 := k0
                  rw [Nat.add_zero] at k00
                  have s4 : (0 : Int) < (ys.length : Int) := by omega
                  have s5 : 0 < ys.length := by omega
                  go_wp2_with fail
                  refine (alike_yes A12 _ 0 c12 _ gs (fs.take 0) _ rdG rdK Hkk.out hmn hgb).mono ?_
                  rintro e w13 ⟨rfl, q13, rfl⟩
                  by_cases hend : E0 = L
                  · have hR0 : R = 0 := by rw [HR.out, if_pos hend]
                    have hend' : (E0 : Int) = (L : Int) := by rw [hend]
                    clear HR
                    subst hR0
                    go_wp2_with fail
                    go_ret
                    exact ⟨by first | (simp; done) | (simp [hend']), hfin.drewN _⟩
                  · have hR0 : R = 2 := by rw [HR.out, if_neg hend]
                    have hend' : ¬ (E0 : Int) = (L : Int) := by omega
                    clear HR
                    subst hR0
                    go_wp2_with fail
                    go_ret
                    exact ⟨by first | (simp; done) | (simp [hend']), hfin.drewN _⟩
              · have t1 : (fs.length : Int) ≤ (m : Int) := by have := Hkl.out; omega
                go_wp2_with fail
                refine (piece_any A5 L c5 0 (L : Int) (allB gl) _ r5 (by omega) (by omega)).mono ?_
                rintro e w11 ⟨A11, c11, rfl, hown11, he11⟩
                rw [Hpc.out] at hown11 ⊢
                obtain ⟨hcap11, hcm11⟩ := hown11.cap
                rw [Hl11.out] at hcap11 ⊢
                have hsh11 := hown11.shape
                have hr11 := hown11.rd' Hl11.out
                go_wp2_with fail
                refine (fscan_big _ L _ ((allB gl).take L) _ hr11 Hgu.out hsh11 (by omega) hcap11 hcm11).mono ?_
                rintro e w12 ⟨gs, A12, c12, rfl, hkv, hown12, hbods12, he12⟩
                rw [Hsc.out] at hkv ⊢
                simp only at hkv ⊢
                have hgm : gs.length = m := by
                  have := congrArg List.length hkv
                  rw [List.length_map, List.length_take] at this
                  omega
                have rdG := hown12.rdF hbods12
                rw [hgm] at rdG ⊢
                have hEE := he11.trans he12
                have rdK := ((HS.out.own7.rdF' (fun f hf => (HS.out.rd f hf).ext HS.out.below)).take (m := m) (by have := Hkl.out; omega)).ext hEE
                have hkk : gs.map Fr.kv = (fs.take m).map Fr.kv := by rw [hkv, List.map_take, HS.out.kv]
                have hgb : ∀ f ∈ gs, f.body.length ≤ 281474976710656 := fun f hf => by
                  have h := kv_mem hkv hf
                  have := (hgood _ (List.mem_of_mem_take h)).2.2.1
                  simp only at this
                  omega
                have k0 := (Below.cell hEE (p := ⟨b, o + m, none⟩) hb1).trans hcl0
                have hfin := hE.trans hEE
                obtain ⟨E0, hE0⟩ : ∃ E0, E0 = (allB (gl.take m)).length := ⟨_, rfl⟩
                rw [← hE0] at k0 ⊢
                obtain ⟨R, hR⟩ : ∃ R : Int, R = if E0 = L then 0 else 2 := ⟨_, rfl⟩
                rw [← hR]
                have HR := Lib.hid hR
                have Hkk := Lib.hid hkk
                have s1 : (m : Int) ≤ (c7 : Int) := by have := HS.out.own7.cap.1; have := Hkl.out; omega
                have s2 : (0 : Int) ≤ (m : Int) := by omega
                have s3 : (m : Int) < (ys.length : Int) := by omega
                have hsh7 := HS.out.own7.shape
                clear hR hkk hkv hE0 hown11 hown12 hbods12 he11 he12 hr11 hcl0 r5 hgm
                have hmn : m ≤ 1048576 := by omega
                rcases hsh7 with ⟨b7, o7, rfl⟩ | ⟨rfl, hc7⟩
                · go_wp2_with fail
                  refine (alike_yes A12 _ m c12 _ gs (fs.take m) _ rdG rdK Hkk.out hmn hgb).mono ?_
                  rintro e w13 ⟨rfl, q13, rfl⟩
                  by_cases hend : E0 = L
                  · have hR0 : R = 0 := by rw [HR.out, if_pos hend]
                    have hend' : (E0 : Int) = (L : Int) := by rw [hend]
                    clear HR
                    subst hR0
                    go_wp2_with fail
                    go_ret
                    exact ⟨by first | (simp; done) | (simp [hend']), hfin.drewN _⟩
                  · have hR0 : R = 2 := by rw [HR.out, if_neg hend]
                    have hend' : ¬ (E0 : Int) = (L : Int) := by omega
                    clear HR
                    subst hR0
                    go_wp2_with fail
                    go_ret
                    exact ⟨by first | (simp; done) | (simp [hend']), hfin.drewN _⟩
                · have hm0 : m = 0 := by omega
                  subst hm0
                  subst hc7
                  have k00 := k0
                  rw [Nat.add_zero] at k00
                  have s4 : (0 : Int) < (ys.length : Int) := by omega
                  have s5 : 0 < ys.length := by omega
                  go_wp2_with fail
                  refine (alike_yes A12 _ 0 c12 _ gs (fs.take 0) _ rdG rdK Hkk.out hmn hgb).mono ?_
                  rintro e w13 ⟨rfl, q13, rfl⟩
                  by_cases hend : E0 = L
                  · have hR0 : R = 0 := by rw [HR.out, if_pos hend]
                    have hend' : (E0 : Int) = (L : Int) := by rw [hend]
                    clear HR
                    subst hR0
                    go_wp2_with fail
                    go_ret
                    exact ⟨by first | (simp; done) | (simp [hend']), hfin.drewN _⟩
                  · have hR0 : R = 2 := by rw [HR.out, if_neg hend]
                    have hend' : ¬ (E0 : Int) = (L : Int) := by omega
                    clear HR
                    subst hR0
                    go_wp2_with fail
                    go_ret
                    exact ⟨by first | (simp; done) | (simp [hend']), hfin.drewN _⟩
        · obtain ⟨C, rfl⟩ := Int.eq_ofNat_of_zero_le (show 0 ≤ ct by omega)
          go_wp2_with fail
          have hCL : C ≤ L := by omega
          obtain ⟨M, hM⟩ : ∃ M, M = whole gl C := ⟨_, rfl⟩
          have hML : M ≤ gl.length := by rw [hM]; exact whole_le gl C
          have hst : ∀ m, m < M → m < gl.length ∧ (allB (gl.take (m + 1))).length ≤ C := fun m hm => whole_step (by rw [← hM]; exact hm)
          have hsp : M < gl.length → C < (allB (gl.take (M + 1))).length := fun h => by have := whole_stop (fl := gl) (c := C) (by rw [← hM]; exact h); rw [← hM] at this; exact this
          have hsc := fscan_all (c := C) hgood (by rw [← HL.out]; exact hCL)
          rw [← hM] at hsc
          have Hst := Lib.hid hst
          have Hsp := Lib.hid hsp
          have Hsc := Lib.hid hsc
          obtain ⟨W0, hW0⟩ : ∃ W0, W0 = wr := ⟨_, rfl⟩
          have hr6 := HS.out.own6.rd
          rw [← hW0] at hr6 HS hE
          clear hM hst hsp hsc
          go_loopw [12] (fun i wx => ∃ m : Nat, m ≤ M ∧ i = .int .i64 m ∧ wx = W0) (fun i _ => M - (intOf i).toNat)
          case atStart => exact ⟨0, Nat.zero_le _, rfl, hW0.symm⟩
          case round =>
            obtain ⟨m, hm, rfl, hwx⟩ := hrel
            clear hW0
            subst hwx
            have hr6' := hr6
            have hml : m < ys.length := by have := Hel.out; omega
            by_cases hlt2 : m < M
            · obtain ⟨q1, q2⟩ := Hst.out m hlt2
              have hm1 : m + 1 < ys.length := by have := Hel.out; omega
              obtain ⟨b, o, rfl, hb1, hcl⟩ := hr6'.at_ hm1
              rw [HS.out.ends.2 (m + 1) (by omega)] at hcl
              obtain ⟨E1, hE1⟩ : ∃ E1, E1 = (allB (gl.take (m + 1))).length := ⟨_, rfl⟩
              rw [← hE1] at hcl q2
              have t1 : (m : Int) < (fs.length : Int) := by have := Hkl.out; omega
              have t2 : (m : Int) + 1 < (ys.length : Int) := by omega
              have t3 : (E1 : Int) ≤ (C : Int) := by omega
              have t4 : (0 : Int) ≤ (m : Int) + 1 := by omega
              clear hE1 q2
              go_wp2_with fail
              go_roundw
              case rel => exact ⟨m + 1, by omega, by go_num, (by first | rfl | trivial)⟩
              case measure => simp [intOf]; omega
            · have hmM : m = M := by omega
              subst hmM
              obtain ⟨b, o, rfl, hb1, hcl0⟩ := hr6'.at_ hml
              rw [HS.out.ends.2 m (by omega)] at hcl0
              have hpc : piece (allB gl) 0 (C : Int) = (allB gl).take C := by unfold piece; simp
              have hl11 : ((allB gl).take C).length = C := by rw [List.length_take, ← HL.out]; omega
              have Hpc := Lib.hid hpc
              have Hl11 := Lib.hid hl11
              have Hgu := Lib.hid (u8_take (allB_u8 hgood) C)
              have r5 := HS.out.own5.rd' HL.out.symm
              clear hpc hl11
              by_cases hM2 : m < gl.length
              · have q2 := Hsp.out hM2
                have hm1 : m + 1 < ys.length := by have := Hel.out; omega
                obtain ⟨b', o', e', _, hcl⟩ := hr6'.at_ hm1
                injection e' with e'
                injection e' with e1 e2
                subst e1 e2
                rw [HS.out.ends.2 (m + 1) (by omega)] at hcl
                obtain ⟨E1, hE1⟩ : ∃ E1, E1 = (allB (gl.take (m + 1))).length := ⟨_, rfl⟩
                rw [← hE1] at hcl q2
                have t1 : (m : Int) < (fs.length : Int) := by have := Hkl.out; omega
                have t2 : (m : Int) + 1 < (ys.length : Int) := by omega
                have t3 : (C : Int) < (E1 : Int) := by omega
                have t4 : (0 : Int) ≤ (m : Int) + 1 := by omega
                clear hE1 q2
                go_wp2_with fail
                refine (piece_any A5 L c5 0 (C : Int) (allB gl) _ r5 (by omega) (by omega)).mono ?_
                rintro e w11 ⟨A11, c11, rfl, hown11, he11⟩
                rw [Hpc.out] at hown11 ⊢
                obtain ⟨hcap11, hcm11⟩ := hown11.cap
                rw [Hl11.out] at hcap11 ⊢
                have hsh11 := hown11.shape
                have hr11 := hown11.rd' Hl11.out
                go_wp2_with fail
                refine (fscan_big _ C _ ((allB gl).take C) _ hr11 Hgu.out hsh11 (by omega) hcap11 hcm11).mono ?_
                rintro e w12 ⟨gs, A12, c12, rfl, hkv, hown12, hbods12, he12⟩
                rw [Hsc.out] at hkv ⊢
                simp only at hkv ⊢
                have hgm : gs.length = m := by
                  have := congrArg List.length hkv
                  rw [List.length_map, List.length_take] at this
                  omega
                have rdG := hown12.rdF hbods12
                rw [hgm] at rdG ⊢
                have hEE := he11.trans he12
                have rdK := ((HS.out.own7.rdF' (fun f hf => (HS.out.rd f hf).ext HS.out.below)).take (m := m) (by have := Hkl.out; omega)).ext hEE
                have hkk : gs.map Fr.kv = (fs.take m).map Fr.kv := by rw [hkv, List.map_take, HS.out.kv]
                have hgb : ∀ f ∈ gs, f.body.length ≤ 281474976710656 := fun f hf => by
                  have h := kv_mem hkv hf
                  have := (hgood _ (List.mem_of_mem_take h)).2.2.1
                  simp only at this
                  omega
                have k0 := (Below.cell hEE (p := ⟨b, o + m, none⟩) hb1).trans hcl0
                have hfin := hE.trans hEE
                obtain ⟨E0, hE0⟩ : ∃ E0, E0 = (allB (gl.take m)).length := ⟨_, rfl⟩
                rw [← hE0] at k0 ⊢
                obtain ⟨R, hR⟩ : ∃ R : Int, R = if E0 = C then 0 else 2 := ⟨_, rfl⟩
                rw [← hR]
                have HR := Lib.hid hR
                have Hkk := Lib.hid hkk
                have s1 : (m : Int) ≤ (c7 : Int) := by have := HS.out.own7.cap.1; have := Hkl.out; omega
                have s2 : (0 : Int) ≤ (m : Int) := by omega
                have s3 : (m : Int) < (ys.length : Int) := by omega
                have hsh7 := HS.out.own7.shape
                clear hR hkk hkv hE0 hown11 hown12 hbods12 he11 he12 hr11 hcl0 r5 hgm
                have hmn : m ≤ 1048576 := by omega
                rcases hsh7 with ⟨b7, o7, rfl⟩ | ⟨rfl, hc7⟩
                · go_wp2_with fail
                  refine (alike_yes A12 _ m c12 _ gs (fs.take m) _ rdG rdK Hkk.out hmn hgb).mono ?_
                  rintro e w13 ⟨rfl, q13, rfl⟩
                  by_cases hend : E0 = C
                  · have hR0 : R = 0 := by rw [HR.out, if_pos hend]
                    have hend' : (E0 : Int) = (C : Int) := by rw [hend]
                    clear HR
                    subst hR0
                    go_wp2_with fail
                    go_ret
                    exact ⟨by first | (simp; done) | (simp [hend']), hfin.drewN _⟩
                  · have hR0 : R = 2 := by rw [HR.out, if_neg hend]
                    have hend' : ¬ (E0 : Int) = (C : Int) := by omega
                    clear HR
                    subst hR0
                    go_wp2_with fail
                    go_ret
                    exact ⟨by first | (simp; done) | (simp [hend']), hfin.drewN _⟩
                · have hm0 : m = 0 := by omega
                  subst hm0
                  subst hc7
                  have k00 := k0
                  rw [Nat.add_zero] at k00
                  have s4 : (0 : Int) < (ys.length : Int) := by omega
                  have s5 : 0 < ys.length := by omega
                  go_wp2_with fail
                  refine (alike_yes A12 _ 0 c12 _ gs (fs.take 0) _ rdG rdK Hkk.out hmn hgb).mono ?_
                  rintro e w13 ⟨rfl, q13, rfl⟩
                  by_cases hend : E0 = C
                  · have hR0 : R = 0 := by rw [HR.out, if_pos hend]
                    have hend' : (E0 : Int) = (C : Int) := by rw [hend]
                    clear HR
                    subst hR0
                    go_wp2_with fail
                    go_ret
                    exact ⟨by first | (simp; done) | (simp [hend']), hfin.drewN _⟩
                  · have hR0 : R = 2 := by rw [HR.out, if_neg hend]
                    have hend' : ¬ (E0 : Int) = (C : Int) := by omega
                    clear HR
                    subst hR0
                    go_wp2_with fail
                    go_ret
                    exact ⟨by first | (simp; done) | (simp [hend']), hfin.drewN _⟩
              · have t1 : (fs.length : Int) ≤ (m : Int) := by have := Hkl.out; omega
                go_wp2_with fail
                refine (piece_any A5 L c5 0 (C : Int) (allB gl) _ r5 (by omega) (by omega)).mono ?_
                rintro e w11 ⟨A11, c11, rfl, hown11, he11⟩
                rw [Hpc.out] at hown11 ⊢
                obtain ⟨hcap11, hcm11⟩ := hown11.cap
                rw [Hl11.out] at hcap11 ⊢
                have hsh11 := hown11.shape
                have hr11 := hown11.rd' Hl11.out
                go_wp2_with fail
                refine (fscan_big _ C _ ((allB gl).take C) _ hr11 Hgu.out hsh11 (by omega) hcap11 hcm11).mono ?_
                rintro e w12 ⟨gs, A12, c12, rfl, hkv, hown12, hbods12, he12⟩
                rw [Hsc.out] at hkv ⊢
                simp only at hkv ⊢
                have hgm : gs.length = m := by
                  have := congrArg List.length hkv
                  rw [List.length_map, List.length_take] at this
                  omega
                have rdG := hown12.rdF hbods12
                rw [hgm] at rdG ⊢
                have hEE := he11.trans he12
                have rdK := ((HS.out.own7.rdF' (fun f hf => (HS.out.rd f hf).ext HS.out.below)).take (m := m) (by have := Hkl.out; omega)).ext hEE
                have hkk : gs.map Fr.kv = (fs.take m).map Fr.kv := by rw [hkv, List.map_take, HS.out.kv]
                have hgb : ∀ f ∈ gs, f.body.length ≤ 281474976710656 := fun f hf => by
                  have h := kv_mem hkv hf
                  have := (hgood _ (List.mem_of_mem_take h)).2.2.1
                  simp only at this
                  omega
                have k0 := (Below.cell hEE (p := ⟨b, o + m, none⟩) hb1).trans hcl0
                have hfin := hE.trans hEE
                obtain ⟨E0, hE0⟩ : ∃ E0, E0 = (allB (gl.take m)).length := ⟨_, rfl⟩
                rw [← hE0] at k0 ⊢
                obtain ⟨R, hR⟩ : ∃ R : Int, R = if E0 = C then 0 else 2 := ⟨_, rfl⟩
                rw [← hR]
                have HR := Lib.hid hR
                have Hkk := Lib.hid hkk
                have s1 : (m : Int) ≤ (c7 : Int) := by have := HS.out.own7.cap.1; have := Hkl.out; omega
                have s2 : (0 : Int) ≤ (m : Int) := by omega
                have s3 : (m : Int) < (ys.length : Int) := by omega
                have hsh7 := HS.out.own7.shape
                clear hR hkk hkv hE0 hown11 hown12 hbods12 he11 he12 hr11 hcl0 r5 hgm
                have hmn : m ≤ 1048576 := by omega
                rcases hsh7 with ⟨b7, o7, rfl⟩ | ⟨rfl, hc7⟩
                · go_wp2_with fail
                  refine (alike_yes A12 _ m c12 _ gs (fs.take m) _ rdG rdK Hkk.out hmn hgb).mono ?_
                  rintro e w13 ⟨rfl, q13, rfl⟩
                  by_cases hend : E0 = C
                  · have hR0 : R = 0 := by rw [HR.out, if_pos hend]
                    have hend' : (E0 : Int) = (C : Int) := by rw [hend]
                    clear HR
                    subst hR0
                    go_wp2_with fail
                    go_ret
                    exact ⟨by first | (simp; done) | (simp [hend']), hfin.drewN _⟩
                  · have hR0 : R = 2 := by rw [HR.out, if_neg hend]
                    have hend' : ¬ (E0 : Int) = (C : Int) := by omega
                    clear HR
                    subst hR0
                    go_wp2_with fail
                    go_ret
                    exact ⟨by first | (simp; done) | (simp [hend']), hfin.drewN _⟩
                · have hm0 : m = 0 := by omega
                  subst hm0
                  subst hc7
                  have k00 := k0
                  rw [Nat.add_zero] at k00
                  have s4 : (0 : Int) < (ys.length : Int) := by omega
                  have s5 : 0 < ys.length := by omega
                  go_wp2_with fail
                  refine (alike_yes A12 _ 0 c12 _ gs (fs.take 0) _ rdG rdK Hkk.out hmn hgb).mono ?_
                  rintro e w13 ⟨rfl, q13, rfl⟩
                  by_cases hend : E0 = C
                  · have hR0 : R = 0 := by rw [HR.out, if_pos hend]
                    have hend' : (E0 : Int) = (C : Int) := by rw [hend]
                    clear HR
                    subst hR0
                    go_wp2_with fail
                    go_ret
                    exact ⟨by first | (simp; done) | (simp [hend']), hfin.drewN _⟩
                  · have hR0 : R = 2 := by rw [HR.out, if_neg hend]
                    have hend' : ¬ (E0 : Int) = (C : Int) := by omega
                    clear HR
                    subst hR0
                    go_wp2_with fail
                    go_ret
                    exact ⟨by first | (simp; done) | (simp [hend']), hfin.drewN _⟩

end Go.Proofs.Ytegplcllimoakaa
