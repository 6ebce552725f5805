/-
  Layer 14: what the power's coming back does: the changes cut and made safe, a new directory.
-/
import Derived.Test.YtjckfbpdnpehcaaRD
import Derived.Test.YtjckfbpdnpehcaaDKi
import Derived.Test.YtjckfbpdnpehcaaDKk
namespace Go.Proofs.Ytjckfbpdnpehcaa
open Go.RowKit Go.Maps Go.WideMaps
set_option maxRecDepth 100000

/-- The changes between the safe directory and any other. -/
structure Hist0 (S : DS) : Prop where
  few : ∀ j, j ≤ S.chs.length → (preD S j).length ≤ 400
  id : ∀ j x q, j ≤ S.chs.length → lkp (preD S j) x = some q → x.length ≤ 40 ∧ ∃ f, (q, f) ∈ S.fl
  ok : ∀ j g, S.chs[j]? = some g → okC (preD S j) g
theorem Hist.zero {S : DS} (h : Hist S) : Hist0 S := ⟨h.few, h.id, h.ok⟩
theorem preD_take (S : DS) (k j : Nat) (h : j ≤ k) : preD { S with chs := S.chs.take k } j = preD S j := by
  unfold preD
  simp only
  rw [List.take_take, Nat.min_eq_left h]
theorem Hist0.cut {S : DS} (h : Hist0 S) (k : Nat) (hk : k ≤ S.chs.length) : Hist0 { S with chs := S.chs.take k } where
  few := fun j hj => by
    have hj : j ≤ k := by simp only [List.length_take] at hj; omega
    rw [preD_take S k j hj]; exact h.few j (by omega)
  id := fun j x q hj hl => by
    have hj : j ≤ k := by simp only [List.length_take] at hj; omega
    rw [preD_take S k j hj] at hl; exact h.id j x q (by omega) hl
  ok := fun j g hg => by
    have hg : (S.chs.take k)[j]? = some g := hg
    have hj : j < k := by have := (List.getElem?_eq_some_iff.1 hg).1; simp only [List.length_take] at this; omega
    rw [List.getElem?_take_of_lt hj] at hg
    rw [preD_take S k j (by omega)]; exact h.ok j g hg

section
variable {w w' : World} {X : Nat → Prop} {base dp : Nat} {S : DS} {I : DI}
/-- The disk behind the changes made safe. -/
theorem DK.settled2 {w1 : World} {D : Dir} (h : DK w X base dp S I) (hid : ∀ x q, lkp D x = some q → x.length ≤ 40 ∧ ∃ f, (q, f) ∈ S.fl) (d1 : DirR w1 I.Sb D) (g1 : w.grownBy w1 (some I.Sb)) :
    DK (w1.setCell ⟨dp, 3, none⟩ (.slice none 0 0)) X base dp { S with safe := D, chs := [] } { I with Ac := none, cc := 0, clos := [] } ∧ FrX X w (w1.setCell ⟨dp, 3, none⟩ (.slice none 0 0)) := by
  have hs := setCell_grown w1 ⟨dp, 3, none⟩ (.slice none 0 0)
  have s1 := g1.size
  have s4 : (w1.setCell ⟨dp, 3, none⟩ (.slice none 0 0)).heap.size = w1.heap.size := by simp [World.setCell]
  have hD1 := (g1.block dp (h.bd dp h.xs.1).2 (fun e => h.ne_S (Option.some.inj e))).trans h.blk
  refine ⟨h.next (fun b hb => hb) ?_ ?_ rfl rfl rfl rfl rfl rfl rfl ?_ ((h.dF.kept g1 (fun e => h.ne (Option.some.inj e))).kept hs (fun e => h.ne_F (Option.some.inj e).symm)) (d1.kept hs (fun e => h.ne_S (Option.some.inj e).symm)) (OwnG.nil _ _ _ _) (fun a ha => by cases ha) rfl (fun j c g h1 _ => by cases h1) h.idF hid (fun x q hq => by cases hq) h.few, (grownBy_frX g1 (.inl h.xs.2.2)).trans (grownBy_frX hs (.inl h.xs.1))⟩
  · intro b hb
    have := h.bd b hb
    rw [s4]
    omega
  · intro b hb n1 n2 n3 n4
    have hl := (h.bd b hb).2
    exact (hs.block b (by omega) (fun e => n1 (Option.some.inj e))).trans (g1.block b hl (fun e => n3 (Option.some.inj e)))
  · rw [heap_setCell_same w1 dp 3 _ _ _ hD1]
    rfl

theorem settle2_any (h : DK w X base dp S I) (hh : Hist0 S) :
    Calls Try.prog 55 #[.pointer (some ⟨dp, 0, none⟩)] w fun e w' => e = .returned (.tuple #[]) ∧ DK w' X base dp { S with safe := preD S S.chs.length, chs := [] } { I with Ac := none, cc := 0, clos := [] } ∧ FrX X w w' := by
  obtain ⟨c0, c1, c2, c3, c4, c5, c6⟩ := h.at_
  have hcl := h.cln
  have hneS := h.ne_S
  have hcap := h.row.cap
  have Hd := Lib.hid h
  have Hh := Lib.hid hh
  obtain ⟨n, hnn⟩ : ∃ n, n = I.clos.length := ⟨_, rfl⟩
  rw [← hnn] at c3 hcap
  have Hnn := Lib.hid hnn
  have hS0 : DirR w I.Sb (preD S 0) := by rw [preD_zero]; exact h.dS
  have HS0 := Lib.hid hS0
  have Hcl := Lib.hid hcl
  clear h hh c0 c1 c4 c5 c6 hnn hcl hS0
  go_enter Try.func55, Try.ntmps55
  go_wp2_with fail
  go_loopw [3, 9] (fun _ i ws => ∃ j : Nat, j ≤ n ∧ i = .int .i64 j ∧ Hid (DirR ws I.Sb (preD S j)) ∧ Hid (w.grownBy ws (some I.Sb))) (fun _ i _ => n - (intOf i).toNat)
  case atStart => exact ⟨0, Nat.zero_le _, rfl, HS0, Lib.hid ⟨rfl, rfl, rfl, Nat.le_refl _, fun _ _ _ => rfl⟩⟩
  case round =>
    obtain ⟨j, hj, rfl, HD, HG⟩ := hrel
    have hblk := HG.out.block dp (Hd.out.bd dp Hd.out.xs.1).2 (fun e => hneS (Option.some.inj e))
    have c3r : wr.cell? ⟨dp, 3, none⟩ = some (.slice I.Ac n I.cc) := (World.cell?_of_block (w := w) (a := ⟨dp, 3, none⟩) hblk).trans c3
    by_cases hlt : j < n
    · have c2r : wr.cell? ⟨dp, 2, none⟩ = some (.map (some I.Sb)) := (World.cell?_of_block (w := w) (a := ⟨dp, 2, none⟩) hblk).trans c2
      obtain ⟨b, c, hA, _, hbl, hc, hce, _⟩ := Hd.out.row.at_ (j := j) (by have := Hnn.out; omega)
      have hce := hce 0 _ rfl
      obtain ⟨g, hg⟩ : ∃ g, S.chs[j]? = some g := ⟨_, List.getElem?_eq_getElem (by have := Hcl.out; have := Hnn.out; omega)⟩
      obtain ⟨hk, hx⟩ := Hd.out.cls j c g hc hg
      have hnb : b ≠ I.Sb := Hd.out.row_S _ hA
      have hcr : wr.cell? ⟨b, j, none⟩ = some c.v := by
        have e1 := (World.cell?_of_block (w := w) (w' := wr) (a := ⟨b, j, none⟩) (HG.out.block b hbl (fun e => hnb (Option.some.inj e))))
        rw [e1]
        simpa [shC] using hce
      have hfar : ∀ q, c.has q → q ≠ I.Sb := fun q hq => by
        obtain ⟨cur, e, h7, h8⟩ := hk.ty q hq
        exact (Hd.out.far h7 (by rcases h8 with rfl | rfl <;> decide) (by rcases h8 with rfl | rfl <;> decide)).2.2.1
      have hkr : CloR wr c g := hk.blk fun q hq => HG.out.block q (hk.lt q hq) (fun e => hfar q hq (Option.some.inj e))
      have hlen := Hh.out.few j (by have := Hcl.out; have := Hnn.out; omega)
      have C := Lib.hid (clo_any HD.out (by omega) hkr (Hh.out.ok j g hg) hfar)
      rw [← preD_succ hg] at C
      rw [hA] at c3r
      rw [hA]
      cases c with
      | cr bf bx =>
        replace C : Hid (Calls Try.prog 79 #[.map (some I.Sb), .pointer (some ⟨bf, 0, none⟩), .pointer (some ⟨bx, 0, none⟩)] wr fun e w' => e = .returned (.tuple #[]) ∧ DirR w' I.Sb (preD S (j + 1)) ∧ wr.grownBy w' (some I.Sb)) := C
        replace hcr : wr.cell? ⟨b, j, none⟩ = some (.func (.func 79) #[] #[.pointer (some ⟨bf, 0, none⟩), .pointer (some ⟨bx, 0, none⟩)]) := hcr
        clear hkr hfar hk hx hc hce
        go_wp2_with fail
        refine C.out.mono ?_
        rintro e w1 ⟨rfl, d1, g1⟩
        have D1 := Lib.hid d1
        have G1 := Lib.hid (HG.out.trans g1)
        clear d1 g1
        go_wp2_with fail
        go_roundw
        case rel => exact ⟨j + 1, by omega, by go_num, D1, G1⟩
        case measure => simp [intOf]; omega
      | mv bx bY =>
        replace C : Hid (Calls Try.prog 84 #[.map (some I.Sb), .pointer (some ⟨bx, 0, none⟩), .pointer (some ⟨bY, 0, none⟩)] wr fun e w' => e = .returned (.tuple #[]) ∧ DirR w' I.Sb (preD S (j + 1)) ∧ wr.grownBy w' (some I.Sb)) := C
        replace hcr : wr.cell? ⟨b, j, none⟩ = some (.func (.func 84) #[] #[.pointer (some ⟨bx, 0, none⟩), .pointer (some ⟨bY, 0, none⟩)]) := hcr
        clear hkr hfar hk hx hc hce
        go_wp2_with fail
        refine C.out.mono ?_
        rintro e w1 ⟨rfl, d1, g1⟩
        have D1 := Lib.hid d1
        have G1 := Lib.hid (HG.out.trans g1)
        clear d1 g1
        go_wp2_with fail
        go_roundw
        case rel => exact ⟨j + 1, by omega, by go_num, D1, G1⟩
        case measure => simp [intOf]; omega
      | rm bx =>
        replace C : Hid (Calls Try.prog 95 #[.map (some I.Sb), .pointer (some ⟨bx, 0, none⟩)] wr fun e w' => e = .returned (.tuple #[]) ∧ DirR w' I.Sb (preD S (j + 1)) ∧ wr.grownBy w' (some I.Sb)) := C
        replace hcr : wr.cell? ⟨b, j, none⟩ = some (.func (.func 95) #[] #[.pointer (some ⟨bx, 0, none⟩)]) := hcr
        clear hkr hfar hk hx hc hce
        go_wp2_with fail
        refine C.out.mono ?_
        rintro e w1 ⟨rfl, d1, g1⟩
        have D1 := Lib.hid d1
        have G1 := Lib.hid (HG.out.trans g1)
        clear d1 g1
        go_wp2_with fail
        go_roundw
        case rel => exact ⟨j + 1, by omega, by go_num, D1, G1⟩
        case measure => simp [intOf]; omega
    · obtain rfl : j = n := by omega
      have fr : wr.frozen? ⟨dp, 3, none⟩ = false := by simp [World.frozen?, hblk.trans Hd.out.blk]
      have d1 : DirR wr I.Sb (preD S S.chs.length) := by
        have q := HD.out
        rw [Hnn.out, Hcl.out] at q
        exact q
      have D1 := Lib.hid d1
      clear d1
      go_wp2_with fail
      go_end0
      obtain ⟨e1, e2⟩ := Hd.out.settled2 (fun x q hl => Hh.out.id _ x q (Nat.le_refl _) hl) D1.out HG.out
      exact ⟨rfl, e1, e2⟩

theorem RdG.fr {T : Type} {s : Shape T} {A : Option Addr} {n : Nat} {xs : List T} (h : RdG s w A n xs) (hs : w.heap.size ≤ w'.heap.size) (hb : ∀ a, A = some a → a.block < w.heap.size → w'.heap[a.block]? = w.heap[a.block]?) : RdG s w' A n xs := by
  refine ⟨h.1, fun hn => ?_⟩
  obtain ⟨b, o, hA, hlt, hc⟩ := h.2 hn
  exact ⟨b, o, hA, Nat.lt_of_lt_of_le hlt hs, fun j x hx i u hu => by rw [← hc j x hx i u hu]; exact World.cell?_of_block (a := ⟨b, o + j * s.sz + i, none⟩) (hb ⟨b, o, none⟩ hA hlt)⟩
theorem Shape.all_take {T : Type} (s : Shape T) : ∀ (xs : List T) (k : Nat), (s.all xs).take (k * s.sz) = s.all (xs.take k)
  | [], k => by simp [Shape.all]
  | x :: r, 0 => by simp [Shape.all]
  | x :: r, k + 1 => by
    rw [Shape.all_cons, List.take_succ_cons, Shape.all_cons, ← Shape.all_take s r k, Nat.succ_mul, Nat.add_comm, List.take_append, s.len, List.take_of_length_le (by rw [s.len]; omega)]
    congr 2
    omega
theorem OwnG.take {T : Type} {s : Shape T} {e : TypeId} {A : Option Addr} {c : Nat} {xs : List T} (h : OwnG s e w base A c xs) {k : Nat} (hk : k ≤ xs.length) : OwnG s e w base A c (xs.take k) := by
  have hl : (xs.take k).length = k := by rw [List.length_take]; omega
  unfold OwnG
  rw [hl]
  refine ⟨by rw [Shape.all_len, hl], ?_⟩
  rcases h.2 with ⟨hv, h0⟩ | ⟨g, cap, cur, hv, hg, hh, h1, h2, h3, h4⟩
  · injection hv with hA _ hc
    subst hA; subst hc
    obtain rfl : k = 0 := by omega
    exact .inl ⟨rfl, rfl⟩
  · injection hv with hA _ hc
    subst hA; subst hc
    refine .inr ⟨g, c, cur, rfl, hg, hh, by omega, h2, h3, ?_⟩
    rw [← s.all_take xs k, ← h4, List.take_take, Nat.min_eq_left (Nat.mul_le_mul_right _ hk)]
theorem Own.take {A : Option Addr} {c : Nat} {xs : List Nat} (h : Own .u8 5 w base A c xs) {k : Nat} (hk : k ≤ xs.length) : Own .u8 5 w base A c (xs.take k) := by
  have hl : (xs.take k).length = k := by rw [List.length_take]; omega
  unfold Own
  rw [hl]
  refine ⟨by simp; omega, ?_⟩
  rcases h.2 with ⟨hv, h0⟩ | ⟨g, cap, cur, hv, hg, hh, h1, h2, h3, h4⟩
  · injection hv with hA _ hc
    subst hA; subst hc
    obtain rfl : k = 0 := by omega
    exact .inl ⟨rfl, rfl⟩
  · injection hv with hA _ hc
    subst hA; subst hc
    refine .inr ⟨g, c, cur, rfl, hg, hh, by omega, h2, h3, ?_⟩
    rw [Nat.mul_one] at h4 ⊢
    rw [List.map_take, ← h4, List.take_take, Nat.min_eq_left hk]

theorem Try.elemC : Try.prog.elem 85 = 92 := by kernel_rfl
theorem run_sizeC (W : World) : (sizeOf (Try.prog.elem 85)).run Try.prog W = .ok 1 W := by
  obtain ⟨i, hi0, hz, hsz, hbs⟩ := info_parts Try.infoChg
  rw [Try.elemC]
  simp [sizeOf, typeInfo, hi0, hsz]
theorem Try.underC : Try.prog.underlying 85 = some (.slice (Try.prog.elem 85)) := by kernel_rfl
/-- 'd.changes[:k]' -/
theorem run_uptoC (A : Option Addr) (n c k : Nat) (hk : k ≤ c) : ∀ W : World, (Instr.slice 85 (.slice A n c) none (some (.int .i64 (k : Int))) none).run Try.prog W = .ok (.slice A k c) W := by
  intro W
  rw [run_slice_h W _ A n c Try.underC .i64 k (by omega) (by omega), run_sizeC]
  simp only [Result.andThen, sliced, Int.toNat_natCast, Nat.mul_one, Nat.sub_zero]
  congr 1
  split
  · rfl
  · cases A with
    | none => rfl
    | some a => simp [Addr.add]

/-- The changes cut. -/
theorem DK.cutCh (h : DK w X base dp S I) (k : Nat) (hk : k ≤ S.chs.length) : DK (w.setCell ⟨dp, 3, none⟩ (.slice I.Ac k I.cc)) X base dp { S with chs := S.chs.take k } { I with clos := I.clos.take k } ∧ FrX X w (w.setCell ⟨dp, 3, none⟩ (.slice I.Ac k I.cc)) := by
  have hg := setCell_grown w ⟨dp, 3, none⟩ (.slice I.Ac k I.cc)
  have hk2 : k ≤ I.clos.length := by rw [h.cln]; exact hk
  have hl : (I.clos.take k).length = k := by rw [List.length_take]; omega
  refine ⟨h.next (fun _ hb => hb) (fun b hb => ⟨(h.bd b hb).1, Nat.lt_of_lt_of_le (h.bd b hb).2 hg.size⟩) (fun b hb n1 _ _ _ => hg.block b (h.bd b hb).2 (fun e => n1 (Option.some.inj e))) rfl rfl rfl rfl rfl rfl rfl ?_ (h.dF.kept hg (fun e => h.ne_F (Option.some.inj e).symm)) (h.dS.kept hg (fun e => h.ne_S (Option.some.inj e).symm)) ((h.row.take hk2).grown hg fun a ha e => h.row_D a ha (Option.some.inj e)) h.rx ?_ (fun j c g h1 h2 => ?_) h.idF h.idS (fun x q hq => h.idC x q (List.mem_of_mem_take hq)) h.few, grownBy_frX hg (.inl h.xs.1)⟩
  · rw [heap_setCell_same w dp 3 _ _ _ h.blk, hl]
    rfl
  · show (I.clos.take k).length = (S.chs.take k).length
    rw [hl, List.length_take]
    omega
  · have h1 : (I.clos.take k)[j]? = some c := h1
    have h2 : (S.chs.take k)[j]? = some g := h2
    have hj : j < k := by have := (List.getElem?_eq_some_iff.1 h1).1; omega
    rw [List.getElem?_take_of_lt hj] at h1 h2
    exact .inl ⟨h1, h2⟩

/-- A new directory, without names. -/
theorem DK.newDir (h : DK w X base dp S I) : DK ((w.alloc (.map #[] 0)).setCell ⟨dp, 1, none⟩ (.map (some w.heap.size))) (fun b => X b ∨ b = w.heap.size) base dp { S with files := [] } { I with F := w.heap.size } ∧ Nx X w (fun b => X b ∨ b = w.heap.size) ((w.alloc (.map #[] 0)).setCell ⟨dp, 1, none⟩ (.map (some w.heap.size))) := by
  have hg := setCell_grown (w.alloc (.map #[] 0)) ⟨dp, 1, none⟩ (.map (some w.heap.size))
  have hz : ((w.alloc (.map #[] 0)).setCell ⟨dp, 1, none⟩ (.map (some w.heap.size))).heap.size = w.heap.size + 1 := by simp [World.setCell]
  have hdp := (h.bd dp h.xs.1).2
  have hblk : ∀ b, b < w.heap.size → b ≠ dp → ((w.alloc (.map #[] 0)).setCell ⟨dp, 1, none⟩ (.map (some w.heap.size))).heap[b]? = w.heap[b]? := fun b hb hne => (hg.block b (by simp; omega) (fun e => hne (Option.some.inj e))).trans (heap_alloc_old w _ hb)
  have hnew : ((w.alloc (.map #[] 0)).setCell ⟨dp, 1, none⟩ (.map (some w.heap.size))).heap[w.heap.size]? = some (.map #[] 0) := (hg.block w.heap.size (by simp) (fun e => by have := Option.some.inj e; simp at this; omega)).trans (heap_alloc_new w _)
  have keep : ∀ b, X b → b ≠ dp → ((w.alloc (.map #[] 0)).setCell ⟨dp, 1, none⟩ (.map (some w.heap.size))).heap[b]? = w.heap[b]? := fun b hb hne => hblk b (h.bd b hb).2 hne
  refine ⟨{
    blk := ?_
    xs := ⟨.inl h.xs.1, .inr rfl, .inl h.xs.2.2⟩
    bd := ?_
    dF := (dir_new w).blk (hnew.trans (heap_alloc_new w _).symm)
    dS := h.dS.blk (keep _ h.xs.2.2 (Ne.symm h.ne_S))
    ne := ?_
    row := h.row.blk fun a ha => keep _ (h.rx a ha) (h.row_D a ha)
    rx := fun a ha => .inl (h.rx a ha)
    cln := h.cln
    cls := ?_
    fil := ?_
    nd := h.nd
    sep := h.sep
    idF := fun x q hq => by cases hq
    idS := h.idS
    idC := h.idC
    pl := ?_
    few := by simp }, ⟨⟨rfl, rfl, rfl, by rw [hz]; omega, fun b hb hx => hblk b hb (fun e => hx (by rw [e]; exact h.xs.1))⟩, fun b hb => .inl hb, fun b hb => ?_⟩⟩
  · rw [heap_setCell_same _ dp 1 _ _ _ ((heap_alloc_old w _ hdp).trans h.blk)]
    rfl
  · intro b hb
    rw [hz]
    rcases hb with hb | hb
    · have := h.bd b hb; omega
    · have := h.bd dp h.xs.1; omega
  · intro e
    have := (h.bd I.Sb h.xs.2.2).2
    simp only at e
    omega
  · intro j c g h1 h2
    obtain ⟨h5, h6⟩ := h.cls j c g h1 h2
    refine ⟨h5.blk fun p hp => keep p (h6 p hp) ?_, fun p hp => .inl (h6 p hp)⟩
    obtain ⟨cur, e, h7, h8⟩ := h5.ty p hp
    exact (h.far h7 (by rcases h8 with rfl | rfl <;> decide) (by rcases h8 with rfl | rfl <;> decide)).1
  · intro q f hq
    obtain ⟨k1, k2, k3⟩ := h.fil q f hq
    obtain ⟨n1, n2, n3, n4⟩ := h.far k1.blk (by decide) (by decide)
    refine ⟨⟨(keep q k2 n1).trans k1.blk, k1.own.blk fun a ha => keep _ (k3 a ha) ?_, k1.u8, k1.le, k1.lq⟩, .inl k2, fun a ha => .inl (k3 a ha)⟩
    obtain ⟨cur, hc⟩ := k1.own.ty a ha
    exact (h.far hc (by decide) (by decide)).1
  · rcases h.pl with h' | ⟨P, n, D, e1, ⟨hP1, hP2, hP3⟩, ⟨es, clock, h3, h4⟩, h5⟩
    · exact .inl h'
    · refine .inr ⟨P, n, D, e1, ⟨.inl hP1, ?_, hP3⟩, ⟨es, clock, (keep P hP1 ?_).trans h3, h4⟩, h5⟩
      · have := (h.bd P hP1).2
        simp only
        omega
      · rintro rfl
        rw [h.blk] at h3
        cases h3
  · rcases hb with hb | hb
    · exact .inl hb
    · exact .inr (by omega)

/-- A name put in the directory as it is. -/
theorem DK.named {x : List UInt8} {q : Nat} (h : DK w X base dp S I) (hx : x.length ≤ 40) (hq : ∃ f, (q, f) ∈ S.fl) (hl : (putD S.files x q).length ≤ 400) (d1 : DirR w' I.F (putD S.files x q)) (g1 : w.grownBy w' (some I.F)) : DK w' X base dp { S with files := putD S.files x q } I := by
  refine h.next (fun _ hb => hb) (fun b hb => ⟨(h.bd b hb).1, Nat.lt_of_lt_of_le (h.bd b hb).2 g1.size⟩) (fun b hb _ n2 _ _ => g1.block b (h.bd b hb).2 (fun e => n2 (Option.some.inj e))) rfl rfl rfl rfl rfl rfl rfl ((g1.block dp (h.bd dp h.xs.1).2 (fun e => h.ne_F (Option.some.inj e))).trans h.blk) d1 (h.dS.kept g1 (fun e => h.ne (Option.some.inj e).symm)) (h.row.grown g1 fun a ha e => h.row_F a ha (Option.some.inj e)) h.rx h.cln (fun _ _ _ h1 h2 => .inl ⟨h1, h2⟩) ?_ h.idS h.idC hl
  intro y p hp
  rw [lkp_put h.dF.asc] at hp
  split at hp
  · rename_i e
    injection hp with hp
    subst hp
    rw [e]
    exact ⟨hx, hq⟩
  · exact h.idF y p hp
/-- The power's state, written. -/
theorem DK.powered (h : DK w X base dp S I) (b : Bool) : DK (w.setCell ⟨dp, 6, none⟩ (.bool b)) X base dp { S with on := b } I := by
  have hg := setCell_grown w ⟨dp, 6, none⟩ (.bool b)
  refine h.next (fun _ hb => hb) (fun b hb => ⟨(h.bd b hb).1, Nat.lt_of_lt_of_le (h.bd b hb).2 hg.size⟩) (fun b hb n1 _ _ _ => hg.block b (h.bd b hb).2 (fun e => n1 (Option.some.inj e))) rfl rfl rfl rfl rfl rfl rfl ?_ (h.dF.kept hg (fun e => h.ne_F (Option.some.inj e).symm)) (h.dS.kept hg (fun e => h.ne_S (Option.some.inj e).symm)) (h.row.grown hg fun a ha e => h.row_D a ha (Option.some.inj e)) h.rx h.cln (fun _ _ _ h1 h2 => .inl ⟨h1, h2⟩) h.idF h.idS h.idC h.few
  rw [heap_setCell_same w dp 6 _ _ _ h.blk]
  rfl
end

end Go.Proofs.Ytjckfbpdnpehcaa
