/-
  Layer 14: the directory made safe as it is.
-/
import Derived.Test.YtjckfbpdnpehcaaDK5
namespace Go.Proofs.Ytjckfbpdnpehcaa
open Go.RowKit Go.Maps Go.WideMaps
set_option maxRecDepth 100000

/-- The safe directory behind the first j changes. -/
def preD (S : DS) (j : Nat) : Dir := (S.chs.take j).foldl apD S.safe
/-- The changes between the safe directory and the one as it is. -/
structure Hist (S : DS) : Prop where
  few : ∀ j, j ≤ S.chs.length → (preD S j).length ≤ 400
  id : ∀ j x q, j ≤ S.chs.length → lkp (preD S j) x = some q → x.length ≤ 40 ∧ ∃ f, (q, f) ∈ S.fl
  ok : ∀ j g, S.chs[j]? = some g → okC (preD S j) g
  all : preD S S.chs.length = S.files
theorem preD_zero (S : DS) : preD S 0 = S.safe := by unfold preD; rw [List.take_zero]; rfl
theorem preD_succ {S : DS} {j : Nat} {g : Chg} (h : S.chs[j]? = some g) : preD S (j + 1) = apD (preD S j) g := by
  unfold preD
  rw [List.take_add_one, h, List.foldl_append]
  rfl

section
variable {w w' : World} {X : Nat → Prop} {base dp : Nat} {S : DS} {I : DI}
/-- The disk behind the changes made safe. -/
theorem DK.settled {w1 : World} (h : DK w X base dp S I) (d1 : DirR w1 I.Sb S.files) (g1 : w.grownBy w1 (some I.Sb)) :
    DK (w1.setCell ⟨dp, 3, none⟩ (.slice none 0 0)) X base dp { S with safe := S.files, chs := [] } { I with Ac := none, cc := 0, clos := [] } ∧ FrX X w (w1.setCell ⟨dp, 3, none⟩ (.slice none 0 0)) := by
  have hs := setCell_grown w1 ⟨dp, 3, none⟩ (.slice none 0 0)
  have s1 := g1.size
  have s4 : (w1.setCell ⟨dp, 3, none⟩ (.slice none 0 0)).heap.size = w1.heap.size := by simp [World.setCell]
  have hD1 := (g1.block dp (h.bd dp h.xs.1).2 (fun e => h.ne_S (Option.some.inj e))).trans h.blk
  refine ⟨h.next (fun b hb => hb) ?_ ?_ rfl rfl rfl rfl rfl rfl rfl ?_ ((h.dF.kept g1 (fun e => h.ne (Option.some.inj e))).kept hs (fun e => h.ne_F (Option.some.inj e).symm)) (d1.kept hs (fun e => h.ne_S (Option.some.inj e).symm)) (OwnG.nil _ _ _ _) (fun a ha => by cases ha) rfl (fun j c g h1 _ => by cases h1) h.idF h.idF (fun x q hq => by cases hq) h.few, (grownBy_frX g1 (.inl h.xs.2.2)).trans (grownBy_frX hs (.inl h.xs.1))⟩
  · intro b hb
    have := h.bd b hb
    rw [s4]
    omega
  · intro b hb n1 n2 n3 n4
    have hl := (h.bd b hb).2
    exact (hs.block b (by omega) (fun e => n1 (Option.some.inj e))).trans (g1.block b hl (fun e => n3 (Option.some.inj e)))
  · rw [heap_setCell_same w1 dp 3 _ _ _ hD1]
    rfl

theorem settle_any (h : DK w X base dp S I) (hh : Hist S) :
    Calls Try.prog 55 #[.pointer (some ⟨dp, 0, none⟩)] w fun e w' => e = .returned (.tuple #[]) ∧ DK w' X base dp { S with safe := S.files, chs := [] } { I with Ac := none, cc := 0, clos := [] } ∧ FrX X w w' := by
  obtain ⟨c0, c1, c2, c3, c4, c5, c6⟩ := h.at_
  have hcl := h.cln
  have hneS := h.ne_S
  have hcap := h.row.cap
  have Hd := Lib.hid h
  have Hh := Lib.hid hh
  obtain ⟨n, hnn⟩ : ∃ n, n = I.clos.length := ⟨_, rfl⟩
  rw [← hnn] at c3 hcap
  have Hnn := Lib.hid hnn
  have hS0 : DirR w I.Sb (preD S 0) := by rw [preD_zero]; exact h.dS
  have HS0 := Lib.hid hS0
  have Hcl := Lib.hid hcl
  clear h hh c0 c1 c4 c5 c6 hnn hcl hS0
  go_enter Try.func55, Try.ntmps55
  go_wp2_with fail
  go_loopw [3, 9] (fun _ i ws => ∃ j : Nat, j ≤ n ∧ i = .int .i64 j ∧ Hid (DirR ws I.Sb (preD S j)) ∧ Hid (w.grownBy ws (some I.Sb))) (fun _ i _ => n - (intOf i).toNat)
  case atStart => exact ⟨0, Nat.zero_le _, rfl, HS0, Lib.hid ⟨rfl, rfl, rfl, Nat.le_refl _, fun _ _ _ => rfl⟩⟩
  case round =>
    obtain ⟨j, hj, rfl, HD, HG⟩ := hrel
    have hblk := HG.out.block dp (Hd.out.bd dp Hd.out.xs.1).2 (fun e => hneS (Option.some.inj e))
    have c3r : wr.cell? ⟨dp, 3, none⟩ = some (.slice I.Ac n I.cc) := (World.cell?_of_block (w := w) (a := ⟨dp, 3, none⟩) hblk).trans c3
    by_cases hlt : j < n
    · have c2r : wr.cell? ⟨dp, 2, none⟩ = some (.map (some I.Sb)) := (World.cell?_of_block (w := w) (a := ⟨dp, 2, none⟩) hblk).trans c2
      obtain ⟨b, c, hA, _, hbl, hc, hce, _⟩ := Hd.out.row.at_ (j := j) (by have := Hnn.out; omega)
      have hce := hce 0 _ rfl
      obtain ⟨g, hg⟩ : ∃ g, S.chs[j]? = some g := ⟨_, List.getElem?_eq_getElem (by have := Hcl.out; have := Hnn.out; omega)⟩
      obtain ⟨hk, hx⟩ := Hd.out.cls j c g hc hg
      have hnb : b ≠ I.Sb := Hd.out.row_S _ hA
      have hcr : wr.cell? ⟨b, j, none⟩ = some c.v := by
        have e1 := (World.cell?_of_block (w := w) (w' := wr) (a := ⟨b, j, none⟩) (HG.out.block b hbl (fun e => hnb (Option.some.inj e))))
        rw [e1]
        simpa [shC] using hce
      have hfar : ∀ q, c.has q → q ≠ I.Sb := fun q hq => by
        obtain ⟨cur, e, h7, h8⟩ := hk.ty q hq
        exact (Hd.out.far h7 (by rcases h8 with rfl | rfl <;> decide) (by rcases h8 with rfl | rfl <;> decide)).2.2.1
      have hkr : CloR wr c g := hk.blk fun q hq => HG.out.block q (hk.lt q hq) (fun e => hfar q hq (Option.some.inj e))
      have hlen := Hh.out.few j (by have := Hcl.out; have := Hnn.out; omega)
      have C := Lib.hid (clo_any HD.out (by omega) hkr (Hh.out.ok j g hg) hfar)
      rw [← preD_succ hg] at C
      rw [hA] at c3r
      rw [hA]
      cases c with
      | cr bf bx =>
        replace C : Hid (Calls Try.prog 79 #[.map (some I.Sb), .pointer (some ⟨bf, 0, none⟩), .pointer (some ⟨bx, 0, none⟩)] wr fun e w' => e = .returned (.tuple #[]) ∧ DirR w' I.Sb (preD S (j + 1)) ∧ wr.grownBy w' (some I.Sb)) := C
        replace hcr : wr.cell? ⟨b, j, none⟩ = some (.func (.func 79) #[] #[.pointer (some ⟨bf, 0, none⟩), .pointer (some ⟨bx, 0, none⟩)]) := hcr
        clear hkr hfar hk hx hc hce
        go_wp2_with fail
        refine C.out.mono ?_
        rintro e w1 ⟨rfl, d1, g1⟩
        have D1 := Lib.hid d1
        have G1 := Lib.hid (HG.out.trans g1)
        clear d1 g1
        go_wp2_with fail
        go_roundw
        case rel => exact ⟨j + 1, by omega, by go_num, D1, G1⟩
        case measure => simp [intOf]; omega
      | mv bx bY =>
        replace C : Hid (Calls Try.prog 84 #[.map (some I.Sb), .pointer (some ⟨bx, 0, none⟩), .pointer (some ⟨bY, 0, none⟩)] wr fun e w' => e = .returned (.tuple #[]) ∧ DirR w' I.Sb (preD S (j + 1)) ∧ wr.grownBy w' (some I.Sb)) := C
        replace hcr : wr.cell? ⟨b, j, none⟩ = some (.func (.func 84) #[] #[.pointer (some ⟨bx, 0, none⟩), .pointer (some ⟨bY, 0, none⟩)]) := hcr
        clear hkr hfar hk hx hc hce
        go_wp2_with fail
        refine C.out.mono ?_
        rintro e w1 ⟨rfl, d1, g1⟩
        have D1 := Lib.hid d1
        have G1 := Lib.hid (HG.out.trans g1)
        clear d1 g1
        go_wp2_with fail
        go_roundw
        case rel => exact ⟨j + 1, by omega, by go_num, D1, G1⟩
        case measure => simp [intOf]; omega
      | rm bx =>
        replace C : Hid (Calls Try.prog 95 #[.map (some I.Sb), .pointer (some ⟨bx, 0, none⟩)] wr fun e w' => e = .returned (.tuple #[]) ∧ DirR w' I.Sb (preD S (j + 1)) ∧ wr.grownBy w' (some I.Sb)) := C
        replace hcr : wr.cell? ⟨b, j, none⟩ = some (.func (.func 95) #[] #[.pointer (some ⟨bx, 0, none⟩)]) := hcr
        clear hkr hfar hk hx hc hce
        go_wp2_with fail
        refine C.out.mono ?_
        rintro e w1 ⟨rfl, d1, g1⟩
        have D1 := Lib.hid d1
        have G1 := Lib.hid (HG.out.trans g1)
        clear d1 g1
        go_wp2_with fail
        go_roundw
        case rel => exact ⟨j + 1, by omega, by go_num, D1, G1⟩
        case measure => simp [intOf]; omega
    · obtain rfl : j = n := by omega
      have fr : wr.frozen? ⟨dp, 3, none⟩ = false := by simp [World.frozen?, hblk.trans Hd.out.blk]
      have d1 : DirR wr I.Sb S.files := by
        have q := HD.out
        rw [Hnn.out, Hcl.out, Hh.out.all] at q
        exact q
      have D1 := Lib.hid d1
      clear d1
      go_wp2_with fail
      go_end0
      obtain ⟨e1, e2⟩ := Hd.out.settled D1.out HG.out
      exact ⟨rfl, e1, e2⟩
end

end Go.Proofs.Ytjckfbpdnpehcaa
