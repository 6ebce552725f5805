/-
  Layer 18: the iterator that Each hands back.
-/
import Derived.RangeFuncNested
import Derived.RangeFuncBound
import Derived.RangeFuncCalls
import Derived.RangeFuncLeaves
import Derived.Shelf.Abstract
import Derived.Shelf.RegionOpen
import Derived.WalkKit
import Derived.OwnWalkIn
import Derived.TacticsInMore
import Derived.LoopNIn
import Derived.LoopIn
import Derived.Test.YtkmnhapeohlooaaSK8
import Derived.Test.YtkmnhapeohlooaaRF
namespace Go.Proofs.Ytkmnhapeohlooaa
open Go.RowKit
set_option maxRecDepth 100000

/-- A key that is handed out: its place, its node. -/
structure It (ns : List Nd) (L : List (List Nat)) (V : List Int) where
  p : Nat
  i : Nat
  i0 : i ≠ 0
  lt : i < ns.length
  hL : L[p]? = some (kb ns i)
  hV : V[p]? = some (vl ns i)

/-- The blocks of Y lie as they lay. -/
def KeepY (Y : Nat → Prop) (W W' : World) : Prop := (∀ q, Y q → W'.heap[q]? = W.heap[q]?) ∧ W.heap.size ≤ W'.heap.size
theorem keepY_t {Y : Nat → Prop} {A B C : World} (h : KeepY Y A B) (k : KeepY Y B C) : KeepY Y A C := ⟨fun q hq => (k.1 q hq).trans (h.1 q hq), Nat.le_trans h.2 k.2⟩
theorem keepY_b {Y : Nat → Prop} {w : World} (hY : ∀ q, Y q → q < w.heap.size) (W : World) (l : Nat) (o o' : Obj) (hl : w.heap.size ≤ l) (_ : W.heap[l]? = some o) (_ : o.isCells = false) (_ : o.isWalk = false) : KeepY Y W (W.putObj l o') :=
  ⟨fun q hq => World.putObj_heap_other (by have := hY q hq; omega), by simp [World.putObj]⟩

abbrev encK (ns : List Nd) {L : List (List Nat)} {V : List Int} (x : It ns L V) : Array Value := #[(nat_ ns x.i).key.v, .int .i64 (vl ns x.i)]
/-- The places from c on, as many as there are. -/
def FromC {ns : List Nd} {L : List (List Nat)} {V : List Int} (c : Nat) (ys : List (It ns L V)) : Prop := ys.map It.p = List.range' c ys.length
theorem fromC_snoc {ns : List Nd} {L : List (List Nat)} {V : List Int} {c : Nat} {ys : List (It ns L V)} (h : FromC c ys) (x : It ns L V) (hx : x.p = c + ys.length) : FromC c (ys ++ [x]) := by
  unfold FromC at h ⊢
  rw [List.map_append, h, List.length_append, List.length_singleton, List.range'_concat, List.map_singleton, hx]
  simp

theorem bf_next {n : Nat} {K : Nat → List Nat} {G : Nat → Nat} {X : Nat → Nat → Nat} {H : Nat} (h : Sk n K G X H) {j : Nat} (hj : j < n) (j0 : j ≠ 0) : X j 0 < n ∧ (X j 0 ≠ 0 → Bf K j (X j 0)) := by
  have hk := h.lk 0 j (by omega) hj (.inr (by have := (h.gr j (by omega) hj).1; omega))
  exact ⟨hk.lt, fun h0 => (hk.bf h0).2⟩

def eachM (n : Nat) (K : Nat → List Nat) (j : Nat) : Nat := if j = 0 then 0 else restN n K j + 1

set_option maxHeartbeats 6400000 in
theorem iterK_in (l Bl Bw : Nat) (X : Nat → Prop) (base sb H : Nat) (ns : List Nd) (hs : List Int) (L : List (List Nat)) (V : List Int) (hR : Rep ns.length (kb ns) (vl ns) L V) (hb : ns.length ≤ 17592186044417) (A : Option Addr) (m c : Nat) (t : List Nat) (hu : U8 t) (J Jx : List (It ns L V) → World → Prop)
    (hJa : ∀ s W W', J s W → Ext W W' → J s W')
    (hY : ∀ pre x W, J pre W → pre.length < L.length → YieldAt Fence.wide 3 Try.prog l (encK ns x) W fun e W' =>
      (e = .returned (.bool true) ∧ J (pre ++ [x]) W' ∧ KeepY (fun q => X q ∨ q = Bl) W W') ∨ (e = .returned (.bool false) ∧ Jx (pre ++ [x]) W'))
    (W : World) (hS : SL W X base sb ns hs H) (h1 : W.cell? ⟨Bl, 0, none⟩ = some (.pointer (some ⟨sb, 0, none⟩))) (h2 : W.cell? ⟨Bw, 0, none⟩ = some (.slice A m c)) (ht : Rd .u8 W A m t) (h0 : J [] W) :
    CallsIn Fence.wide 4 Try.prog 83 #[.func (.yield l) #[] #[], .pointer (some ⟨Bl, 0, none⟩), .pointer (some ⟨Bw, 0, none⟩)] W fun e W' => (∃ v, e = .returned v) ∧
      ((∃ ys, (FromC (skN t L) ys ∧ skN t L + ys.length = L.length) ∧ J ys W') ∨ (∃ pre, FromC (skN t L) pre ∧ Jx pre W')) := by
  have CF := Lib.hid (fun W' (hW : Ext W W') => sfirst_any (hS.ext hW) hb A m c t (ht.ext hW) hu)
  have HS := Lib.hid hS
  have HR := Lib.hid hR
  have HJa := Lib.hid hJa
  have HY := Lib.hid hY
  have hl1 := World.block_lt_of_cell? W _ h1
  obtain ⟨s, hs0⟩ : ∃ s, s = skN t L := ⟨_, rfl⟩
  rw [← hs0]
  have Hs0 := Lib.hid hs0
  clear hS hR hJa hY ht hu hs0
  refine callsIn_of_wp Try.func83 rfl trivial ?_ rfl
  simp only [Try.ntmps83, List.size_toArray, List.length_cons, List.length_nil, Nat.reduceAdd, Nat.reduceSub, Array.replicate_succ, Array.replicate_zero, List.push_toArray, List.append_toArray, List.nil_append, List.cons_append]
  gi_wp2_with (refine ⟨trivial, ?_⟩; gi_at_call 82; refine (callsIn_wide.2 (CF.out _ (Ext.refl _))).mono ?_; rintro e w1 ⟨⟨j, rfl, hF⟩, he1⟩)
  have hpos := fst_pos HR.out hF
  have hjl := hF.lt
  rw [← Hs0.out] at hpos
  have hS1 := HS.out.ext he1
  have h11 := (Below.cell he1 (p := ⟨Bl, 0, none⟩) hl1).trans h1
  gi_loopw [4] (fun v wr => ∃ (j : Nat) (ys : List (It ns L V)), v = .int .i64 (j : Int) ∧ j < ns.length ∧ Hid (Pos ns.length (kb ns) (vl ns) L V (s + ys.length) j) ∧ Hid (FromC s ys) ∧ Hid (J ys wr) ∧ Hid (SL wr X base sb ns hs H) ∧ wr.cell? ⟨Bl, 0, none⟩ = some (.pointer (some ⟨sb, 0, none⟩)))
    (fun v _ => eachM ns.length (kb ns) (intOf v).toNat)
  case atStart => exact ⟨j, [], rfl, hjl, Lib.hid (by simpa using hpos), Lib.hid rfl, Lib.hid (HJa.out _ _ _ h0 he1), Lib.hid hS1, h11⟩
  case round =>
    clear h1 h2 h0 hF hpos hS1 h11 he1 hjl
    obtain ⟨j, ys, rfl, hj, Hp, Hys, HJ, HSr, hcl⟩ := hrel
    by_cases j0 : j = 0
    · subst j0
      gi_wp2
      go_end0
      refine ⟨⟨_, rfl⟩, .inl ⟨ys, ⟨Hys.out, ?_⟩, HJ.out⟩⟩
      rcases Hp.out with ⟨_, e⟩ | ⟨e, _⟩
      · exact e
      · exact absurd rfl e
    · have b0 : ((j : Int) != 0) = true := by simp; omega
      obtain ⟨_, _, pL, pV⟩ : j ≠ 0 ∧ j < ns.length ∧ L[s + ys.length]? = some (kb ns j) ∧ V[s + ys.length]? = some (vl ns j) := by
        rcases Hp.out with ⟨e, _⟩ | e
        · exact absurd e j0
        · exact e
      have hlen : s + ys.length < L.length := (List.getElem?_eq_some_iff.1 pL).1
      obtain ⟨x, hxp, hxi⟩ : ∃ x : It ns L V, x.p = s + ys.length ∧ x.i = j := ⟨⟨s + ys.length, j, j0, hj, pL, pV⟩, rfl, rfl⟩
      have HYy := Lib.hid (HY.out ys x wr.drew (HJa.out _ _ _ HJ.out (Ext.refl _).drew) (by omega))
      have Hsn := Lib.hid (fromC_snoc Hys.out x hxp)
      have Hnp := Lib.hid (next_pos HR.out HSr.out.sk Hp.out j0)
      have Hbn := Lib.hid (bf_next HSr.out.sk hj j0)
      have hSd := HSr.out.ext ((Ext.refl wr).drew)
      obtain ⟨b, cn, Ah, ch, hSee, hsbq, _, _, hXb, _, _⟩ := hSd.see2
      have c0 := hSee.c0
      obtain ⟨cap1, cap2⟩ := hSee.cap
      have k0 := hSee.key j hj
      have v0 := hSee.val j hj
      have hcl2 : wr.drew.cell? ⟨Bl, 0, none⟩ = some (.pointer (some ⟨sb, 0, none⟩)) := hcl
      have Hblk := Lib.hid (show X sb ∧ X b from ⟨hSd.sbX, hXb⟩)
      have HSd := Lib.hid hSd
      have Hnx := Lib.hid (hSee.nx j 0 hj (by omega))
      unfold encK at HYy
      rw [hxi] at HYy
      obtain ⟨kv, hkv⟩ : ∃ kv, kv = (nat_ ns j).key.v := ⟨_, rfl⟩
      obtain ⟨xv, hxv⟩ : ∃ xv, xv = vl ns j := ⟨_, rfl⟩
      obtain ⟨n, hn⟩ : ∃ n, n = ns.length := ⟨_, rfl⟩
      rw [← hkv] at k0 HYy
      rw [← hxv] at v0 HYy
      rw [← hn] at c0 cap1 hj
      have Hn := Lib.hid hn
      obtain ⟨fn, tmps, assign, body, hy, hRd⟩ := HYy.out
      have hS0 : wr.drew.cell? ⟨Bl, 0, none⟩ = some (.pointer (some ⟨sb, 0, none⟩)) ∧ wr.drew.cell? ⟨sb, 0, none⟩ = some (.slice (some ⟨b, 0, none⟩) n cn) ∧ wr.drew.cell? ⟨b, j * 14, none⟩ = some kv ∧ wr.drew.cell? ⟨b, j * 14 + 1, none⟩ = some (.int .i64 xv) := ⟨hcl2, c0, k0, v0⟩
      clear hsbq hSee hSd hkv hxv hn pL pV hXb hxp hxi
      gi_wp2_with fail
      refine wpIn_region_C (S := fun W9 => W9.cell? ⟨Bl, 0, none⟩ = some (.pointer (some ⟨sb, 0, none⟩)) ∧ W9.cell? ⟨sb, 0, none⟩ = some (.slice (some ⟨b, 0, none⟩) n cn) ∧ W9.cell? ⟨b, j * 14, none⟩ = some kv ∧ W9.cell? ⟨b, j * 14 + 1, none⟩ = some (.int .i64 xv)) (late := fun k => k == 17 || k == 18) (by kernel_rfl) ?_
      refine wpAnyC_take (i := 0) (v := ?_) rfl rfl (by kernel_rfl) (by kernel_rfl) (by kernel_rfl) (by kernel_rfl) (by kernel_rfl) (fun _ _ _ h => h) ⟨Or.inl ⟨by rfl, ?_⟩, fun _ => rfl⟩ (by exact hS0) ?_
      rotate_left
      · (intro w hSw; (try dsimp only at hSw); (try (obtain ⟨hS1, hS2, hS3, hS4⟩ := hSw)); go_simp; (try with_reducible rfl))
      (try (simp only [Act.put, List.getElem_toArray, List.getElem_cons_zero, List.setIfInBounds_toArray, List.set_cons_zero, List.set_cons_succ]))
      refine wpAnyC_take (i := 1) (v := ?_) rfl rfl (by kernel_rfl) (by kernel_rfl) (by kernel_rfl) (by kernel_rfl) (by kernel_rfl) (fun _ _ _ h => h) ⟨Or.inl ⟨by rfl, ?_⟩, fun _ => rfl⟩ (by exact hS0) ?_
      rotate_left
      · (intro w hSw; (try dsimp only at hSw); (try (obtain ⟨hS1, hS2, hS3, hS4⟩ := hSw)); go_simp; (try with_reducible rfl))
      (try (simp only [Act.put, List.getElem_toArray, List.getElem_cons_zero, List.getElem_cons_succ, List.setIfInBounds_toArray, List.set_cons_zero, List.set_cons_succ]))
      refine wpAnyC_take (i := 2) (v := ?_) rfl rfl (by kernel_rfl) (by kernel_rfl) (by kernel_rfl) (by kernel_rfl) (by kernel_rfl) (fun _ _ _ h => h) ⟨Or.inl ⟨by rfl, ?_⟩, fun _ => rfl⟩ (by exact hS0) ?_
      rotate_left
      · (intro w hSw; (try dsimp only at hSw); (try (obtain ⟨hS1, hS2, hS3, hS4⟩ := hSw)); go_simp; (try with_reducible rfl))
      (try (simp only [Act.put, List.getElem_toArray, List.getElem_cons_zero, List.getElem_cons_succ, List.setIfInBounds_toArray, List.set_cons_zero, List.set_cons_succ]))
      refine wpAnyC_take (i := 3) (v := ?_) rfl rfl (by kernel_rfl) (by kernel_rfl) (by kernel_rfl) (by kernel_rfl) (by kernel_rfl) (fun _ _ _ h => h) ⟨Or.inl ⟨by rfl, ?_⟩, fun _ => rfl⟩ (by exact hS0) ?_
      rotate_left
      · (intro w hSw; (try dsimp only at hSw); (try (obtain ⟨hS1, hS2, hS3, hS4⟩ := hSw)); go_simp; (try with_reducible rfl))
      (try (simp only [Act.put, List.getElem_toArray, List.getElem_cons_zero, List.getElem_cons_succ, List.setIfInBounds_toArray, List.set_cons_zero, List.set_cons_succ]))
      refine wpAnyC_take (i := 4) (v := ?_) rfl rfl (by kernel_rfl) (by kernel_rfl) (by kernel_rfl) (by kernel_rfl) (by kernel_rfl) (fun _ _ _ h => h) ⟨Or.inl ⟨by rfl, ?_⟩, fun _ => rfl⟩ (by exact hS0) ?_
      rotate_left
      · (intro w hSw; (try dsimp only at hSw); (try (obtain ⟨hS1, hS2, hS3, hS4⟩ := hSw)); go_simp; (try with_reducible rfl))
      (try (simp only [Act.put, List.getElem_toArray, List.getElem_cons_zero, List.getElem_cons_succ, List.setIfInBounds_toArray, List.set_cons_zero, List.set_cons_succ]))
      refine wpAnyC_take (i := 5) (v := ?_) rfl rfl (by kernel_rfl) (by kernel_rfl) (by kernel_rfl) (by kernel_rfl) (by kernel_rfl) (fun _ _ _ h => h) ⟨Or.inl ⟨by rfl, ?_⟩, fun _ => rfl⟩ (by exact hS0) ?_
      rotate_left
      · (intro w hSw; (try dsimp only at hSw); (try (obtain ⟨hS1, hS2, hS3, hS4⟩ := hSw)); go_simp; (try with_reducible rfl))
      (try (simp only [Act.put, List.getElem_toArray, List.getElem_cons_zero, List.getElem_cons_succ, List.setIfInBounds_toArray, List.set_cons_zero, List.set_cons_succ]))
      refine wpAnyC_take (i := 6) (v := ?_) rfl rfl (by kernel_rfl) (by kernel_rfl) (by kernel_rfl) (by kernel_rfl) (by kernel_rfl) (fun _ _ _ h => h) ⟨Or.inl ⟨by rfl, ?_⟩, fun _ => rfl⟩ (by exact hS0) ?_
      rotate_left
      · (intro w hSw; (try dsimp only at hSw); (try (obtain ⟨hS1, hS2, hS3, hS4⟩ := hSw)); go_simp; (try with_reducible rfl))
      (try (simp only [Act.put, List.getElem_toArray, List.getElem_cons_zero, List.getElem_cons_succ, List.setIfInBounds_toArray, List.set_cons_zero, List.set_cons_succ]))
      refine wpAnyC_take (i := 7) (v := ?_) rfl rfl (by kernel_rfl) (by kernel_rfl) (by kernel_rfl) (by kernel_rfl) (by kernel_rfl) (fun _ _ _ h => h) ⟨Or.inl ⟨by rfl, ?_⟩, fun _ => rfl⟩ (by exact hS0) ?_
      rotate_left
      · (intro w hSw; (try dsimp only at hSw); (try (obtain ⟨hS1, hS2, hS3, hS4⟩ := hSw)); go_simp; (try with_reducible rfl))
      (try (simp only [Act.put, List.getElem_toArray, List.getElem_cons_zero, List.getElem_cons_succ, List.setIfInBounds_toArray, List.set_cons_zero, List.set_cons_succ]))
      refine wpAnyC_take (i := 8) (v := ?_) rfl rfl (by kernel_rfl) (by kernel_rfl) (by kernel_rfl) (by kernel_rfl) (by kernel_rfl) (fun _ _ _ h => h) ⟨Or.inl ⟨by rfl, ?_⟩, fun _ => rfl⟩ (by exact hS0) ?_
      rotate_left
      · (intro w hSw; (try dsimp only at hSw); (try (obtain ⟨hS1, hS2, hS3, hS4⟩ := hSw)); go_simp; (try with_reducible rfl))
      (try (simp only [Act.put, List.getElem_toArray, List.getElem_cons_zero, List.getElem_cons_succ, List.setIfInBounds_toArray, List.set_cons_zero, List.set_cons_succ]))
      refine wpAnyC_take (i := 9) (v := ?_) rfl rfl (by kernel_rfl) (by kernel_rfl) (by kernel_rfl) (by kernel_rfl) (by kernel_rfl) (fun _ _ _ h => h) ⟨Or.inl ⟨by rfl, ?_⟩, fun _ => rfl⟩ (by exact hS0) ?_
      rotate_left
      · (intro w hSw; (try dsimp only at hSw); (try (obtain ⟨hS1, hS2, hS3, hS4⟩ := hSw)); go_simp; (try with_reducible rfl))
      (try (simp only [Act.put, List.getElem_toArray, List.getElem_cons_zero, List.getElem_cons_succ, List.setIfInBounds_toArray, List.set_cons_zero, List.set_cons_succ]))
      refine wpAnyC_take (i := 10) (v := ?_) rfl rfl (by kernel_rfl) (by kernel_rfl) (by kernel_rfl) (by kernel_rfl) (by kernel_rfl) (fun _ _ _ h => h) ⟨Or.inl ⟨by rfl, ?_⟩, fun _ => rfl⟩ (by exact hS0) ?_
      rotate_left
      · (intro w hSw; (try dsimp only at hSw); (try (obtain ⟨hS1, hS2, hS3, hS4⟩ := hSw)); go_simp; (try with_reducible rfl))
      (try (simp only [Act.put, List.getElem_toArray, List.getElem_cons_zero, List.getElem_cons_succ, List.setIfInBounds_toArray, List.set_cons_zero, List.set_cons_succ]))
      refine wpAnyC_take (i := 11) (v := ?_) rfl rfl (by kernel_rfl) (by kernel_rfl) (by kernel_rfl) (by kernel_rfl) (by kernel_rfl) (fun _ _ _ h => h) ⟨Or.inl ⟨by rfl, ?_⟩, fun _ => rfl⟩ (by exact hS0) ?_
      rotate_left
      · (intro w hSw; (try dsimp only at hSw); (try (obtain ⟨hS1, hS2, hS3, hS4⟩ := hSw)); go_simp; (try with_reducible rfl))
      (try (simp only [Act.put, List.getElem_toArray, List.getElem_cons_zero, List.getElem_cons_succ, List.setIfInBounds_toArray, List.set_cons_zero, List.set_cons_succ]))
      refine wpAnyC_take (i := 12) (v := ?_) rfl rfl (by kernel_rfl) (by kernel_rfl) (by kernel_rfl) (by kernel_rfl) (by kernel_rfl) (fun _ _ _ h => h) ⟨Or.inl ⟨by rfl, ?_⟩, fun _ => rfl⟩ (by exact hS0) ?_
      rotate_left
      · (intro w hSw; (try dsimp only at hSw); (try (obtain ⟨hS1, hS2, hS3, hS4⟩ := hSw)); go_simp; (try with_reducible rfl))
      (try (simp only [Act.put, List.getElem_toArray, List.getElem_cons_zero, List.getElem_cons_succ, List.setIfInBounds_toArray, List.set_cons_zero, List.set_cons_succ]))
      refine wpAnyC_take (i := 13) (v := ?_) rfl rfl (by kernel_rfl) (by kernel_rfl) (by kernel_rfl) (by kernel_rfl) (by kernel_rfl) (fun _ _ _ h => h) ⟨Or.inl ⟨by rfl, ?_⟩, fun _ => rfl⟩ (by exact hS0) ?_
      rotate_left
      · (intro w hSw; (try dsimp only at hSw); (try (obtain ⟨hS1, hS2, hS3, hS4⟩ := hSw)); go_simp; (try with_reducible rfl))
      (try (simp only [Act.put, List.getElem_toArray, List.getElem_cons_zero, List.getElem_cons_succ, List.setIfInBounds_toArray, List.set_cons_zero, List.set_cons_succ]))
      refine wpAnyC_take (i := 14) (v := ?_) rfl rfl (by kernel_rfl) (by kernel_rfl) (by kernel_rfl) (by kernel_rfl) (by kernel_rfl) (fun _ _ _ h => h) ⟨Or.inl ⟨by rfl, ?_⟩, fun _ => rfl⟩ (by exact hS0) ?_
      rotate_left
      · (intro w hSw; (try dsimp only at hSw); (try (obtain ⟨hS1, hS2, hS3, hS4⟩ := hSw)); go_simp; (try with_reducible rfl))
      (try (simp only [Act.put, List.getElem_toArray, List.getElem_cons_zero, List.getElem_cons_succ, List.setIfInBounds_toArray, List.set_cons_zero, List.set_cons_succ]))
      refine wpAnyC_take (i := 15) (v := ?_) rfl rfl (by kernel_rfl) (by kernel_rfl) (by kernel_rfl) (by kernel_rfl) (by kernel_rfl) (fun _ _ _ h => h) ⟨Or.inl ⟨by rfl, ?_⟩, fun _ => rfl⟩ (by exact hS0) ?_
      rotate_left
      · (intro w hSw; (try dsimp only at hSw); (try (obtain ⟨hS1, hS2, hS3, hS4⟩ := hSw)); go_simp; (try with_reducible rfl))
      (try (simp only [Act.put, List.getElem_toArray, List.getElem_cons_zero, List.getElem_cons_succ, List.setIfInBounds_toArray, List.set_cons_zero, List.set_cons_succ]))
      refine wpAnyC_take (i := 16) (v := ?_) rfl rfl (by kernel_rfl) (by kernel_rfl) (by kernel_rfl) (by kernel_rfl) (by kernel_rfl) (fun _ _ _ h => h) ⟨Or.inl ⟨by rfl, ?_⟩, fun _ => rfl⟩ (by exact hS0) ?_
      rotate_left
      · (intro w hSw; (try dsimp only at hSw); (try (obtain ⟨hS1, hS2, hS3, hS4⟩ := hSw)); go_simp; (try with_reducible rfl))
      (try (simp only [Act.put, List.getElem_toArray, List.getElem_cons_zero, List.getElem_cons_succ, List.setIfInBounds_toArray, List.set_cons_zero, List.set_cons_succ]))
      refine wpAnyC_step (i := 17) (by kernel_rfl) rfl rfl rfl ?_
      refine ⟨fun _ _ => trivial, ?_⟩
      rw [Oper.semAt_eq _ _ _ (fun c h => by cases h)]
      go_simp
      refine hRd.mono ?_
      rintro e W3 (⟨rfl, hJ3, hk3⟩ | ⟨rfl, hJx3⟩)
      · (try dsimp only)
        (try (simp only [Act.put, List.getElem_toArray, List.getElem_cons_zero, List.getElem_cons_succ, List.setIfInBounds_toArray, List.set_cons_zero, List.set_cons_succ]))
        refine wpAnyC_step (i := 18) (by kernel_rfl) rfl rfl rfl ?_
        refine ⟨fun _ _ => trivial, ?_⟩
        rw [Oper.semAt_eq _ _ _ (fun c h => by cases h)]
        go_simp
        (try (simp only [Act.put, List.getElem_toArray, List.getElem_cons_zero, List.getElem_cons_succ, List.setIfInBounds_toArray, List.set_cons_zero, List.set_cons_succ]))
        refine wpAnyC_done (by kernel_rfl) ?_ _
        have hS3 := HSd.out.kept (fun q hq => hk3.1 q (.inl hq)) hk3.2
        obtain ⟨b3, cn3, Ah3, ch3, hSee3, _⟩ := hS3.see2
        have hcl3 : W3.cell? ⟨Bl, 0, none⟩ = some (.pointer (some ⟨sb, 0, none⟩)) := (World.cell?_of_block (a := ⟨Bl, 0, none⟩) (hk3.1 Bl (.inr rfl))).trans hcl2
        have c03 := hSee3.c0
        have n03 := hSee3.nx j 0 (by rw [← Hn.out]; exact hj) (by omega)
        obtain ⟨cap31, cap32⟩ := hSee3.cap
        rw [← Hn.out] at c03 cap31
        rw [Nat.add_zero] at n03
        obtain ⟨y, hyy⟩ : ∃ y, y = nxt ns j 0 := ⟨_, rfl⟩
        rw [← hyy] at n03
        have Hyy := Lib.hid hyy
        have HS3 := Lib.hid hS3
        clear hS3 hSee3 hyy c0 k0 v0 hcl2 hS0 hcl cap1
        gi_wp2
        refine ⟨⟨y, ys ++ [x], rfl, by rw [Hyy.out]; exact Hbn.out.1, Lib.hid ?_, Hsn, Lib.hid hJ3, HS3, hcl3⟩, ?_⟩
        · rw [Hyy.out, List.length_append, List.length_singleton, ← Nat.add_assoc]
          exact Hnp.out
        · show eachM ns.length (kb ns) y < eachM ns.length (kb ns) j
          unfold eachM
          rw [if_neg j0]
          by_cases y0 : y = 0
          · rw [if_pos y0]; omega
          · rw [if_neg y0]
            have h7 := Hbn.out
            rw [← Hyy.out] at h7
            have := rest_lt h7.1 y0 (h7.2 y0)
            omega
      · (try dsimp only)
        (try (simp only [Act.put, List.getElem_toArray, List.getElem_cons_zero, List.getElem_cons_succ, List.setIfInBounds_toArray, List.set_cons_zero, List.set_cons_succ]))
        refine wpAnyC_step (i := 18) (by kernel_rfl) rfl rfl rfl ?_
        refine ⟨fun _ _ => trivial, ?_⟩
        rw [Oper.semAt_eq _ _ _ (fun c h => by cases h)]
        go_simp
        (try (simp only [Act.put, List.getElem_toArray, List.getElem_cons_zero, List.getElem_cons_succ, List.setIfInBounds_toArray, List.set_cons_zero, List.set_cons_succ]))
        refine wpAnyC_done (by kernel_rfl) ?_ _
        gi_wp2
        refine bodyPost_ret (results_none rfl _ _ _) rfl ?_
        exact ⟨⟨_, rfl⟩, .inr ⟨ys ++ [x], Hsn.out, hJx3⟩⟩

theorem seqK_any (Bl Bw : Nat) (X : Nat → Prop) (base sb H : Nat) (ns : List Nd) (hs : List Int) (L : List (List Nat)) (V : List Int) (hR : Rep ns.length (kb ns) (vl ns) L V) (hb : ns.length ≤ 17592186044417) (A : Option Addr) (m c : Nat) (t : List Nat) (hu : U8 t)
    (w : World) (hS : SL w X base sb ns hs H) (b1 : Bl < w.heap.size) (b2 : Bw < w.heap.size) (h1 : w.cell? ⟨Bl, 0, none⟩ = some (.pointer (some ⟨sb, 0, none⟩))) (h2 : w.cell? ⟨Bw, 0, none⟩ = some (.slice A m c)) (ht : Rd .u8 w A m t) :
    SeqStopsK Fence.wide 4 Try.prog 83 #[.pointer (some ⟨Bl, 0, none⟩), .pointer (some ⟨Bw, 0, none⟩)] (fun x : It ns L V => encK ns x) (KeepY (fun q => X q ∨ q = Bl)) (fun ys => FromC (skN t L) ys ∧ skN t L + ys.length = L.length) (fun pre => FromC (skN t L) pre) L.length w := fun l J Jx W hW hJ _ hY h0 =>
  iterK_in l Bl Bw X base sb H ns hs L V hR hb A m c t hu J Jx (fun s W W' hs he => hJ s W W' none hs ⟨he.os, he.tape, he.output, he.size, fun i hi _ => he.block i hi⟩ (fun r e => by cases e)) hY W (hS.kept (fun q hq => hW.block q (hS.bd q hq).2) hW.size) ((hW.cell (p := ⟨Bl, 0, none⟩) b1).trans h1) ((hW.cell (p := ⟨Bw, 0, none⟩) b2).trans h2) (ht.ext hW) h0

end Go.Proofs.Ytkmnhapeohlooaa
