/-
  Layer 18: down the levels: the last nodes ahead of a key.
-/
import Derived.Test.YtkmnhapeohlooaaSK3
import Derived.Laws.Rows
namespace Go.Proofs.Ytkmnhapeohlooaa
open Go.RowKit
set_option maxRecDepth 100000

abbrev z12 : Array Value := #[.int .i64 0, .int .i64 0, .int .i64 0, .int .i64 0, .int .i64 0, .int .i64 0, .int .i64 0, .int .i64 0, .int .i64 0, .int .i64 0, .int .i64 0, .int .i64 0]
theorem z12_twr : z12 = (twr fun _ => 0).toArray := rfl
/-- A tower as a value. -/
abbrev twv (a : Nat → Nat) : Value := .agg (twr a).toArray

theorem results_t1 {P : Program} {fn : Func} {p : Tmp} {ty : TypeId} (h : fn.results = #[.cell p ty]) (tmps : Array Value) (w : World) (g : Nat) (T : TypeId) (cs : Array Value) (fr : Nat × Nat) (d : TypeDesc)
    (hp : tmps.getD p undef = .pointer (some ⟨g, 0, none⟩)) (hg : w.heap[g]? = some (.cells cs T fr))
    (hu : P.underlying ty = some d) (hd : (match d with | .struct _ | .array _ _ => true | _ => false) = true) (hi : (P.info? ty).map (·.size) = some cs.size) :
    (results fn tmps).run P w = .ok (.agg cs) w := by
  have hp' : tmps[p]?.getD undef = .pointer (some ⟨g, 0, none⟩) := by simpa using hp
  simp [results, h, hp', asAddr, run_loadVar_row w g T ty cs fr d hg hu hd hi]

theorem twr_size (a : Nat → Nat) : (twr a).toArray.size = 12 := by simp [twr_len]
theorem twr_one (a : Nat → Nat) : (twr a).toArray.all (·.oneCell') = true := by simp [twr, Value.oneCell']
/-- A tower's value set on one level. -/
theorem twr_set {a : Nat → Nat} {l : Nat} (hl : l < 12) (x : Nat) : (twr a).toArray.setIfInBounds l (.int .i64 (x : Int)) = (twr (fun k => if k = l then x else a k)).toArray := by
  apply Array.ext_getElem?
  intro i
  rw [Array.getElem?_setIfInBounds]
  by_cases e : l = i
  · subst e
    rw [if_pos rfl, if_pos (by simp [twr_len]; exact hl), List.getElem?_toArray, twr_at hl, if_pos rfl]
  · rw [if_neg e, List.getElem?_toArray, List.getElem?_toArray]
    by_cases h : i < 12
    · rw [twr_at h, twr_at h, if_neg (fun q => e q.symm)]
    · rw [List.getElem?_eq_none (by rw [twr_len]; omega), List.getElem?_eq_none (by rw [twr_len]; omega)]

section
variable {w : World} {X : Nat → Prop} {base sb H : Nat} {ns : List Nd} {hs : List Int} (h : SL w X base sb ns hs H)
include h

set_option maxHeartbeats 1600000 in
theorem sahead_any (hb : ns.length ≤ 17592186044417) (A : Option Addr) (m c : Nat) (t : List Nat) (ht : Rd .u8 w A m t) (hu : U8 t) :
    Calls Try.prog 78 #[.pointer (some ⟨sb, 0, none⟩), .slice A m c] w fun e w' => (∃ a : Nat → Nat, e = .returned (twv a) ∧ ∀ l, l < 12 → At ns.length (kb ns) (hg ns) l t (a l)) ∧ Ext w w' := by
  obtain ⟨b, cn, Ah, ch, hS⟩ := h.see
  have c2 := hS.c2
  have hH := h.sk.top
  have hp := h.sk.pos
  have Hsk := Lib.hid h.sk
  have HF := Lib.hid (fun W (hW : Ext w W) i l hl hi hv ha => sfollow_any (h.ext hW) hb i l A m c t (ht.ext hW) hu hl hi hv ha)
  have HC := Lib.hid (fun W (hW : Ext w W) => by obtain ⟨b', cn', Ah', ch', hS'⟩ := (h.ext hW).see; exact hS'.c2)
  obtain ⟨n, hn⟩ : ∃ n, n = ns.length := ⟨_, rfl⟩
  rw [← hn] at hp Hsk HF ⊢
  obtain ⟨G, hG⟩ : ∃ G, G = w.heap.size + 1 := ⟨_, rfl⟩
  have hE0 : Ext w ((w.alloc (.cells z12 105)).alloc (.cells z12 105)) := ((Ext.refl w).alloc _).alloc _
  have hg1 : ((w.alloc (.cells z12 105)).alloc (.cells z12 105)).heap[G]? = some (.cells z12 105 (0, 0)) := by
    have := heap_alloc_new (w.alloc (.cells z12 105)) (.cells z12 105)
    rw [hG]
    simpa using this
  have hg0 : ((w.alloc (.cells z12 105)).alloc (.cells z12 105)).heap[w.heap.size]? = some (.cells z12 105 (0, 0)) :=
    (Below.heap_alloc _ _ _ (by simp)).trans (heap_alloc_new w _)
  have hc2 := HC.out _ hE0
  have HG := Lib.hid hG
  clear hS h hn ht c2 hb
  go_enter Try.func78, Try.ntmps78
  go_wp2_with fail
  go_loopw [6, 7] (fun v u wr => ∃ (lv r : Nat) (a : Nat → Nat), u = .int .i64 ((lv : Int) - 1) ∧ v = .int .i64 (r : Int) ∧ lv ≤ H ∧ r < n ∧ Hid (r = 0 ∨ lv < hg ns r) ∧ Hid (r = 0 ∨ ordT (kb ns r) t < 0) ∧ Hid (wr.heap[w.heap.size + 1]? = some (.cells (twr a).toArray 105 (0, 0))) ∧ Hid (wr.heap[w.heap.size]? = some (.cells z12 105 (0, 0))) ∧ Hid (∀ l, lv ≤ l → l < 12 → At n (kb ns) (hg ns) l t (a l)) ∧ Ext w wr) (fun _ u _ => (intOf u + 1).toNat)
  case atStart => exact ⟨H, 0, fun _ => 0, rfl, rfl, Nat.le_refl _, hp, Lib.hid (.inl rfl), Lib.hid (.inl rfl), Lib.hid (by rw [HG.out] at hg1; exact hg1), Lib.hid hg0, Lib.hid (fun l l1 _ => at_none Hsk.out l1), hE0⟩
  case round =>
    clear hg1 hg0 hE0 hc2
    obtain ⟨lv, r, a, rfl, rfl, hlv, hr, Hv, Ha, Hb1, Hb0, HA, hE⟩ := hrel
    by_cases l0 : lv = 0
    · subst l0
      have d : decide ((0 : Int) ≤ ((0 : Nat) : Int) - 1) = false := decide_eq_false (by decide)
      have HE := Lib.hid hE
      clear hE
      go_wp2_with (first
        | (refine wpList_load_row rfl 105 _ rfl (w.heap.size + 1) rfl 105 (twr a).toArray (0, 0) _ Hb1.out Try.underlying105 rfl (by rw [twr_size]; kernel_rfl) ?_)
        | (refine wpList_store_row rfl 105 _ _ rfl w.heap.size (twr a).toArray rfl rfl 105 z12 Hb0.out (by rw [twr_size]; kernel_rfl) (by rw [twr_size]; rfl) (twr_one a) ?_)
        | fail)
      apply bodyPost_ret
      · exact results_t1 rfl _ _ w.heap.size 105 (twr a).toArray (0, 0) _ rfl (setRow_heap wr w.heap.size _ _ 105 (0, 0) Hb0.out) Try.underlying105 rfl (by rw [twr_size]; kernel_rfl)
      · rfl
      exact ⟨⟨a, rfl, fun l hl => HA.out l (Nat.zero_le _) hl⟩, HE.out.setRow (Nat.le_refl _) _⟩
    · obtain ⟨k, rfl⟩ : ∃ k, lv = k + 1 := ⟨lv - 1, by omega⟩
      have e1 : (((k + 1 : Nat) : Int) - 1) = (k : Int) := by omega
      rw [e1]
      have d : decide ((0 : Int) ≤ (k : Int)) = true := decide_eq_true (by omega)
      have CC := Lib.hid (HF.out _ hE r k (by omega) hr (Hv.out.imp id (fun q => by omega)) Ha.out)
      have HE := Lib.hid hE
      clear hE e1
      go_wp2_with fail
      refine CC.out.mono ?_
      rintro e w1 ⟨⟨x, rfl, hx⟩, rfl⟩
      have HX := Lib.hid hx
      clear hx
      have cb : wr.cell? ⟨w.heap.size + 1, k, none⟩ = some (.int .i64 (a k : Int)) := by
        rw [cell_of_row wr (w.heap.size + 1) k _ _ (0, 0) Hb1.out, List.getElem?_toArray]
        exact twr_at (by omega)
      have cf : wr.frozen? ⟨w.heap.size + 1, k, none⟩ = false := by simp [World.frozen?, Hb1.out]
      have hb1' := heap_setCell_same wr (w.heap.size + 1) k _ _ (.int .i64 (x : Int)) Hb1.out
      rw [twr_set (by omega) x] at hb1'
      have Hb1' := Lib.hid hb1'
      have Hb0' := Lib.hid ((Below.heap_setCell wr ⟨w.heap.size + 1, k, none⟩ (.int .i64 (x : Int)) w.heap.size (by simp)).trans Hb0.out)
      have hE' := HE.out.setCell (p := ⟨w.heap.size + 1, k, none⟩) (by simp) (.int .i64 (x : Int))
      clear hb1'
      go_wp2_with fail
      go_roundw
      case rel => exact ⟨k, x, _, rfl, rfl, by omega, HX.out.lt, Lib.hid HX.out.lv, Lib.hid HX.out.ah, Hb1', Hb0', Lib.hid (fun l l1 l2 => by
        show At n (kb ns) (hg ns) l t (if l = k then x else a l)
        by_cases q : l = k
        · rw [if_pos q, q]; exact HX.out
        · rw [if_neg q]; exact HA.out l (by omega) l2), hE'⟩
      case measure => simp [intOf]
end

end Go.Proofs.Ytkmnhapeohlooaa
