/-
  Layer 18: New; what a list tells.
-/
import Derived.Test.YtkmnhapeohlooaaSK7
namespace Go.Proofs.Ytkmnhapeohlooaa
open Go.RowKit
set_option maxRecDepth 100000

theorem Try.infoInt18 : (Try.prog.info? 3).map (fun i => (i.zero, i.size, i.bytes)) = some (some (.int .i64 0), 1, 8) := by kernel_rfl

section
variable {w : World} {X : Nat → Prop} {base sb : Nat} {hs : List Int} {L : List (List Nat)} {V : List Int} (h : LS w X base sb hs L V)
include h
theorem lslen_any (hb : L.length < 1099511627776) : Calls Try.prog 34 #[.pointer (some ⟨sb, 0, none⟩)] w fun e w' => e = .returned (.int .i64 (L.length : Int)) ∧ w = w' := by
  obtain ⟨ns, hS, hR⟩ := h
  have := hR.len
  refine (slen_any hS (by omega)).mono ?_
  rintro e w' ⟨rfl, rfl⟩
  exact ⟨by rw [show ((ns.length : Int) - 1) = (L.length : Int) by omega], rfl⟩
theorem lsheight_any : Calls Try.prog 35 #[.pointer (some ⟨sb, 0, none⟩)] w fun e w' => e = .returned (.int .i64 (Hm hs L.length : Int)) ∧ w = w' := by
  obtain ⟨ns, hS, hR⟩ := h
  exact sheight_any hS
theorem lsget_any (hb : L.length < 1099511627776) (A : Option Addr) (m c : Nat) (t : List Nat) (ht : Rd .u8 w A m t) (hu : U8 t) :
    Calls Try.prog 44 #[.pointer (some ⟨sb, 0, none⟩), .slice A m c] w fun e w' => e = .returned (.tuple #[.int .i64 (if L[skN t L]? = some t then V.getD (skN t L) 0 else 0), .bool (decide (L[skN t L]? = some t))]) ∧ Ext w w' := by
  obtain ⟨ns, hS, hR⟩ := h
  have := hR.len
  refine (sget_any hS (by omega) A m c t ht hu).mono ?_
  rintro e w' ⟨⟨j, hF, rfl⟩, he⟩
  have hp := fst_pos hR hF
  have hi := pos_has hp
  refine ⟨?_, he⟩
  by_cases q : L[skN t L]? = some t
  · have hq := hi.2 q
    rw [if_pos q, decide_eq_true q, if_pos hq, decide_eq_true hq]
    rcases hp with ⟨e0, _⟩ | ⟨_, _, _, h4⟩
    · exact absurd e0 hq.1
    · rw [List.getD, h4]; rfl
  · have hq : ¬ (j ≠ 0 ∧ kb ns j = t) := fun h => q (hi.1 h)
    rw [if_neg q, decide_eq_false q, if_neg hq, decide_eq_false hq]
theorem lsseek_any (hb : L.length < 1099511627776) (A : Option Addr) (m c : Nat) (t : List Nat) (ht : Rd .u8 w A m t) (hu : U8 t) :
    Calls Try.prog 42 #[.pointer (some ⟨sb, 0, none⟩), .slice A m c] w fun e w' => ((skN t L = L.length ∧ e = .returned (.tuple #[.slice none 0 0, .int .i64 0, .bool false])) ∨
      (∃ x A' c', L[skN t L]? = some x ∧ e = .returned (.tuple #[.slice A' x.length c', .int .i64 (V.getD (skN t L) 0), .bool true]) ∧ Own .u8 5 w' w.heap.size A' c' x)) ∧ Ext w w' := by
  obtain ⟨ns, hS, hR⟩ := h
  have := hR.len
  refine (sseek_any hS (by omega) A m c t ht hu).mono ?_
  rintro e w' ⟨⟨j, hF, hr⟩, he⟩
  refine ⟨?_, he⟩
  have hp := fst_pos hR hF
  rcases hr with ⟨j0, rfl⟩ | ⟨j0, A', c', rfl, ho⟩
  · rcases hp with ⟨_, e2⟩ | ⟨e1, _⟩
    · exact .inl ⟨e2, rfl⟩
    · exact absurd j0 e1
  · rcases hp with ⟨e1, _⟩ | ⟨_, _, h3, h4⟩
    · exact absurd e1 j0
    · exact .inr ⟨_, A', c', h3, by rw [List.getD, h4]; rfl, ho⟩
end

def clampH (x : Int) : Int := min (max x 1) 12
def hts (xs : List Int) : List Int := if xs.length = 0 then [1] else xs.map clampH

theorem clamp_ok (x : Int) : 1 ≤ clampH x ∧ clampH x ≤ 12 := by unfold clampH; omega

abbrev z14 : Array Value := #[.slice none 0 0, .int .i64 0, .int .i64 0, .int .i64 0, .int .i64 0, .int .i64 0, .int .i64 0, .int .i64 0, .int .i64 0, .int .i64 0, .int .i64 0, .int .i64 0, .int .i64 0, .int .i64 0]
theorem z14_nd : z14 = (shN.cells nd0).toArray := rfl
theorem run_mkN (w : World) : (Instr.makeSlice 93 (.int .i64 1) (.int .i64 1)).run Try.prog w = .ok (.slice (some ⟨w.heap.size, 0, none⟩) 1 1) (w.alloc (.cells z14 110)) := by
  obtain ⟨i, hi0, hz, hsz, hbs⟩ := info_parts Try.infoNd
  have := run_make (P := Try.prog) w 93 110 i _ Try.underlying93 hi0 hz .i64 .i64 1 1 (by decide) (by decide) (by rw [hbs]; decide) (by decide)
  rw [hsz] at this
  rw [this]
  congr 2
  kernel_rfl

theorem new_end {w W : World} {Ah : Option Addr} {ch : Nat} {hs : List Int} (_he : Ext w W) (hsb : W.heap[w.heap.size + 1]? = some (.cells #[.slice (some ⟨w.heap.size, 0, none⟩) 1 1, .slice Ah hs.length ch, .int .i64 0] 95 (0, 0)))
    (hnd : W.heap[w.heap.size]? = some (.cells z14 110 (0, 0))) (hhs : OwnG shZ 3 W w.heap.size Ah ch hs) (hok : 0 < hs.length ∧ ∀ x ∈ hs, 1 ≤ x ∧ x ≤ 12) :
    LS W (fun q => w.heap.size ≤ q ∧ q < W.heap.size) w.heap.size (w.heap.size + 1) hs [] [] := by
  have h1 := (Array.getElem?_eq_some_iff.1 hsb).1
  have h2 := (Array.getElem?_eq_some_iff.1 hnd).1
  refine ⟨[nd0], ⟨⟨some ⟨w.heap.size, 0, none⟩, 1, Ah, ch, hsb, ?_, hhs, fun a ha => by injection ha with ha; rw [← ha]; exact ⟨Nat.le_refl _, h2⟩, fun a ha => hhs.block a ha⟩, ⟨Nat.le_succ _, h1⟩, fun q hq => hq, fun i i1 i2 => by simp at i2; omega, ?_, hok⟩, rep_new _ _⟩
  · refine ⟨rfl, .inr ⟨w.heap.size, 1, z14, rfl, Nat.le_refl _, hnd, Nat.le_refl _, by decide, rfl, rfl⟩⟩
  · exact sk_new _ _ _ (fun l => rfl)

set_option maxHeartbeats 1600000 in
theorem snew_any (A : Option Addr) (n c : Nat) (xs : List Int) (w : World) (hx : RdG shZ w A n xs) (hn : n ≤ 17592186044416) :
    Calls Try.prog 31 #[.slice A n c] w fun e w' => ∃ sb, e = .returned (.pointer (some ⟨sb, 0, none⟩)) ∧ LS w' (fun q => w.heap.size ≤ q ∧ q < w'.heap.size) w.heap.size sb (hts xs) [] [] ∧ Ext w w' := by
  have hl := hx.len
  have hmk := run_mkN
  have hE0 : Ext w ((w.alloc (.cells z14 110)).alloc (.cells #[.slice (some ⟨w.heap.size, 0, none⟩) 1 1, .slice none 0 0, .int .i64 0] 95)) := ((Ext.refl w).alloc _).alloc _
  have hs0 : ((w.alloc (.cells z14 110)).alloc (.cells #[.slice (some ⟨w.heap.size, 0, none⟩) 1 1, .slice none 0 0, .int .i64 0] 95)).heap[w.heap.size + 1]? = some (.cells #[.slice (some ⟨w.heap.size, 0, none⟩) 1 1, .slice none 0 0, .int .i64 0] 95 (0, 0)) := by
    have := heap_alloc_new (w.alloc (.cells z14 110)) (.cells #[.slice (some ⟨w.heap.size, 0, none⟩) 1 1, .slice none 0 0, .int .i64 0] 95)
    simpa using this
  have hn0 : ((w.alloc (.cells z14 110)).alloc (.cells #[.slice (some ⟨w.heap.size, 0, none⟩) 1 1, .slice none 0 0, .int .i64 0] 95)).heap[w.heap.size]? = some (.cells z14 110 (0, 0)) := (Below.heap_alloc _ _ _ (by simp)).trans (heap_alloc_new w _)
  go_enter Try.func31, Try.ntmps31
  go_wp2_with fail
  clear hmk
  go_loopw [11] (fun i wr => ∃ (j : Nat) (Ah : Option Addr) (ch : Nat), j ≤ n ∧ i = .int .i64 (j : Int) ∧ Hid (wr.heap[w.heap.size + 1]? = some (.cells #[.slice (some ⟨w.heap.size, 0, none⟩) 1 1, .slice Ah j ch, .int .i64 0] 95 (0, 0))) ∧ Hid (wr.heap[w.heap.size]? = some (.cells z14 110 (0, 0))) ∧ Hid (OwnG shZ 3 wr w.heap.size Ah ch ((xs.take j).map clampH)) ∧ Ext w wr) (fun i _ => n - (intOf i).toNat)
  case atStart => exact ⟨0, none, 0, Nat.zero_le _, rfl, Lib.hid hs0, Lib.hid hn0, Lib.hid (OwnG.nil _ _ _ _), hE0⟩
  case round =>
    clear hs0 hn0 hE0
    obtain ⟨j, Ah, ch, hj, rfl, Hs, Hn, Ho, hE⟩ := hrel
    have HE := Lib.hid hE
    have hsl := (Array.getElem?_eq_some_iff.1 Hs.out).1
    by_cases hlt : j < n
    · obtain ⟨b, o, rfl, hbl, hc⟩ := (hx.ext hE).atZ hlt
      obtain ⟨x, hxx⟩ : ∃ x, x = xs.getD j 0 := ⟨_, rfl⟩
      rw [← hxx] at hc
      have htk := take_nextG xs j (x := x) (by rw [hxx, List.getD, List.getElem?_eq_getElem (by omega)]; rfl)
      have Htk := Lib.hid htk
      have Hlen : Hid (((xs.take j).map clampH).length = j) := Lib.hid (by rw [List.length_map, List.length_take]; omega)
      have c1 : wr.cell? ⟨w.heap.size + 1, 1, none⟩ = some (.slice Ah j ch) := by rw [cell_of_row wr (w.heap.size + 1) 1 _ _ (0, 0) Hs.out]; rfl
      have HwB : Hid (∀ w7 : World, wr.grownBy w7 (Value.slice Ah j ch).ownBlock → (w7.heap[w.heap.size + 1]? = some (.cells #[.slice (some ⟨w.heap.size, 0, none⟩) 1 1, .slice Ah j ch, .int .i64 0] 95 (0, 0))) ∧ w7.heap[w.heap.size]? = some (.cells z14 110 (0, 0))) := Lib.hid fun w7 hg7 => by
        have n1 : some (w.heap.size + 1) ≠ (Value.slice Ah j ch).ownBlock := fun e => by
          cases Ah with
          | none => simp [Value.ownBlock] at e
          | some p => exact own_ty Ho.out Hs.out (by decide) p rfl (by simp only [Value.ownBlock] at e; injection e with e; exact e.symm)
        have n2 : some w.heap.size ≠ (Value.slice Ah j ch).ownBlock := fun e => by
          cases Ah with
          | none => simp [Value.ownBlock] at e
          | some p => exact own_ty Ho.out Hn.out (by decide) p rfl (by simp only [Value.ownBlock] at e; injection e with e; exact e.symm)
        exact ⟨(hg7.block _ hsl n1).trans Hs.out, (hg7.block _ (by omega) n2).trans Hn.out⟩
      have Hal : Hid (∀ w7 : World, (wr.alloc (.cells #[.int .i64 (clampH x)] 3)).grownBy w7 (Value.slice Ah j ch).ownBlock → wr.grownBy w7 (Value.slice Ah j ch).ownBlock) := Lib.hid fun w7 hg7 => (World.grownBy_alloc wr _ _).trans hg7
      have hxc : min (max x 1) 12 = clampH x := rfl
      have Hlo := Lib.hid hl
      have Hxx := Lib.hid hxx
      have Hbound : Hid (((j + 1) + (j + 1) / 4 + 192) * 8 ≤ 281474976710656) := Lib.hid (by omega)
      have Hsz := Lib.hid hE.size
      clear htk hl hsl hE hxx hbl
      go_wp2_with (at_builtin; (try rw [hxc]); refine wpList_pushG (w0 := _) (base := w.heap.size) shZ (clampH x) 3 rfl _ _ 45 rfl _ 8 Try.underlying45 Try.infoInt18 rfl (by decide) (Ho.out.ext ((Ext.refl _).alloc _)) j Hlen.out rfl rfl (heap_alloc_new _ _) Hbound.out (by omega) (Below.alloc HE.out Hsz.out _) (by simp; have := Hsz.out; omega) ?_; intro A7 c7 w7 hown7 hg7 hb7 hz7; obtain ⟨s7, n7⟩ := HwB.out w7 (Hal.out w7 hg7); have c17 : w7.cell? ⟨w.heap.size + 1, 1, none⟩ = some (.slice Ah j ch) := (by rw [cell_of_row w7 (w.heap.size + 1) 1 _ _ (0, 0) s7]; rfl); have f17 : w7.frozen? ⟨w.heap.size + 1, 1, none⟩ = false := (by simp [World.frozen?, s7]))
      have s8 := heap_setCell_same w7 (w.heap.size + 1) 1 _ _ (.slice A7 (j + 1) c7) s7
      have n8 := (Below.heap_setCell w7 ⟨w.heap.size + 1, 1, none⟩ (.slice A7 (j + 1) c7) w.heap.size (by simp)).trans n7
      have o8 := hown7.grown (grown_setCellS w7 (w.heap.size + 1) 1 (.slice A7 (j + 1) c7)) (fun p hp e => own_ty hown7 s7 (by decide) p hp (by injection e))
      have e8 : Ext w (w7.setCell ⟨w.heap.size + 1, 1, none⟩ (.slice A7 (j + 1) c7)) := Ext.setCell hb7 (by simp) _
      go_roundw
      case rel => exact ⟨j + 1, A7, c7, by omega, by go_num, Lib.hid s8, Lib.hid n8, Lib.hid (by rw [Htk.out, List.map_append]; exact o8), e8⟩
      case measure => simp [intOf]; omega
    · obtain rfl : j = n := by omega
      have htl : xs.take j = xs := List.take_of_length_le (by omega)
      rw [htl] at Ho
      have c1 : wr.cell? ⟨w.heap.size + 1, 1, none⟩ = some (.slice Ah j ch) := by rw [cell_of_row wr (w.heap.size + 1) 1 _ _ (0, 0) Hs.out]; rfl
      by_cases n0 : j = 0
      · have hx0 : xs = [] := List.eq_nil_of_length_eq_zero (by omega)
        subst hx0 n0
        have HA1 : Hid (Ext w ((wr.setCell ⟨w.heap.size + 1, 1, none⟩ (.slice (some ⟨wr.heap.size, 0, none⟩) 1 1)).alloc (.cells #[.int .i64 1] 3))) := Lib.hid ((hE.setCell (by simp) _).alloc _)
        have hsz8 : (wr.setCell ⟨w.heap.size + 1, 1, none⟩ (.slice (some ⟨wr.heap.size, 0, none⟩) 1 1)).heap.size = wr.heap.size := by simp [World.setCell]
        have s8 := (Below.heap_alloc (wr.setCell ⟨w.heap.size + 1, 1, none⟩ (.slice (some ⟨wr.heap.size, 0, none⟩) 1 1)) (.cells #[.int .i64 1] 3) (w.heap.size + 1) (by omega)).trans (heap_setCell_same wr (w.heap.size + 1) 1 _ _ (.slice (some ⟨wr.heap.size, 0, none⟩) 1 1) Hs.out)
        have n8 := ((Below.heap_alloc (wr.setCell ⟨w.heap.size + 1, 1, none⟩ (.slice (some ⟨wr.heap.size, 0, none⟩) 1 1)) (.cells #[.int .i64 1] 3) w.heap.size (by omega)).trans (Below.heap_setCell wr _ _ w.heap.size (by simp))).trans Hn.out
        have hnw := heap_alloc_new (wr.setCell ⟨w.heap.size + 1, 1, none⟩ (.slice (some ⟨wr.heap.size, 0, none⟩) 1 1)) (.cells #[.int .i64 1] 3)
        rw [hsz8] at hnw
        have o8 : OwnG shZ 3 ((wr.setCell ⟨w.heap.size + 1, 1, none⟩ (.slice (some ⟨wr.heap.size, 0, none⟩) 1 1)).alloc (.cells #[.int .i64 1] 3)) w.heap.size (some ⟨wr.heap.size, 0, none⟩) 1 [1] := ⟨rfl, .inr ⟨wr.heap.size, 1, #[.int .i64 1], rfl, hE.size, hnw, Nat.le_refl _, by decide, rfl, rfl⟩⟩
        have f1 : wr.frozen? ⟨w.heap.size + 1, 1, none⟩ = false := by simp [World.frozen?, Hs.out]
        have HF := Lib.hid (new_end (hs := [1]) HA1.out s8 n8 o8 ⟨by decide, by intro x hx; simp at hx; omega⟩)
        clear s8 n8 o8 hE hx hl htl hsz8 hnw
        go_wp2_with fail
        go_ret
        exact ⟨_, rfl, HF.out, HA1.out⟩
      · have hm : hts xs = xs.map clampH := by unfold hts; rw [if_neg (by omega)]
        have hle : (xs.map clampH).length = j := by rw [List.length_map]; exact hl
        have b0 : ((j : Int) == 0) = false := by simp; omega
        have HF := Lib.hid (new_end (hs := xs.map clampH) hE (by rw [hle]; exact Hs.out) Hn.out Ho.out ⟨by omega, fun y hy => by obtain ⟨x, _, rfl⟩ := List.mem_map.1 hy; exact clamp_ok x⟩)
        have Hm := Lib.hid hm
        clear hE hx hl htl hm hle
        go_wp2_with fail
        go_ret
        rw [Hm.out]
        exact ⟨_, rfl, HF.out, HE.out⟩

end Go.Proofs.Ytkmnhapeohlooaa
