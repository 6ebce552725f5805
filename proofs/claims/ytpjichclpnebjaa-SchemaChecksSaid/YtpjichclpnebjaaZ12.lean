import Derived.Test.YtpjichclpnebjaaZ8
import Derived.Test.YtpjichclpnebjaaZ9
import Derived.Test.YtpjichclpnebjaaZ11
import Derived.Test.YtpjichclpnebjaaZ10
import Derived.Test.YtpjichclpnebjaaZ2
import Derived.Test.YtpjichclpnebjaaZ5

-- part H35
/-
  Layer 6: the document's examples.
-/
namespace Go.Proofs.Ytpjichclpnebjaa
open Go.RowKit

theorem RdC.nil0 (w : World) : RdC w none 0 [] := ⟨rfl, fun h => absurd h (by decide)⟩
theorem RdT.nil0 (w : World) : RdT w none 0 [] := ⟨rfl, fun h => absurd h (by decide)⟩
theorem nm0 : ∀ d ∈ ([] : List Col), d.name.size ≤ 140737488355328 := fun d hd => (by cases hd)
theorem RdI.lit2 (w : World) (x y : Int) : RdI (w.alloc (.cells #[.int .i64 x, .int .i64 y] 3)) (some ⟨w.heap.size, 0, none⟩) 2 [x, y] :=
  ⟨rfl, fun _ => ⟨w.heap.size, 0, rfl, by simp, fun j v hj => by
    match j, hj with
    | 0, hj => simp at hj; subst hj; exact cell_of_row _ _ 0 _ _ (0, 0) (heap_alloc_new w _)
    | 1, hj => simp at hj; subst hj; exact cell_of_row _ _ 1 _ _ (0, 0) (heap_alloc_new w _)
    | j + 2, hj => simp at hj⟩⟩
theorem RdT.lit1 (w : World) {n : Nat} (t : Si) (hn : t.cell.txt.length = n) (hin : t.cell.In (w.alloc (.cells #[.int .i64 t.col, .bool t.cell.nul, .int .i64 t.cell.num, .slice t.cell.A n t.cell.c] 84))) :
    RdT (w.alloc (.cells #[.int .i64 t.col, .bool t.cell.nul, .int .i64 t.cell.num, .slice t.cell.A n t.cell.c] 84)) (some ⟨w.heap.size, 0, none⟩) 1 [t] := by
  subst hn
  refine ⟨rfl, fun _ => ⟨w.heap.size, 0, rfl, by simp, fun j v hj => ?_⟩⟩
  match j, hj with
  | 0, hj =>
    simp at hj
    subst hj
    exact ⟨cell_of_row _ _ 0 _ _ (0, 0) (heap_alloc_new w _), cell_of_row _ _ 1 _ _ (0, 0) (heap_alloc_new w _), cell_of_row _ _ 2 _ _ (0, 0) (heap_alloc_new w _), cell_of_row _ _ 3 _ _ (0, 0) (heap_alloc_new w _), hin⟩
  | j + 1, hj => simp at hj
theorem In_nil (w : World) (nul : Bool) (num : Int) (h0 : -9223372036854775808 ≤ num) (h1 : num ≤ 9223372036854775807) : Ci.In w ⟨nul, num, none, 0, []⟩ :=
  ⟨Rd.nil .., fun v hv => (by cases hv), h0, h1, (by show 0 * 1 ≤ 140737488351232; decide)⟩

/-- The second of two cells of an owned row. -/
theorem OwnX.second {w : World} {base c : Nat} {A : Option Addr} {fs : List Ci} {u v : CV} (h : OwnX w base A c fs) (hv : fs.map Ci.val = [u, v]) :
    ∃ g, A = some ⟨g, 0, none⟩ ∧ g < w.heap.size ∧ 2 ≤ c ∧ w.cell? ⟨g, 3, none⟩ = some (.bool v.1) ∧ w.cell? ⟨g, 4, none⟩ = some (.int .i64 v.2.1) := by
  have hl : fs.length = 2 := by have := congrArg List.length hv; simpa using this
  obtain ⟨g, hA, _, hg, hc, _⟩ := h.store (show 1 < fs.length by omega)
  subst hA
  obtain ⟨a, b, _⟩ := h.cells3 (show 1 < fs.length by omega)
  have e : fs[1].val = v := by
    have h1 : (fs.map Ci.val)[1]? = some v := by rw [hv]; rfl
    rw [List.getElem?_map, List.getElem?_eq_getElem (show 1 < fs.length by omega)] at h1
    simpa using h1
  refine ⟨g, rfl, hg, by omega, ?_, ?_⟩
  · rw [← e]; exact a
  · rw [← e]; exact b

set_option maxHeartbeats 12800000 in
set_option maxRecDepth 100000 in
/-- The document's examples hold. -/
theorem alive6 (w : World) : Calls Try.prog 9 #[] w fun e w' => e = .returned (.bool true) ∧ Ext w w' := by
  have kc := conv_const
  -- the row of the examples, in a block of its own
  obtain ⟨W2, hW2⟩ : ∃ W2, W2 = (w.alloc (.cells #[.int .u8 120] 5 (1, 2))).alloc (.cells #[.bool false, .int .i64 7, .slice none 0 0, .bool false, .int .i64 0, .slice (some ⟨w.heap.size, 0, none⟩) 1 1] 82) := ⟨_, rfl⟩
  have hE2 : Ext w W2 := by rw [hW2]; exact ((Ext.refl w).alloc _).alloc _
  obtain ⟨x0, hx0⟩ : ∃ x0 : Ci, x0 = ⟨false, 7, none, 0, []⟩ := ⟨_, rfl⟩
  obtain ⟨x1, hx1⟩ : ∃ x1 : Ci, x1 = ⟨false, 0, some ⟨w.heap.size, 0, none⟩, 1, [120]⟩ := ⟨_, rfl⟩
  have hg2 : W2.heap[w.heap.size + 1]? = some (.cells #[.bool false, .int .i64 7, .slice none 0 0, .bool false, .int .i64 0, .slice (some ⟨w.heap.size, 0, none⟩) 1 1] 82) := by rw [hW2]; exact heap_alloc_new2 _ _ _
  have hr1 : Rd .u8 W2 (some ⟨w.heap.size, 0, none⟩) 1 [120] := by rw [hW2]; exact (Rd.mark_at .u8 5 (1, 2) w [120] rfl rfl).ext ((Ext.refl _).alloc _)
  have hRow : RdX W2 (some ⟨w.heap.size + 1, 0, none⟩) 2 [x0, x1] := by
    refine ⟨rfl, fun _ => ⟨w.heap.size + 1, 0, rfl, (Array.getElem?_eq_some_iff.1 hg2).1, fun j x hj => ?_⟩⟩
    match j, hj with
    | 0, hj =>
      simp at hj
      subst hj
      subst hx0
      exact ⟨cell_of_row _ _ 0 _ _ (0, 0) hg2, cell_of_row _ _ 1 _ _ (0, 0) hg2, cell_of_row _ _ 2 _ _ (0, 0) hg2, ⟨Rd.nil .., (by decide), (by decide), (by decide), (by decide)⟩⟩
    | 1, hj =>
      simp at hj
      subst hj
      subst hx1
      exact ⟨cell_of_row _ _ 3 _ _ (0, 0) hg2, cell_of_row _ _ 4 _ _ (0, 0) hg2, cell_of_row _ _ 5 _ _ (0, 0) hg2, ⟨hr1, (show U8 [120] by decide), (show (-9223372036854775808 : Int) ≤ 0 by decide), (show (0 : Int) ≤ 9223372036854775807 by decide), (show 1 * 1 ≤ 140737488351232 by decide)⟩⟩
    | j + 2, hj => simp at hj
  have hv : [x0, x1].map Ci.val = [(false, 7, []), (false, 0, [120])] := by rw [hx0, hx1]; rfl
  have hRow1 : RdX W2 (some ⟨w.heap.size + 1, 0, none⟩) 1 [x0] := ⟨rfl, fun _ => by
    obtain ⟨b, o, e, hb, hc⟩ := hRow.2 (by decide)
    exact ⟨b, o, e, hb, fun j x hj => hc j x (by match j, hj with | 0, hj => exact hj | j + 1, hj => simp at hj)⟩⟩
  have hv1 : [x0].map Ci.val = [(false, 7, [])] := by rw [hx0]; rfl
  have Z1 := Lib.hid (show rowS 1 cs2 [x0, x1] = 0 by rw [rowS_V hv]; decide)
  have Z2 := Lib.hid (show prowL 1 cs2 [x0, x1] = [1, 14, 1, 1, 120] by unfold prowL; rw [rowS_V hv, hv]; decide)
  have Z3 := Lib.hid (show growS 1 cs2 [1, 14, 1, 1, 120] 0 = ([(false, 7, []), (false, 0, [120])], 5, 0) by decide)
  have Z4 := Lib.hid (show projE 1 cs2 [x0, x1] [1, 0] = 0 by unfold projE; rw [rowS_V hv, show ([x0, x1] : List Ci).length = 2 from rfl]; decide)
  have Z5 := Lib.hid (show projV 1 cs2 [x0, x1] [1, 0] = [(false, 0, [120]), (false, 7, [])] by unfold projV projE; rw [rowS_V hv, hv, show ([x0, x1] : List Ci).length = 2 from rfl]; decide)
  have Z6 := Lib.hid (show ∀ t : Si, t.val = (1, true, 0, []) → applyE 1 cs2 [x0, x1] [t] = 0 ∧ applyV 1 cs2 [x0, x1] [t] = [(false, 7, []), (true, 0, [])] by
    intro t ht
    have ht' : [t].map Si.val = [(1, true, 0, [])] := by rw [List.map_cons, ht]; rfl
    unfold applyV applyE
    rw [rowS_V hv, setsS_V ht', hv, ht']
    decide)
  have Z7 := Lib.hid (show rowS 1 cs2 [x0] = 61 by rw [rowS_V hv1]; decide)
  have Z8 := Lib.hid (show keyS 1 cs2 [x0] = 0 by
    unfold keyS rowE
    rw [rowF_val, hv1, show ([x0] : List Ci).length = 1 from rfl]
    decide)
  have Z9 := Lib.hid (show schE 0 [] = 60 by decide)
  have Z10 := Lib.hid (show ∀ t : Si, t.val = (0, false, 0, []) → setsS 1 cs2 [t] = 61 by
    intro t ht
    have ht' : [t].map Si.val = [(0, false, 0, [])] := by rw [List.map_cons, ht]; rfl
    rw [setsS_V ht']
    decide)
  have Z11 := Lib.hid (show opS 1 cs2 1 [x0, x1] [] = 0 by
    have e1 : opV 1 cs2 1 [x0, x1] = 0 := by
      unfold opV rowE
      rw [if_pos rfl, rowF_val, hv, show ([x0, x1] : List Ci).length = 2 from rfl]
      decide
    unfold opS
    rw [e1]
    decide)
  have Z12 := Lib.hid (show ∀ t : Si, t.val = (1, false, 0, [120]) → setsS 1 cs2 [t] = 0 ∧ psetsL 1 cs2 [t] = [1, 1, 1, 1, 120] by
    intro t ht
    have ht' : [t].map Si.val = [(1, false, 0, [120])] := by rw [List.map_cons, ht]; rfl
    unfold psetsL
    rw [setsS_V ht', ht']
    decide)
  have Z13 := Lib.hid (show gsetsS 1 cs2 [1, 1, 1, 1, 120] 0 = ([(1, false, 0, [120])], 5, 0) by decide)
  clear hv hv1 hx0 hx1 hr1 hg2
  have T1 : Si.val ⟨1, ⟨true, 0, none, 0, []⟩⟩ = (1, true, 0, []) := rfl
  have T3 : Si.val ⟨0, ⟨false, 0, none, 0, []⟩⟩ = (0, false, 0, []) := rfl
  obtain ⟨Z6a, Z6b⟩ := Z6.out _ T1
  have Z6a := Lib.hid Z6a
  have Z6b := Lib.hid Z6b
  have Z10a := Lib.hid (Z10.out _ T3)
  clear T1 T3
  go_enter Try.func9, Try.ntmps9
  go_wp2_with fail
  rw [← hW2]
  clear hW2
  refine (two6_any _).mono ?_
  rintro e w1 ⟨Q1, rfl, hs1, he1⟩
  go_wp2_with fail
  refine (sputRow_any Q1 2 2 1 cs2 _ 2 2 [x0, x1] _ hs1 (hRow.ext he1) (by decide)).mono ?_
  rintro e w2 ⟨B1, d1, rfl, hb1, he2⟩
  rw [Z2.out] at hb1 ⊢
  rw [Z1.out, show ([1, 14, 1, 1, 120] : List Nat).length = 5 from rfl]
  have hE02 := he1.trans he2
  have hB1 := hb1.rd' (n := 5) rfl
  clear he1 he2 hs1 hb1
  go_wp2_with fail
  refine (two6_any _).mono ?_
  rintro e w3 ⟨Q2, rfl, hs2, he3⟩
  go_wp2_with fail
  have hX3 : Ext w3 (w3.alloc (.cells #[.int .u8 1, .int .u8 14, .int .u8 1, .int .u8 1, .int .u8 120] 5)) := (Ext.refl w3).alloc _
  refine (sgetRow_any Q2 2 2 1 cs2 _ 5 5 0 [1, 14, 1, 1, 120] _ (hs2.ext hX3) (Rd.lit_at .u8 5 w3 [1, 14, 1, 1, 120] (b := w3.heap.size) (n := 5) rfl rfl) (by decide) (by decide) (by decide) (by decide)).mono ?_
  rintro e w4 ⟨fs4, A4, c4, rfl, _, _, _, he4⟩
  rw [Z3.out]
  simp only
  rw [show ([(false, 7, []), (false, 0, [120])] : List CV).length = 2 from rfl]
  have hE04 := ((hE02.trans he3).trans hX3).trans he4
  have hB4 := ((hB1.ext he3).ext hX3).ext he4
  clear he3 he4 hX3 hs2 hE02 hB1
  go_wp2_with fail
  refine (two6_any _).mono ?_
  rintro e w5 ⟨Q3, rfl, hs3, he5⟩
  go_wp2_with fail
  have hX5 : Ext w5 (w5.alloc (.cells #[.int .i64 1, .int .i64 0] 3)) := (Ext.refl w5).alloc _
  refine (sproject_any Q3 2 2 1 cs2 _ 2 2 [x0, x1] _ 2 2 [1, 0] _ (hs3.ext hX5) (((hRow.ext hE04).ext he5).ext hX5) (RdI.lit2 w5 1 0) (by decide) (by decide)).mono ?_
  rintro e w6 ⟨fs6, A6', c6, rfl, hv6, hown6, _, he6⟩
  rw [Z5.out] at hv6 ⊢
  rw [Z4.out, show ([(false, 0, [120]), (false, 7, [])] : List CV).length = 2 from rfl]
  obtain ⟨g6, rfl, hg6, hc6, kp3, kp4⟩ := hown6.second hv6
  have hE06 := ((hE04.trans he5).trans hX5).trans he6
  have hB6 := ((hB4.ext he5).ext hX5).ext he6
  clear he5 he6 hX5 hs3 hE04 hB4 hown6 hv6
  go_wp2_with fail
  refine (two6_any _).mono ?_
  rintro e w7 ⟨Q4, rfl, hs4, he7⟩
  go_wp2_with fail
  have hX7 : Ext w7 (w7.alloc (.cells #[.int .i64 1, .bool true, .int .i64 0, .slice none 0 0] 84)) := (Ext.refl w7).alloc _
  refine (sapply_any Q4 2 2 1 cs2 _ 2 2 [x0, x1] _ 1 1 [⟨1, ⟨true, 0, none, 0, []⟩⟩] _ (hs4.ext hX7) (((hRow.ext hE06).ext he7).ext hX7) (RdT.lit1 w7 ⟨1, ⟨true, 0, none, 0, []⟩⟩ rfl (In_nil _ _ _ (by decide) (by decide))) (by decide) (by decide)).mono ?_
  rintro e w8 ⟨fs8, A8', c8, rfl, hv8, hown8, _, he8⟩
  rw [Z6b.out] at hv8 ⊢
  rw [Z6a.out, show ([(false, 7, []), (true, 0, [])] : List CV).length = 2 from rfl]
  obtain ⟨g8, rfl, hg8, hc8, kq3, kq4⟩ := hown8.second hv8
  have hE78 := (he7.trans hX7).trans he8
  have kp4' := (hE78.cells g6 4 hg6).trans kp4
  have hE08 := hE06.trans hE78
  have hB8 := hB6.ext hE78
  simp only at kp4' kq3
  have HB8 := Lib.hid hB8
  have HE08 := Lib.hid hE08
  have HRow8 := Lib.hid (hRow.ext hE08)
  have HRow18 := Lib.hid (hRow1.ext hE08)
  clear he7 he8 hX7 hs4 hE06 hB6 hown8 hv8 hE78 kp3 kp4 kq4 hE08 hB8 hRow hRow1
  go_wp2_with fail
  go_region_held3 (fun w' => Ext w8 w')
    (first | exact Ext.refl _ | (focus ((repeat (first | exact Ext.refl _ | assumption | (with_reducible refine Ext.trans ?_ het) | (with_reducible refine Ext.trans ?_ her) | apply Ext.drew | apply Ext.alloc | fail)); done)) | fail)
    (first
      | (go_at_call 51; (with_reducible refine (two6_any _).mono ?_); rintro e wt ⟨Qt, rfl, hst, het⟩)
      | (go_at_call 16; (with_reducible refine (srow_any _ 2 2 1 cs2 _ 1 2 [x0] _ (hst.ext ?_) (HRow18.out.ext ?_) (by decide)).mono ?_); (focus ((repeat (first | exact Ext.refl _ | assumption | (with_reducible refine Ext.trans ?_ het) | (with_reducible refine Ext.trans ?_ her) | apply Ext.drew | apply Ext.alloc | fail)); done)); (focus ((repeat (first | exact Ext.refl _ | assumption | (with_reducible refine Ext.trans ?_ het) | (with_reducible refine Ext.trans ?_ her) | apply Ext.drew | apply Ext.alloc | fail)); done)); rintro e wr ⟨rfl, her⟩; rw [Z7.out])
      | (go_at_call 18; (with_reducible refine (skey_any _ 2 2 1 cs2 _ 1 2 [x0] _ (hst.ext ?_) (HRow18.out.ext ?_) (by decide)).mono ?_); (focus ((repeat (first | exact Ext.refl _ | assumption | (with_reducible refine Ext.trans ?_ het) | (with_reducible refine Ext.trans ?_ her) | apply Ext.drew | apply Ext.alloc | fail)); done)); (focus ((repeat (first | exact Ext.refl _ | assumption | (with_reducible refine Ext.trans ?_ het) | (with_reducible refine Ext.trans ?_ her) | apply Ext.drew | apply Ext.alloc | fail)); done)); rintro e wr ⟨rfl, her⟩; rw [Z8.out])
      | (go_at_call 12; (with_reducible refine (scheck_any none 0 0 0 [] _ (RdC.nil0 _) nm0 (by decide)).mono ?_); rintro e wr ⟨rfl, her⟩; rw [Z9.out])
      | (go_at_call 20; (with_reducible refine (ssets_any _ 2 2 1 cs2 _ 1 1 [⟨0, ⟨false, 0, none, 0, []⟩⟩] _ (hst.ext ?_) ((RdT.lit1 _ ⟨0, ⟨false, 0, none, 0, []⟩⟩ rfl (In_nil _ _ _ (by decide) (by decide))).ext ?_) (by decide)).mono ?_); (focus ((repeat (first | exact Ext.refl _ | assumption | (with_reducible refine Ext.trans ?_ het) | (with_reducible refine Ext.trans ?_ her) | apply Ext.drew | apply Ext.alloc | fail)); done)); (focus ((repeat (first | exact Ext.refl _ | assumption | (with_reducible refine Ext.trans ?_ het) | (with_reducible refine Ext.trans ?_ her) | apply Ext.drew | apply Ext.alloc | fail)); done)); rintro e wr ⟨rfl, her⟩; rw [Z10a.out])
      | (go_at_call 14; (with_reducible refine (sop_any _ 2 2 1 cs2 1 _ 2 2 [x0, x1] none 0 0 [] _ (hst.ext ?_) (HRow8.out.ext ?_) (RdT.nil0 _) (by decide) (by decide)).mono ?_); (focus ((repeat (first | exact Ext.refl _ | assumption | (with_reducible refine Ext.trans ?_ het) | (with_reducible refine Ext.trans ?_ her) | apply Ext.drew | apply Ext.alloc | fail)); done)); (focus ((repeat (first | exact Ext.refl _ | assumption | (with_reducible refine Ext.trans ?_ het) | (with_reducible refine Ext.trans ?_ her) | apply Ext.drew | apply Ext.alloc | fail)); done)); rintro e wr ⟨rfl, her⟩; rw [Z11.out])
      | fail)
  all_goals
    have hE9 : Ext w8 wr := by assumption
    have hB9 := HB8.out.ext hE9
    have hEE := HE08.out.trans hE9
    clear HRow8 HRow18 hE9 hst het her
    go_wp2_with fail
    refine (two6_any _).mono ?_
    rintro e v1 ⟨P1, rfl, ht1, hf1⟩
    have hF1 : Ext v1 (v1.alloc (.cells #[.int .u8 120] 5 (1, 2))) := (Ext.refl v1).alloc _
    have hin1 : Rd .u8 (v1.alloc (.cells #[.int .u8 120] 5 (1, 2))) (some ⟨v1.heap.size, 0, none⟩) 1 [120] := Rd.mark_at .u8 5 (1, 2) v1 [120] rfl rfl
    have hF2 : Ext (v1.alloc (.cells #[.int .u8 120] 5 (1, 2))) ((v1.alloc (.cells #[.int .u8 120] 5 (1, 2))).alloc (.cells #[.int .i64 1, .bool false, .int .i64 0, .slice (some ⟨v1.heap.size, 0, none⟩) 1 1] 84)) := (Ext.refl _).alloc _
    have hset := RdT.lit1 (v1.alloc (.cells #[.int .u8 120] 5 (1, 2))) (n := 1) ⟨1, ⟨false, 0, some ⟨v1.heap.size, 0, none⟩, 1, [120]⟩⟩ rfl ⟨hin1.ext hF2, (show U8 [120] by decide), (show (-9223372036854775808 : Int) ≤ 0 by decide), (show (0 : Int) ≤ 9223372036854775807 by decide), (show 1 * 1 ≤ 140737488351232 by decide)⟩
    obtain ⟨Z12a, Z12b⟩ := Z12.out ⟨1, ⟨false, 0, some ⟨v1.heap.size, 0, none⟩, 1, [120]⟩⟩ rfl
    have Z12a := Lib.hid Z12a
    have Z12b := Lib.hid Z12b
    have hset' := hset
    rw [show (v1.alloc (.cells #[.int .u8 120] 5 (1, 2))).heap.size = v1.heap.size + 1 by simp] at hset'
    have Hset := Lib.hid hset'
    have ht1' := (ht1.ext hF1).ext hF2
    have hF12 := (hf1.trans hF1).trans hF2
    clear hset hset' hin1 hF1 hF2 hf1 ht1
    go_wp2_with fail
    refine (sputSets_any P1 2 2 1 cs2 _ 1 1 _ _ ht1' Hset.out (by decide)).mono ?_
    rintro e v2 ⟨B2, d2, rfl, hb2, hf2⟩
    rw [Z12b.out] at hb2 ⊢
    rw [Z12a.out, show ([1, 1, 1, 1, 120] : List Nat).length = 5 from rfl]
    have hB2 := hb2.rd' (n := 5) rfl
    have hV2 := hF12.trans hf2
    clear hb2 hf2 hF12 Hset ht1'
    go_wp2_with fail
    refine (two6_any _).mono ?_
    rintro e v3 ⟨P2, rfl, ht2, hf3⟩
    have hX3 : Ext v3 (v3.alloc (.cells #[.int .u8 1, .int .u8 1, .int .u8 1, .int .u8 1, .int .u8 120] 5)) := (Ext.refl v3).alloc _
    go_wp2_with fail
    refine (sgetSets_any P2 2 2 1 cs2 _ 5 5 0 [1, 1, 1, 1, 120] _ (ht2.ext hX3) (Rd.lit_at .u8 5 v3 [1, 1, 1, 1, 120] (b := v3.heap.size) (n := 5) rfl rfl) (by decide) (by decide) (by decide) (by decide)).mono ?_
    rintro e v4 ⟨gs4, G4, h4, rfl, _, _, _, hf4⟩
    rw [Z13.out]
    simp only
    rw [show ([(1, false, 0, [120])] : List (Int × CV)).length = 1 from rfl]
    have hV24 := (hf3.trans hX3).trans hf4
    have hB24 := hB2.ext hV24
    have hB94 := hB9.ext (hV2.trans hV24)
    have hEZ := hEE.trans (hV2.trans hV24)
    clear hB2 hB9 hV2 hV24 hf3 hX3 hf4 hEE ht2
    go_wp2_with fail
    have hXa : Ext v4 (v4.alloc (.cells #[.int .u8 1, .int .u8 14, .int .u8 1, .int .u8 1, .int .u8 120] 5)) := (Ext.refl v4).alloc _
    refine (same_yes (hB94.ext hXa) (Rd.lit_at .u8 5 v4 [1, 14, 1, 1, 120] (b := v4.heap.size) (n := 5) rfl rfl) (by decide)).mono ?_
    rintro e v5 ⟨rfl, q5, rfl⟩
    go_wp2_with fail
    have hXb : Ext ((v4.alloc (.cells #[.int .u8 1, .int .u8 14, .int .u8 1, .int .u8 1, .int .u8 120] 5)).drewN q5) (((v4.alloc (.cells #[.int .u8 1, .int .u8 14, .int .u8 1, .int .u8 1, .int .u8 120] 5)).drewN q5).alloc (.cells #[.int .u8 1, .int .u8 1, .int .u8 1, .int .u8 1, .int .u8 120] 5)) := (Ext.refl _).alloc _
    refine (same_yes (((hB24.ext hXa).drewN q5).ext hXb) (Rd.lit_at .u8 5 _ [1, 1, 1, 1, 120] (n := 5) (by simp) rfl) (by decide)).mono ?_
    rintro e v6 ⟨rfl, q6, rfl⟩
    go_wp2
    go_ret
    exact ⟨rfl, hE2.trans ((((hEZ.trans hXa).drewN q5).trans hXb).drewN q6)⟩

end Go.Proofs.Ytpjichclpnebjaa

-- part H36
/-
  Layer 6: what the laws share.
-/
namespace Go.Proofs.Ytpjichclpnebjaa
open Go.RowKit

theorem vals_full {w : World} {A : Option Addr} {n : Nat} {xs : List Ci} (h : RdX w A n xs) : ∀ v ∈ xs.map Ci.val, CVok v ∧ v.2.2.length * 1 ≤ 140737488351232 := by
  intro v hv
  obtain ⟨x, hx, rfl⟩ := List.mem_map.1 hv
  obtain ⟨j, hj⟩ := List.getElem?_of_mem hx
  have hl := (List.getElem?_eq_some_iff.1 hj).1
  obtain ⟨b, o, _, _, hc⟩ := h.2 (by rw [← h.1]; omega)
  have hin := (hc j x hj).2.2.2
  exact ⟨hin.ok, hin.len⟩
theorem tvals_full {w : World} {A : Option Addr} {n : Nat} {ts : List Si} (h : RdT w A n ts) : ∀ v ∈ ts.map Si.val, CVok v.2 ∧ v.2.2.2.length * 1 ≤ 140737488351232 := by
  intro v hv
  obtain ⟨x, hx, rfl⟩ := List.mem_map.1 hv
  obtain ⟨j, hj⟩ := List.getElem?_of_mem hx
  have hl := (List.getElem?_eq_some_iff.1 hj).1
  obtain ⟨b, o, _, _, hc⟩ := h.2 (by rw [← h.1]; omega)
  have hin := (hc j x hj).2.2.2.2
  exact ⟨hin.ok, hin.len⟩
theorem res_rd {W : World} {base c n : Nat} {A : Option Addr} {fs : List Ci} {R : List CV} (hv : fs.map Ci.val = R) (hn : R.length = n) (hok : ∀ v ∈ R, CVok v ∧ v.2.2.length * 1 ≤ 140737488351232) (ho : OwnX W base A c fs) (hown : ∀ f ∈ fs, Own .u8 5 W base f.A f.c f.txt) : RdX W A n fs := by
  have hl : fs.length = n := by rw [← hn, ← hv, List.length_map]
  rw [← hl]
  refine ho.rdX (fun f hf => ?_)
  obtain ⟨⟨h1, h2, h3⟩, h4⟩ := hok f.val (by rw [← hv]; exact List.mem_map.2 ⟨f, hf, rfl⟩)
  exact ⟨(hown f hf).rd, h1, h2, h3, h4⟩
theorem res_rdT {W : World} {base c n : Nat} {A : Option Addr} {fs : List Si} {R : List (Int × CV)} (hv : fs.map Si.val = R) (hn : R.length = n) (hok : ∀ v ∈ R, CVok v.2 ∧ v.2.2.2.length * 1 ≤ 140737488351232) (ho : OwnT W base A c fs) (hown : ∀ f ∈ fs, Own .u8 5 W base f.cell.A f.cell.c f.cell.txt) : RdT W A n fs := by
  have hl : fs.length = n := by rw [← hn, ← hv, List.length_map]
  rw [← hl]
  refine ho.rdT (fun f hf => ?_)
  obtain ⟨⟨h1, h2, h3⟩, h4⟩ := hok f.val (by rw [← hv]; exact List.mem_map.2 ⟨f, hf, rfl⟩)
  exact ⟨(hown f hf).rd, h1, h2, h3, h4⟩
theorem rd_cap {w : World} {A : Option Addr} {n : Nat} {xs : List Ci} (h : RdX w A n xs) : (xs.map Ci.val).length = n := by rw [List.length_map]; exact h.1
theorem rdT_cap {w : World} {A : Option Addr} {n : Nat} {xs : List Si} (h : RdT w A n xs) : (xs.map Si.val).length = n := by rw [List.length_map]; exact h.1

/-- A reading of an older world stays where only newer slices turn. -/
theorem RdX.keptOld {w W W' : World} {A : Option Addr} {n : Nat} {xs : List Ci} {ss : List Sl} {lo hi : Nat} (h : RdX w A n xs) (h' : RdX W A n xs) (hk : Kept W W' ss) (hin : Within ss lo hi) (hlo : w.heap.size ≤ lo) : RdX W' A n xs := by
  refine h'.kept hk (fun hn => hin.far_lo fun a ha => ?_) (fun x hx h0 => hin.far_lo fun a ha => ?_)
  · obtain ⟨b, o, e, hb, _⟩ := h.2 hn
    rw [ha] at e
    injection e with e
    subst e
    simp only
    omega
  · obtain ⟨j, hj⟩ := List.getElem?_of_mem hx
    have hl := (List.getElem?_eq_some_iff.1 hj).1
    obtain ⟨b, o, _, _, hc⟩ := h.2 (by rw [← h.1]; omega)
    have := (hc j x hj).2.2.2.rd.lt h0 a ha
    omega
theorem RdT.keptOld {w W W' : World} {A : Option Addr} {n : Nat} {xs : List Si} {ss : List Sl} {lo hi : Nat} (h : RdT w A n xs) (h' : RdT W A n xs) (hk : Kept W W' ss) (hin : Within ss lo hi) (hlo : w.heap.size ≤ lo) : RdT W' A n xs := by
  refine h'.kept hk (fun hn => hin.far_lo fun a ha => ?_) (fun x hx h0 => hin.far_lo fun a ha => ?_)
  · obtain ⟨b, o, e, hb, _⟩ := h.2 hn
    rw [ha] at e
    injection e with e
    subst e
    simp only
    omega
  · obtain ⟨j, hj⟩ := List.getElem?_of_mem hx
    have hl := (List.getElem?_eq_some_iff.1 hj).1
    obtain ⟨b, o, _, _, hc⟩ := h.2 (by rw [← h.1]; omega)
    have := (hc j x hj).2.2.2.2.rd.lt h0 a ha
    omega
theorem Kept.grown1 {w wr : World} {A : Option Addr} {c : Nat} {xs : List Nat} (h : Kept w wr [⟨A, c, xs⟩]) : w.grownBy wr (A.map (·.block)) :=
  ⟨h.os, h.tape, h.output, h.size, fun b hb hne => h.block b hb (fun s hs p hp => by
    rw [List.mem_singleton.1 hs] at hp
    simp only at hp
    rw [hp] at hne
    intro e
    exact hne (by simp [e]))⟩
theorem within1 {w : World} {base c : Nat} {A : Option Addr} {xs : List Nat} (h : Own .u8 5 w base A c xs) : Within [⟨A, c, xs⟩] base w.heap.size := by
  intro s hs p hp
  rw [List.mem_singleton.1 hs] at hp
  exact h.block p hp

theorem prowL_val {keys : Int} {cs : List Col} {xs ys : List Ci} (h : xs.map Ci.val = ys.map Ci.val) : prowL keys cs xs = prowL keys cs ys ∧ rowS keys cs xs = rowS keys cs ys := by
  have e : rowS keys cs xs = rowS keys cs ys := (rowS_V h).trans (rowS_V rfl).symm
  refine ⟨?_, e⟩
  unfold prowL
  rw [e, h]
theorem psetsL_val {keys : Int} {cs : List Col} {xs ys : List Si} (h : xs.map Si.val = ys.map Si.val) : psetsL keys cs xs = psetsL keys cs ys ∧ setsS keys cs xs = setsS keys cs ys := by
  have e : setsS keys cs xs = setsS keys cs ys := (setsS_V h).trans (setsS_V rfl).symm
  refine ⟨?_, e⟩
  unfold psetsL
  rw [e, h]
theorem applyE_val {keys : Int} {cs : List Col} {xs ys : List Ci} {ts us : List Si} (h : xs.map Ci.val = ys.map Ci.val) (h2 : ts.map Si.val = us.map Si.val) : applyE keys cs xs ts = applyE keys cs ys us ∧ applyV keys cs xs ts = applyV keys cs ys us := by
  have e : applyE keys cs xs ts = applyE keys cs ys us := by
    unfold applyE
    rw [(prowL_val h).2, (psetsL_val h2).2]
  refine ⟨e, ?_⟩
  unfold applyV
  rw [e, h, h2]
theorem projE_val {keys : Int} {cs : List Col} {xs ys : List Ci} {ps : List Int} (h : xs.map Ci.val = ys.map Ci.val) : projE keys cs xs ps = projE keys cs ys ps ∧ projV keys cs xs ps = projV keys cs ys ps := by
  have hl : xs.length = ys.length := by have := congrArg List.length h; simpa using this
  have e : projE keys cs xs ps = projE keys cs ys ps := by
    unfold projE
    rw [(prowL_val h).2, hl]
  refine ⟨e, ?_⟩
  unfold projV
  rw [e, h]

theorem rowB_u8 : ∀ {cs : List Col} {vs : List CV}, (∀ v ∈ vs, CVok v) → U8 (rowB cs vs)
  | [], vs, _ => by intro v hv; simp [rowB] at hv
  | c :: r, [], _ => by intro v hv; simp [rowB] at hv
  | c :: r, v :: s, h => by
    intro x hx
    rcases List.mem_append.1 hx with hx | hx
    · exact cputL_u8 (h v List.mem_cons_self).1 x hx
    · exact rowB_u8 (fun u hu => h u (List.mem_cons_of_mem _ hu)) x hx
theorem setB_u8 (cs : List Col) : ∀ {ts : List (Int × CV)}, (∀ t ∈ ts, CVok t.2) → U8 (setB cs ts)
  | [], _ => by intro v hv; simp [setB] at hv
  | t :: r, h => by
    intro x hx
    rcases List.mem_append.1 hx with hx | hx
    · exact vput_u8 _ x hx
    · rcases List.mem_append.1 hx with hx | hx
      · exact cputL_u8 (h t List.mem_cons_self).1 x hx
      · exact setB_u8 cs (fun u hu => h u (List.mem_cons_of_mem _ hu)) x hx
theorem prowL_facts {w : World} {A : Option Addr} {n : Nat} {keys : Int} {cs : List Col} {xs : List Ci} (h : RdX w A n xs) : U8 (prowL keys cs xs) ∧ (prowL keys cs xs).length ≤ 3600 := by
  unfold prowL
  split
  · rename_i e
    obtain ⟨h1, _, _⟩ := rowS_zero e
    have := rowB_len (cs := cs) (vs_ok h)
    have := (schE_inv h1).2.1
    exact ⟨rowB_u8 (vs_ok h), by omega⟩
  · exact ⟨fun v hv => (by cases hv), by simp⟩
where
  vs_ok {w : World} {A : Option Addr} {n : Nat} {xs : List Ci} (h : RdX w A n xs) : ∀ v ∈ xs.map Ci.val, CVok v := fun v hv => (vals_full h v hv).1
theorem sets_few {keys : Int} {cs : List Col} {ts : List Si} (h : setsS keys cs ts = 0) : ts.length ≤ 12 ∧ ∀ t ∈ ts.map Si.val, 0 ≤ t.1 ∧ t.1 < 12 := by
  obtain ⟨h1, _, h3⟩ := setsS_zero h
  have hi := schE_inv h1
  have hl := setW_len h3 (by omega)
  rw [List.length_map] at hl
  refine ⟨by omega, fun t ht => ?_⟩
  obtain ⟨a1, a2, _⟩ := setW_all h3 t ht
  omega
theorem psetsL_facts {w : World} {A : Option Addr} {n : Nat} {keys : Int} {cs : List Col} {ts : List Si} (h : RdT w A n ts) : U8 (psetsL keys cs ts) ∧ (psetsL keys cs ts).length ≤ 3800 := by
  unfold psetsL
  split
  · rename_i e
    obtain ⟨hl, hc⟩ := sets_few e
    have hok : ∀ t ∈ ts.map Si.val, CVok t.2 := fun t ht => (tvals_full h t ht).1
    have h1 := setB_len cs (ts := ts.map Si.val) (fun t ht => ⟨by have := (hc t ht).2; omega, hok t ht⟩)
    rw [List.length_map] at h1
    refine ⟨fun x hx => ?_, ?_⟩
    · unfold setsB at hx
      rcases List.mem_append.1 hx with hx | hx
      · exact vput_u8 _ x hx
      · exact setB_u8 cs hok x hx
    · unfold setsB
      rw [List.length_append, vput_len, List.length_map]
      have := vsize_le (u := ts.length) (by omega)
      omega
  · exact ⟨fun v hv => (by cases hv), by simp⟩

end Go.Proofs.Ytpjichclpnebjaa
