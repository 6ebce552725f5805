import Derived.Test.YtnkggopkcjffoaaDoorYK8d

/-
  Layer 7: a number read by the document.
-/
namespace Go.Proofs.YtnkggopkcjffoaaDoor
open Go.RowKit

theorem results_cell2 {P : Program} {fn : Func} {p t : Tmp} {ty : TypeId} (h : fn.results = #[.cell p ty, .tmp t]) (tmps : Array Value) (w : World) (g : Nat) (T : TypeId) (cs : Array Value) (fr : Nat × Nat) (d : TypeDesc)
    (hp : tmps.getD p undef = .pointer (some ⟨g, 0, none⟩)) (hg : w.heap[g]? = some (.cells cs T fr))
    (hu : P.underlying ty = some d) (hd : (match d with | .struct _ | .array _ _ => true | _ => false) = true) (hi : (P.info? ty).map (·.size) = some cs.size) :
    (results fn tmps).run P w = .ok (.tuple #[.agg cs, tmps.getD t undef]) w := by
  have hp' : tmps[p]?.getD undef = .pointer (some ⟨g, 0, none⟩) := by simpa using hp
  simp [results, h, hp', asAddr, run_loadVar_row w g T ty cs fr d hg hu hd hi]

/-- What the document's read answers. -/
def RReadPost (r : Option (Int × List Nat × List Nat)) (n : Nat) (w : World) (e : Ending) (w' : World) : Prop :=
  Ext w w' ∧ match r with
  | none => e = .returned (.tuple #[.agg #[.bool false, .int .i64 0, .slice none 0 0], .int .i64 (-1)])
  | some p => ∃ A c, e = .returned (.tuple #[.agg #[.bool false, .int .i64 p.1, .slice A (p.2.1.length : Nat) c], .int .i64 ((n - p.2.2.length : Nat) : Int)]) ∧ Own .u8 5 w' w.heap.size A c p.2.1

theorem rd_signed {k : Int} {u : Nat} (hk : 1 ≤ k ∧ k ≤ 4) (h : u < 256 ^ ksize k) : wrap64 (IntKind.u64.wrap ((u : Int) + IntKind.u64.wrap (least k))) = (u : Int) + least k := by
  rw [IntKind.wrap_u64, IntKind.wrap_u64]
  obtain rfl | rfl | rfl | rfl : k = 1 ∨ k = 2 ∨ k = 3 ∨ k = 4 := by omega
  all_goals
    simp [ksize, least] at h ⊢
    unfold wrap64
    omega

theorem rd_plain {k : Int} {u : Nat} (hk : 5 ≤ k ∧ k ≤ 6) (h : u < 256 ^ ksize k) : wrap64 (u : Int) = (u : Int) + least k := by
  obtain rfl | rfl : k = 5 ∨ k = 6 := by omega
  all_goals
    simp [ksize, least] at h ⊢
    unfold wrap64
    omega

theorem sum_byte {u x : Nat} (hu : u < 72057594037927936) (hx : x < 256) : IntKind.u64.wrap (IntKind.u64.wrap ((u : Int) * 256) + IntKind.u64.wrap (x : Int)) = ((u * 256 + x : Nat) : Int) := by
  rw [IntKind.wrap_u64, IntKind.wrap_u64, IntKind.wrap_u64]
  omega

set_option maxHeartbeats 1600000 in
set_option maxRecDepth 100000 in
theorem refReadN_any (k : Int) (A : Option Addr) (n c at_ : Nat) (bs : List Nat) (w : World) (hx : Rd .u8 w A n bs) (hu : U8 bs) (hn : n ≤ 140737488355328) (ha : at_ ≤ n) (hk : 1 ≤ k ∧ k ≤ 6) :
    Calls Tryd.prog 46 #[.int .i64 k, .slice A n c, .int .i64 at_] w (RReadPost (kread k (bs.drop at_)) n w) := by
  have hl := hx.len
  have hld : (bs.drop at_).length = n - at_ := by rw [List.length_drop, hl]
  have h8 := ksize_le k
  obtain ⟨R, hR⟩ : ∃ R, R = kread k (bs.drop at_) := ⟨_, rfl⟩
  rw [← hR]
  unfold kread at hR
  rw [if_pos hk.2, hld] at hR
  have hk6 := hk.2
  have hE : Ext w (w.alloc (.cells #[.bool false, .int .i64 0, .slice none 0 0] 63)) := (Ext.refl w).alloc _
  have HS := Lib.hid (fun W => refSize_any k W hk.1 hk.2)
  by_cases hs : n - at_ < ksize k
  · rw [if_pos hs] at hR
    subst hR
    obtain ⟨s, hse⟩ : ∃ s, s = ksize k := ⟨_, rfl⟩
    rw [← hse] at HS hs h8
    have b1 : (n : Int) - at_ < s := by omega
    clear hse hl hld
    go_enter Tryd.func46, Tryd.ntmps46
    go_wp2_with fail
    refine (HS.out _).mono ?_
    rintro e w2 ⟨rfl, rfl⟩
    go_wp2
    refine bodyPost_ret (v := .tuple #[.agg #[.bool false, .int .i64 0, .slice none 0 0], .int .i64 (-1)]) (by simp [results, Tryd.results46, go_sem]) rfl ?_
    exact ⟨hE, rfl⟩
  · rw [if_neg hs] at hR
    have hv := bval_lt ((bs.drop at_).take (ksize k)) 0 (fun v hv => hu v (List.mem_of_mem_drop (List.mem_of_mem_take hv)))
    rw [List.length_take, hld, Nat.min_eq_left (by omega), Nat.zero_add, Nat.one_mul] at hv
    have hrs : k ≤ 4 → wrap64 (IntKind.u64.wrap (((bval ((bs.drop at_).take (ksize k)) 0 : Nat) : Int) + IntKind.u64.wrap (least k))) = ((bval ((bs.drop at_).take (ksize k)) 0 : Nat) : Int) + least k := fun h => rd_signed ⟨hk.1, h⟩ hv
    have hrp : 4 < k → wrap64 ((bval ((bs.drop at_).take (ksize k)) 0 : Nat) : Int) = ((bval ((bs.drop at_).take (ksize k)) 0 : Nat) : Int) + least k := fun h => rd_plain ⟨by omega, hk.2⟩ hv
    obtain ⟨s, hse⟩ : ∃ s, s = ksize k := ⟨_, rfl⟩
    rw [← hse] at HS hs h8 hR hrs hrp
    obtain ⟨V, hV⟩ : ∃ V : Int, V = ((bval ((bs.drop at_).take s) 0 : Nat) : Int) + least k := ⟨_, rfl⟩
    rw [← hV] at hR hrs hrp
    have Hrs := Lib.hid hrs
    have Hrp := Lib.hid hrp
    have HR := Lib.hid hR
    have Hl := Lib.hid hl
    have Hld := Lib.hid hld
    have hu2 : U8 (bs.drop at_) := fun v hv => hu v (List.mem_of_mem_drop hv)
    have Hu2 := Lib.hid hu2
    have Hu := Lib.hid hu
    have hsn : at_ + s ≤ n := by omega
    have hb1 : ¬ (n : Int) - at_ < s := by omega
    clear hse hl hld hu hv hV hR hrs hrp hs hu2
    go_enter Tryd.func46, Tryd.ntmps46
    go_wp2_with fail
    refine (HS.out _).mono ?_
    rintro e w2 ⟨rfl, rfl⟩
    go_wp2_with fail
    obtain ⟨W1, hW1⟩ : ∃ W1, W1 = w.alloc (.cells #[.bool false, .int .i64 0, .slice none 0 0] 63) := ⟨_, rfl⟩
    have hx1 := hx.ext hE
    have hK := heap_alloc_new w (.cells #[.bool false, .int .i64 0, .slice none 0 0] 63)
    rw [← hW1] at hE hx1 hK ⊢
    have HK := Lib.hid hK
    clear hW1 hK hx
    go_loopw [8, 9] (fun u i wr => ∃ j : Nat, j ≤ s ∧ i = .int .i64 j ∧ u = .int .u64 ((bval ((bs.drop at_).take j) 0 : Nat) : Int) ∧ W1 = wr) (fun _ i _ => s - (intOf i).toNat)
    case atStart => exact ⟨0, Nat.zero_le _, rfl, rfl, rfl⟩
    case round =>
      obtain ⟨j, hj, rfl, rfl, rfl⟩ := hrel
      by_cases hlt : j < s
      · obtain ⟨b, o, hA, hbl, hc⟩ := hx1.at_ (show at_ + j < n by omega)
        subst hA
        have hbs := bval_step (bs := bs.drop at_) (j := j) (by rw [Hld.out]; omega)
        have hgd : (bs.drop at_).getD j 0 = bs.getD (at_ + j) 0 := by simp [List.getD_eq_getElem?_getD, List.getElem?_drop]
        have hlt2 := bval_lt' (j := j) Hu2.out (by rw [Hld.out]; omega) (by omega)
        have hx8 : bs.getD (at_ + j) 0 < 256 := Hu.out.at_ _
        rw [hgd] at hbs
        obtain ⟨x, hxx⟩ : ∃ x, x = bs.getD (at_ + j) 0 := ⟨_, rfl⟩
        obtain ⟨u, huu⟩ : ∃ u, u = bval ((bs.drop at_).take j) 0 := ⟨_, rfl⟩
        rw [← hxx] at hc hbs hx8
        rw [← huu] at hbs hlt2
        have Hsb := Lib.hid (sum_byte hlt2 hx8)
        have Hbs := Lib.hid hbs
        have i1 : (at_ : Int) + j < n := by omega
        rw [← huu]
        clear hbs hgd hlt2 hx8 hxx huu
        go_wp2_with fail
        refine (HS.out _).mono ?_
        rintro e w2 ⟨rfl, rfl⟩
        go_wp2_with fail
        go_roundw
        case rel => exact ⟨j + 1, by omega, by go_num, by rw [Hsb.out, Hbs.out], trivial⟩
        case measure => simp [intOf]; omega
      · obtain rfl : j = s := by omega
        by_cases h4 : k ≤ 4
        · have HV := Lib.hid (Hrs.out h4)
          clear Hrs Hrp
          go_wp2_with fail
          refine (HS.out _).mono ?_
          rintro e w2 ⟨rfl, rfl⟩
          go_wp2_with fail
          refine (least_any _ _).mono ?_
          rintro e w2 ⟨rfl, rfl⟩
          go_wp2_with fail
          refine (HS.out _).mono ?_
          rintro e w2 ⟨rfl, rfl⟩
          go_wp2_with (first | (refine wpList_store_cell rfl (.tmp 6) (.tmp 47) rfl w.heap.size (.bool false) _ (.slice none 0 0) rfl rfl HK.out rfl rfl rfl ?_) | fail)
          rw [HV.out]
          apply bodyPost_ret
          · exact results_cell2 rfl _ _ w.heap.size 63 #[.bool false, .int .i64 V, .slice none 0 0] (0, 0) _ rfl (setRow_heap W1 w.heap.size _ _ 63 (0, 0) HK.out) Tryd.underlying63 rfl (by kernel_rfl)
          · rfl
          rw [HR.out]
          exact ⟨hE.setRow (Nat.le_refl _) _, none, 0, by rw [show n - (List.drop j (List.drop at_ bs)).length = at_ + j by rw [List.length_drop, Hld.out]; omega]; rfl, Own.nil ..⟩
        · have HV := Lib.hid (Hrp.out (by omega))
          clear Hrs Hrp
          go_wp2_with fail
          refine (HS.out _).mono ?_
          rintro e w2 ⟨rfl, rfl⟩
          go_wp2_with fail
          refine (HS.out _).mono ?_
          rintro e w2 ⟨rfl, rfl⟩
          go_wp2_with (first | (refine wpList_store_cell rfl (.tmp 6) (.tmp 47) rfl w.heap.size (.bool false) _ (.slice none 0 0) rfl rfl HK.out rfl rfl rfl ?_) | fail)
          rw [HV.out]
          apply bodyPost_ret
          · exact results_cell2 rfl _ _ w.heap.size 63 #[.bool false, .int .i64 V, .slice none 0 0] (0, 0) _ rfl (setRow_heap W1 w.heap.size _ _ 63 (0, 0) HK.out) Tryd.underlying63 rfl (by kernel_rfl)
          · rfl
          rw [HR.out]
          exact ⟨hE.setRow (Nat.le_refl _) _, none, 0, by rw [show n - (List.drop j (List.drop at_ bs)).length = at_ + j by rw [List.length_drop, Hld.out]; omega]; rfl, Own.nil ..⟩

end Go.Proofs.YtnkggopkcjffoaaDoor
