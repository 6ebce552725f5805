import Derived.Test.YtjckfbpdnpehcaaKA
import Derived.Deep.CutRange

/-
  Layer 14: the document's Load.
-/
namespace Go.Proofs.Ytjckfbpdnpehcaa
open Go.RowKit Go.Maps Go.WideMaps
set_option maxRecDepth 100000

/-- The document's files as a call's own. -/
structure BdO (w : World) (base : Nat) (bs : List (Sl × Int)) : Prop where
  own : ∀ p ∈ bs, Own .u8 5 w base p.1.A p.1.c p.1.body ∧ U8 p.1.body ∧ p.1.body.length ≤ 140737488355328
theorem BdO.ext {w w' : World} {base : Nat} {bs : List (Sl × Int)} (h : BdO w base bs) (he : Ext w w') : BdO w' base bs := ⟨fun p hp => ⟨(h.own p hp).1.ext he, (h.own p hp).2⟩⟩
theorem own_ne {k : IntKind} {e : TypeId} {w : World} {base c g : Nat} {A : Option Addr} {xs : List Nat} {cs : Array Value} {t : TypeId} {fr : Nat × Nat} (h : Own k e w base A c xs) (hg : w.heap[g]? = some (.cells cs t fr)) (hT : t ≠ e) : ∀ a, A = some a → some a.block ≠ some g := by
  rintro a ha q
  obtain ⟨cur, hc⟩ := h.ty a ha
  injection q with q
  rw [q, hg] at hc
  injection hc with hc
  injection hc with _ hc
  exact hT hc
theorem ownG_ne {T : Type} {s : Shape T} {e : TypeId} {w : World} {base c g : Nat} {A : Option Addr} {xs : List T} {cs : Array Value} {t : TypeId} {fr : Nat × Nat} (h : OwnG s e w base A c xs) (hg : w.heap[g]? = some (.cells cs t fr)) (hT : t ≠ e) : ∀ a, A = some a → some a.block ≠ some g := by
  rintro a ha q
  obtain ⟨cur, hc⟩ := h.ty a ha
  injection q with q
  rw [q, hg] at hc
  injection hc with hc
  injection hc with _ hc
  exact hT hc
theorem BdO.grown {w w' : World} {base g : Nat} {bs : List (Sl × Int)} {cs : Array Value} {t : TypeId} {fr : Nat × Nat} (h : BdO w base bs) (hg : w.grownBy w' (some g)) (hr : w.heap[g]? = some (.cells cs t fr)) (hT : t ≠ 5) : BdO w' base bs :=
  ⟨fun p hp => ⟨(h.own p hp).1.grown hg (own_ne (h.own p hp).1 hr hT), (h.own p hp).2⟩⟩

/-- One file more, its number not yet in the directory. -/
def Join8 (w : World) (g : Nat) (room : Int) (j : Nat) (Ad : Option Addr) (cd : Nat) (L : List (List UInt8 × Int)) (M : List (List Nat × Int)) (V : World) : Prop :=
  ∃ Ab cb bs, Hid (RdAt V g (.slice Ab (j + 1) cb) (.slice Ad j cd) room 0) ∧ Hid (OwnG shBd 77 V w.heap.size Ab cb bs) ∧ Hid (OwnG shE 114 V w.heap.size Ad cd L) ∧ Hid (BdO V w.heap.size bs) ∧ Hid (bs.map (fun p => (p.1.body, p.2)) = M) ∧ Hid (V.heap[w.heap.size]? = some (.cells #[.slice none 0 0, .slice none 0 0, .slice none 0 0, .int .i64 0, .slice none 0 0, .int .i64 0, .bool false] 59 (0, 0))) ∧ Hid (Ext w V)

theorem ld_join {w wr v1 v2 v3 : World} {g j : Nat} {room : Int} {Ab Ad A' A3 : Option Addr} {cb cd c' c3 : Nat} {L : List (List UInt8 × Int)} {M : List (List Nat × Int)} {bs : List (Sl × Int)} {body : List Nat} {mb : Nat}
    (HE : Ext w wr) (hg : w.heap.size < g) (HA : RdAt wr g (.slice Ab j cb) (.slice Ad j cd) room 0) (HOd : OwnG shE 114 wr w.heap.size Ad cd L) (HBd : BdO wr w.heap.size bs) (HM : bs.map (fun p => (p.1.body, p.2)) = M)
    (HZ : wr.heap[w.heap.size]? = some (.cells #[.slice none 0 0, .slice none 0 0, .slice none 0 0, .int .i64 0, .slice none 0 0, .int .i64 0, .bool false] 59 (0, 0)))
    (X1 : Ext wr v1) (HO2 : Own .u8 5 v2 v1.heap.size A' c' body) (hu : U8 body) (hl : body.length ≤ 140737488355328) (X2 : Ext wr v2) (X23 : Ext v2 v3) (HO3 : OwnG shBd 77 v3 v2.heap.size A3 c3 (bs ++ [(⟨A', c', body⟩, (mb : Int))])) :
    Join8 w g room j Ad cd L (M ++ [(body, (mb : Int))]) (set7 v3 g (.slice A3 (j + 1) c3) (.slice Ad j cd) (.slice none 0 0) (.int .i64 room) (.slice none 0 0) (.int .i64 0) (.bool false)) := by
  have X3 := X2.trans X23
  have hr := (HA.to X3).row
  have hG := set7_grown v3 g (.slice A3 (j + 1) c3) (.slice Ad j cd) (.slice none 0 0) (.int .i64 room) (.slice none 0 0) (.int .i64 0) (.bool false)
  have s1 := HE.size
  have s2 := X1.size
  have s3 := X2.size
  have hB : BdO v3 w.heap.size (bs ++ [(⟨A', c', body⟩, (mb : Int))]) := ⟨fun p hp => by
    rcases List.mem_append.1 hp with hp | hp
    · exact (HBd.ext X3).own p hp
    · rw [List.mem_singleton] at hp
      subst hp
      exact ⟨(HO2.ext X23).mono (by omega), hu, hl⟩⟩
  refine ⟨A3, c3, _, Lib.hid (.of (set7_heap hr _ _ _ _ _ _ _)), Lib.hid ((HO3.grown hG (ownG_ne HO3 hr (by decide))).mono (by omega)), Lib.hid ((HOd.ext X3).grown hG (ownG_ne (HOd.ext X3) hr (by decide))), Lib.hid (hB.grown hG hr (by decide)), Lib.hid ?_, Lib.hid ?_, Lib.hid (set7_ext (HE.trans X3) (Nat.le_of_lt hg) _ _ _ _ _ _ _)⟩
  · rw [List.map_append, HM]; rfl
  · exact (hG.block _ (by have := X3.size; have := (Array.getElem?_eq_some_iff.1 HZ).1; omega) (fun e => by have := Option.some.inj e; omega)).trans ((X3.block _ (Array.getElem?_eq_some_iff.1 HZ).1).trans HZ)

theorem results_row_tmp {P : Program} {fn : Func} {p q : Tmp} {ty : TypeId} (h : fn.results = #[.cell p ty, .tmp q]) (tmps : Array Value) (w : World) (g : Nat) (t : TypeId) (cs : Array Value) (fr : Nat × Nat) (d : TypeDesc) (v : Value)
    (hp : tmps.getD p undef = .pointer (some ⟨g, 0, none⟩)) (hq : tmps.getD q undef = v) (hg : w.heap[g]? = some (.cells cs t fr))
    (hu : P.underlying ty = some d) (hd : (match d with | .struct _ | .array _ _ => true | _ => false) = true) (hi : (P.info? ty).map (·.size) = some cs.size) :
    (results fn tmps).run P w = .ok (.tuple #[.agg cs, v]) w := by
  have hp' : tmps[p]?.getD undef = .pointer (some ⟨g, 0, none⟩) := by simpa using hp
  have hq' : tmps[q]?.getD undef = v := by simpa using hq
  simp [results, h, hp', hq', asAddr, run_loadVar_row w g t ty cs fr d hg hu hd hi]

/-- The document's disk of nothing. -/
abbrev rZero : Value := .agg #[.slice none 0 0, .slice none 0 0, .slice none 0 0, .int .i64 0, .slice none 0 0, .int .i64 0, .bool false]
/-- What the document's Load leaves. -/
def RLoadPost (room : Int) (F : List (List UInt8 × List Nat)) (w : World) (e : Ending) (w' : World) : Prop :=
  (∃ Ab cb Ad cd bs, e = .returned (.tuple #[.agg #[.slice Ab F.length cb, .slice Ad F.length cd, .slice none 0 0, .int .i64 room, .slice none 0 0, .int .i64 0, .bool false], .int .i64 0]) ∧ (∀ i x, i < F.length → F[i]? = some x → refE x.1 (dirF F i) = 0) ∧ OwnG shBd 77 w' w.heap.size Ab cb bs ∧ BdO w' w.heap.size bs ∧ bs.map (fun p => (p.1.body, p.2)) = F.map (fun x => (x.2, (x.2.length : Int))) ∧ OwnG shE 114 w' w.heap.size Ad cd (dirF F F.length) ∧ Ext w w') ∨
  (∃ j x, F[j]? = some x ∧ (∀ i x, i < j → F[i]? = some x → refE x.1 (dirF F i) = 0) ∧ refE x.1 (dirF F j) ≠ 0 ∧ e = .returned (.tuple #[rZero, .int .i64 (refE x.1 (dirF F j))]) ∧ Ext w w')

set_option maxHeartbeats 6400000 in
theorem rload_any (room : Int) (h0 : 0 ≤ room) (h1 : room ≤ 16777216) {A : Option Addr} {n c : Nat} {R : List (List UInt8 × Sl)} {w : World} (hr : RdG shF w A n R) (hb : ∀ r ∈ R, r.1.length ≤ 140737488355328 ∧ Rd .u8 w r.2.A r.2.body.length r.2.body ∧ U8 r.2.body ∧ r.2.body.length ≤ 140737488355328) (hn : n ≤ 140737488355328) :
    Calls Try.prog 26 #[.int .i64 room, .slice A n c] w (RLoadPost room (R.map fun r => (r.1, r.2.body)) w) := by
  unfold RLoadPost
  have HR := Lib.hid hr
  have HB := Lib.hid hb
  obtain ⟨F, hF⟩ : ∃ F, F = R.map fun r => (r.1, r.2.body) := ⟨_, rfl⟩
  have hFl : F.length = n := by rw [hF, List.length_map]; exact hr.len
  rw [← hF, hFl]
  have HF := Lib.hid hF
  have HFl := Lib.hid hFl
  clear hr hb hF hFl
  have CN := Lib.hid (rnew_any (w.alloc (.cells #[.slice none 0 0, .slice none 0 0, .slice none 0 0, .int .i64 0, .slice none 0 0, .int .i64 0, .bool false] 59)) room h0 h1)
  have HZ0 := Lib.hid (heap_alloc_new w (.cells #[.slice none 0 0, .slice none 0 0, .slice none 0 0, .int .i64 0, .slice none 0 0, .int .i64 0, .bool false] 59))
  go_enter Try.func26, Try.ntmps26
  go_wp2_with fail
  refine CN.out.mono ?_
  rintro e w1 ⟨rfl, hE1⟩
  have hz1 := (hE1.block _ (Array.getElem?_eq_some_iff.1 HZ0.out).1).trans HZ0.out
  have hE1w : Ext w w1 := ((Ext.refl w).alloc _).trans hE1
  obtain ⟨g, hg⟩ : ∃ g, g = w1.heap.size := ⟨_, rfl⟩
  have hgw : w.heap.size < g := by rw [hg]; exact (Array.getElem?_eq_some_iff.1 hz1).1
  have HN1 := Lib.hid (heap_alloc_new w1 (.cells #[.slice none 0 0, .slice none 0 0, .slice none 0 0, .int .i64 0, .slice none 0 0, .int .i64 0, .bool false] 59))
  have hz1' := (heap_alloc_old w1 (.cells #[.slice none 0 0, .slice none 0 0, .slice none 0 0, .int .i64 0, .slice none 0 0, .int .i64 0, .bool false] 59) (Array.getElem?_eq_some_iff.1 hz1).1).trans hz1
  rw [← hg] at HN1
  obtain ⟨W1, hW1⟩ : ∃ W1, W1 = (w1.alloc (.cells #[.slice none 0 0, .slice none 0 0, .slice none 0 0, .int .i64 0, .slice none 0 0, .int .i64 0, .bool false] 59)).setRow g #[.slice none 0 0, .slice none 0 0, .slice none 0 0, .int .i64 room, .slice none 0 0, .int .i64 0, .bool false] := ⟨_, rfl⟩
  have HW1 := Lib.hid hW1
  have HRA : Hid (RdAt W1 g (.slice none 0 0) (.slice none 0 0) room 0) := Lib.hid (.of (by rw [hW1]; exact setRow_heap _ g _ _ 59 (0, 0) HN1.out))
  have HZ1 : Hid (W1.heap[w.heap.size]? = some (.cells #[.slice none 0 0, .slice none 0 0, .slice none 0 0, .int .i64 0, .slice none 0 0, .int .i64 0, .bool false] 59 (0, 0))) := Lib.hid (by rw [hW1]; exact ((grown_setRow _ g _).block _ (Array.getElem?_eq_some_iff.1 hz1').1 (fun e => by have := Option.some.inj e; omega)).trans hz1')
  have HE1 : Hid (Ext w W1) := Lib.hid (by rw [hW1]; exact (hE1w.alloc _).setRow (by omega) _)
  have Hg := Lib.hid hg
  have Hgw := Lib.hid hgw
  clear hE1 hz1 hE1w hgw hz1' hW1 CN HZ0
  subst hg
  go_wp2_with (first
    | (refine wpList_store_row rfl 59 _ _ rfl w1.heap.size #[.slice none 0 0, .slice none 0 0, .slice none 0 0, .int .i64 room, .slice none 0 0, .int .i64 0, .bool false] rfl rfl 59 _ HN1.out (by kernel_rfl) rfl (by simp [Value.oneCell']) ?_)
    | fail)
  rw [← HW1.out]
  go_loopw [7, 8] (fun i _ wr => ∃ (j dn : Nat) (Ab : Option Addr) (cb : Nat) (Ad : Option Addr) (cd : Nat) (bs : List (Sl × Int)), j ≤ n ∧ i = .int .i64 (j : Int) ∧ Hid (RdAt wr w1.heap.size (.slice Ab j cb) (.slice Ad j cd) room 0) ∧ Hid (OwnG shBd 77 wr w.heap.size Ab cb bs) ∧ Hid (OwnG shE 114 wr w.heap.size Ad cd (dirF F j)) ∧ Hid (BdO wr w.heap.size bs) ∧ Hid (bs.map (fun p => (p.1.body, p.2)) = (F.take j).map fun x => (x.2, (x.2.length : Int))) ∧ Hid (∀ i x, i < j → F[i]? = some x → refE x.1 (dirF F i) = 0) ∧ Hid (wr.heap[w.heap.size]? = some (.cells #[.slice none 0 0, .slice none 0 0, .slice none 0 0, .int .i64 0, .slice none 0 0, .int .i64 0, .bool false] 59 (0, 0))) ∧ Hid (Ext w wr)) (fun i _ _ => n - (intOf i).toNat)
  case atStart => exact ⟨0, 0, _, _, _, _, [], Nat.zero_le _, rfl, HRA, Lib.hid (OwnG.nil _ _ _ _), Lib.hid (OwnG.nil _ _ _ _), Lib.hid ⟨fun p hp => by cases hp⟩, Lib.hid rfl, Lib.hid (fun i x hi => by omega), HZ1, HE1⟩
  case round =>
    obtain ⟨j, dn, Ab, cb, Ad, cd, bs, hj, rfl, HA, HOb, HOd, HBd, HM, HL, HZ, HE⟩ := hrel
    have Hlen := Lib.hid (dirF_len (F := F) j (by rw [HFl.out]; exact hj) HL.out)
    by_cases hlt : j < n
    · obtain ⟨b, o, r, hA, hbl, hx, hcx⟩ := HR.out.at_ hlt
      have q0 : w.cell? ⟨b, o + j * 2, none⟩ = some (nm r.1) := by simpa [shF] using hcx 0 _ rfl
      have q1 : w.cell? ⟨b, o + j * 2 + 1, none⟩ = some (.slice r.2.A r.2.body.length r.2.c) := by simpa [shF, Sl.v] using hcx 1 _ rfl
      have HF9 : Hid (∀ W, Ext w W → W.cell? ⟨b, o + j * 2, none⟩ = some (nm r.1) ∧ W.cell? ⟨b, o + j * 2 + 1, none⟩ = some (.slice r.2.A r.2.body.length r.2.c)) := Lib.hid (fun W hW => ⟨(Below.cell hW (p := ⟨b, o + j * 2, none⟩) hbl).trans q0, (Below.cell hW (p := ⟨b, o + j * 2 + 1, none⟩) hbl).trans q1⟩)
      rw [hA]
      have hmem := List.mem_of_getElem? hx
      obtain ⟨hb1, hb2, hb3, hb4⟩ := HB.out r hmem
      have hFj : F[j]? = some (r.1, r.2.body) := by rw [HF.out, List.getElem?_map, hx]; rfl
      have HFj := Lib.hid hFj
      obtain ⟨E, hEE⟩ : ∃ E, E = refE r.1 (dirF F j) := ⟨_, rfl⟩
      have CR : Hid (∀ W, Ext wr W → Calls Try.prog 64 #[.agg #[.slice Ab j cb, .slice Ad j cd, .slice none 0 0, .int .i64 room, .slice none 0 0, .int .i64 0, .bool false], nm r.1] W fun e w' => e = .returned (.int .i64 E) ∧ Ext W w') := Lib.hid (fun W hW => by rw [hEE]; exact rrefuse_any ((HOd.out.ext hW).rd' Hlen.out.1) (.slice Ab j cb) room 0 r.1 hb1 (by have := Hlen.out.2; omega))
      have HC9 : Hid (∀ W, Ext wr W → W.cell? ⟨w1.heap.size, 0, none⟩ = some (.slice Ab j cb) ∧ W.cell? ⟨w1.heap.size, 1, none⟩ = some (.slice Ad j cd) ∧ W.cell? ⟨w1.heap.size, 2, none⟩ = some (.slice none 0 0) ∧ W.cell? ⟨w1.heap.size, 3, none⟩ = some (.int .i64 room) ∧ W.cell? ⟨w1.heap.size, 4, none⟩ = some (.slice none 0 0) ∧ W.cell? ⟨w1.heap.size, 5, none⟩ = some (.int .i64 0) ∧ W.cell? ⟨w1.heap.size, 6, none⟩ = some (.bool false)) := Lib.hid (fun W hW => by
        have hh := (HA.out.to hW).row
        exact ⟨cell_of_row W _ 0 _ _ (0, 0) hh, cell_of_row W _ 1 _ _ (0, 0) hh, cell_of_row W _ 2 _ _ (0, 0) hh, cell_of_row W _ 3 _ _ (0, 0) hh, cell_of_row W _ 4 _ _ (0, 0) hh, cell_of_row W _ 5 _ _ (0, 0) hh, cell_of_row W _ 6 _ _ (0, 0) hh⟩)
      have Hlt := Lib.hid hlt
      have HEE := Lib.hid hEE
      have HRB := Lib.hid hb2
      have HU := Lib.hid hb3
      clear hA hbl hx hcx q0 q1 hmem hb2 hb3 hFj hEE hlt
      go_wp2_with fail
      go_region_held3 (fun W => W.cell? ⟨b, o + j * 2, none⟩ = some (nm r.1) ∧ W.cell? ⟨w1.heap.size, 0, none⟩ = some (.slice Ab j cb) ∧ W.cell? ⟨w1.heap.size, 1, none⟩ = some (.slice Ad j cd) ∧ W.cell? ⟨w1.heap.size, 2, none⟩ = some (.slice none 0 0) ∧ W.cell? ⟨w1.heap.size, 3, none⟩ = some (.int .i64 room) ∧ W.cell? ⟨w1.heap.size, 4, none⟩ = some (.slice none 0 0) ∧ W.cell? ⟨w1.heap.size, 5, none⟩ = some (.int .i64 0) ∧ W.cell? ⟨w1.heap.size, 6, none⟩ = some (.bool false))
        (first | exact ⟨(HF9.out _ HE.out.drew).1, HC9.out _ (Ext.refl _).drew⟩ | exact ⟨(HF9.out _ (HE.out.trans HX1.out)).1, HC9.out _ HX1.out⟩ | fail)
        (first
          | (go_at_call 64; refine (CR.out _ ?_).mono ?_; (first | exact Ext.refl _ | exact (Ext.refl _).drew | exact Ext.of_drewN _ _ | fail); rintro e v1 ⟨rfl, he⟩; have HX1 : Hid (Ext wr v1) := Lib.hid ⟨he.os, he.tape, he.output, he.size, he.block⟩; clear he)
          | fail)
      have HZv := Lib.hid ((HX1.out.block _ (Array.getElem?_eq_some_iff.1 HZ.out).1).trans HZ.out)
      by_cases h9 : E = 0
      · have H9 := Lib.hid h9
        subst h9
        obtain ⟨mb, hmb⟩ : ∃ m, m = r.2.body.length := ⟨_, rfl⟩
        rw [← hmb] at HF9 HRB hb4
        have Hmb := Lib.hid hmb
        clear hmb
        have CC : Hid (∀ W, Ext w W → Calls Try.prog 12 #[.slice r.2.A mb r.2.c] W fun e w' => ∃ A' c', e = .returned (.slice A' mb c') ∧ Own .u8 5 w' W.heap.size A' c' r.2.body ∧ Ext W w') := Lib.hid (fun W hW => copy_any r.2.A mb r.2.c _ W (HRB.out.ext hW) hb4)
        have hbn : j ≤ 1000000 := by have := Hlen.out.2; omega
        have CB : Hid (∀ W (s : Sl) SA sc, Ext wr W → s.v = .slice SA mb sc → Calls Try.prog 65 #[.agg #[.slice Ab j cb, .slice Ad j cd, .slice none 0 0, .int .i64 room, .slice none 0 0, .int .i64 0, .bool false], .agg #[.slice SA mb sc, .int .i64 mb]] W fun e w' =>
            ∃ A' c', e = .returned (.agg #[.slice A' (j + 1) c', .slice Ad j cd, .slice none 0 0, .int .i64 room, .slice none 0 0, .int .i64 0, .bool false]) ∧ OwnG shBd 77 w' W.heap.size A' c' (bs ++ [(s, (mb : Int))]) ∧ Ext W w') := Lib.hid (fun W s SA sc hW hs => rbody_any ((HOb.out.ext hW).rd' (by have := congrArg List.length HM.out; simp only [List.length_map, List.length_take] at this; rw [this, HFl.out]; omega)) Ad j cd room 0 SA mb sc s hs mb hbn)
        have f1 := (HF9.out v1.drew (HE.out.trans HX1.out).drew).2
        obtain ⟨c0, c1, c2, c3, c4, c5, c6⟩ := HC9.out v1.drew HX1.out.drew
        clear hbn
        go_upto_region 8 with fail
        go_cut [7] from 11 to 55 (fun s7 wx => s7 = .int .i64 (j : Int) ∧ Join8 w w1.heap.size room j Ad cd (dirF F j) ((F.take j).map (fun x => (x.2, (x.2.length : Int))) ++ [(r.2.body, (mb : Int))]) wx)
        case first =>
          go_region_law
            (go_simp; first
              | (go_at_call 12; refine (CC.out _ (HE.out.trans HX1.out).drew).mono ?_; rintro e v2 ⟨A', c', rfl, ho, he⟩; have HO2 : Hid (Own .u8 5 v2 v1.heap.size A' c' r.2.body) := Lib.hid ho; have HX2 : Hid (Ext wr v2) := Lib.hid (HX1.out.drew.trans he); have f2 := (HF9.out v2 (HE.out.trans HX2.out)).2; obtain ⟨c0', c1', c2', c3', c4', c5', c6'⟩ := HC9.out v2 HX2.out; clear ho he)
              | (go_at_call 65; refine (CB.out _ ⟨A', c', r.2.body⟩ A' c' HX2.out (by rw [Hmb.out]; rfl)).mono ?_; rintro e v3 ⟨A3, c3', rfl, ho, he⟩; have HO3 := Lib.hid ho; have HX3 : Hid (Ext wr v3) := Lib.hid (HX2.out.trans he); have HX23 := Lib.hid he; obtain ⟨d0, d1, d2, d3, d4, d5, d6⟩ := HC9.out v3 HX3.out; have hrow := (HA.out.to HX3.out).row; have z0 : v3.frozen? ⟨w1.heap.size, 0, none⟩ = false := (by simp [World.frozen?, hrow]); have z1 : v3.frozen? ⟨w1.heap.size, 1, none⟩ = false := (by simp [World.frozen?, hrow]); have z2 : v3.frozen? ⟨w1.heap.size, 2, none⟩ = false := (by simp [World.frozen?, hrow]); have z3 : v3.frozen? ⟨w1.heap.size, 3, none⟩ = false := (by simp [World.frozen?, hrow]); have z4 : v3.frozen? ⟨w1.heap.size, 4, none⟩ = false := (by simp [World.frozen?, hrow]); have z5 : v3.frozen? ⟨w1.heap.size, 5, none⟩ = false := (by simp [World.frozen?, hrow]); have z6 : v3.frozen? ⟨w1.heap.size, 6, none⟩ = false := (by simp [World.frozen?, hrow]); clear ho he hrow)
              | fail)
          all_goals
            go_wp2_with fail
            go_meet
            exact ⟨rfl, ld_join HE.out Hgw.out HA.out HOd.out HBd.out HM.out HZ.out HX1.out HO2.out HU.out (by rw [← Hmb.out]; exact hb4) HX2.out HX23.out HO3.out⟩
        case rest =>
          obtain ⟨rfl, Ab2, cb2, bs2, JA, JOb, JOd, JBd, JM, JZ, JE⟩ := hcut
          have hdn : dirF F (j + 1) = withL r.1 (j : Int) (dirF F j) := by
            show (match F[j]? with | some e => withL e.1 (j : Int) (dirF F j) | none => dirF F j) = _
            rw [HFj.out]
          obtain ⟨L1, hL1⟩ : ∃ L1, L1 = withL r.1 (j : Int) (dirF F j) := ⟨_, rfl⟩
          have hL1n : L1.length = j + 1 := by
            have h5 := dirF_len (F := F) (j + 1) (by rw [HFl.out]; exact Hlt.out) (fun i x hi hx => by
              by_cases hij : i < j
              · exact HL.out i x hij hx
              · obtain rfl : i = j := by omega
                rw [HFj.out] at hx
                injection hx with hx
                rw [← hx]
                exact HEE.out.symm)
            rw [hdn, ← hL1] at h5
            exact h5.1
          have CW : Hid (∀ W, Ext wc W → Calls Try.prog 66 #[.slice Ad j cd, nm r.1, .int .i64 (j : Int)] W fun e w' => ∃ A4 c4, e = .returned (.slice A4 (j + 1) c4) ∧ OwnG shE 114 w' W.heap.size A4 c4 L1 ∧ Ext W w') := Lib.hid (fun W hW => by
            have h6 := rwith_any (c := cd) ((JOd.out.ext hW).rd' Hlen.out.1) r.1 (j : Int) (by have := Hlen.out.2; omega)
            unfold EntPost at h6
            rw [← hL1, hL1n] at h6
            exact h6)
          have HL1 : Hid (L1 = dirF F (j + 1)) := Lib.hid (hL1.trans hdn.symm)
          have HJc : Hid (∀ W, Ext wc W → W.cell? ⟨w1.heap.size, 0, none⟩ = some (.slice Ab2 (j + 1) cb2) ∧ W.cell? ⟨w1.heap.size, 1, none⟩ = some (.slice Ad j cd) ∧ W.frozen? ⟨w1.heap.size, 1, none⟩ = false) := Lib.hid (fun W hW => by
            have hh := JA.out.to hW
            exact ⟨hh.c0, hh.c1, by simp [World.frozen?, hh.row]⟩)
          have f1 := (HF9.out wc.drew JE.out.drew).1
          obtain ⟨c0, c1, c2⟩ := HJc.out wc.drew (Ext.refl _).drew
          have hj1 : ((j + 1 : Nat) : Int) - 1 = (j : Int) := by omega
          have hj2 : (j : Int) + 1 - 1 = (j : Int) := by omega
          have hjb := Hlen.out.2
          have hjw : IntKind.i64.wrap (j : Int) = (j : Int) := IntWalk.i64_in _ (by omega)
          clear hdn hL1 hL1n
          go_wp2_with fail
          go_region_law
            (go_simp; first
              | (go_at_call 66; refine (CW.out _ (Ext.refl _).drew).mono ?_; rintro e v4 ⟨A4, c4, rfl, ho, he⟩; have HO4 := Lib.hid ho; have HX4 : Hid (Ext wc v4) := Lib.hid ((Ext.refl _).drew.trans he); obtain ⟨d0, d1, d2⟩ := HJc.out v4 HX4.out; clear ho he)
              | fail)
          all_goals
            go_wp2_with fail
            go_roundw
            case rel =>
              have hrow := (JA.out.to HX4.out).row
              have hG := setCell_grown v4 ⟨w1.heap.size, 1, none⟩ (.slice A4 (j + 1) c4)
              have hEx : Ext w (v4.setCell ⟨w1.heap.size, 1, none⟩ (.slice A4 (j + 1) c4)) := (JE.out.trans HX4.out).setCell (Nat.le_of_lt Hgw.out) _
              have hR : (v4.setCell ⟨w1.heap.size, 1, none⟩ (.slice A4 (j + 1) c4)).heap[w1.heap.size]? = some (.cells (rdC (.slice Ab2 (j + 1) cb2) (.slice A4 (j + 1) c4) room 0) 59 (0, 0)) := by rw [heap_setCell_same _ w1.heap.size 1 _ _ _ hrow]; rfl
              have z1 := JE.out.size
              have hz : Hid ((v4.setCell ⟨w1.heap.size, 1, none⟩ (.slice A4 (j + 1) c4)).heap[w.heap.size]? = some (.cells #[.slice none 0 0, .slice none 0 0, .slice none 0 0, .int .i64 0, .slice none 0 0, .int .i64 0, .bool false] 59 (0, 0))) := Lib.hid ((hG.block _ (by have := HX4.out.size; have := (Array.getElem?_eq_some_iff.1 JZ.out).1; omega) (fun e => by have h7 : w.heap.size = w1.heap.size := Option.some.inj e; have := Hgw.out; omega)).trans ((HX4.out.block _ (Array.getElem?_eq_some_iff.1 JZ.out).1).trans JZ.out))
              refine ⟨j + 1, dn, Ab2, cb2, A4, c4, bs2, by have := Hlt.out; omega, by go_num, Lib.hid (.of hR), Lib.hid ((JOb.out.ext HX4.out).grown hG (ownG_ne (JOb.out.ext HX4.out) hrow (by decide))), Lib.hid ?_, Lib.hid ((JBd.out.ext HX4.out).grown hG hrow (by decide)), Lib.hid ?_, Lib.hid ?_, hz, Lib.hid hEx⟩
              · rw [← HL1.out]
                exact (HO4.out.grown hG (ownG_ne HO4.out hrow (by decide))).mono z1
              · rw [JM.out, List.take_add_one, HFj.out, List.map_append, Hmb.out]
                rfl
              · intro i x hi hx
                by_cases hij : i < j
                · exact HL.out i x hij hx
                · obtain rfl : i = j := by omega
                  rw [HFj.out] at hx
                  injection hx with hx
                  rw [← hx]
                  exact HEE.out.symm
            case measure => simp [intOf]; have := Hlt.out; omega
      · have H9 := Lib.hid h9
        have e9 : (E == 0) = false := by simpa using h9
        go_wp2_with (first
          | (refine wpList_store_row rfl 59 _ _ rfl w.heap.size #[.slice none 0 0, .slice none 0 0, .slice none 0 0, .int .i64 0, .slice none 0 0, .int .i64 0, .bool false] rfl rfl 59 _ HZv.out (by kernel_rfl) rfl (by simp [Value.oneCell']) ?_)
          | fail)
        refine bodyPost_ret (results_row_tmp rfl _ _ w.heap.size 59 #[.slice none 0 0, .slice none 0 0, .slice none 0 0, .int .i64 0, .slice none 0 0, .int .i64 0, .bool false] (0, 0) _ (.int .i64 E) rfl rfl (setRow_heap _ _ _ _ 59 (0, 0) HZv.out) Try.underlying59 rfl (by kernel_rfl)) rfl ?_
        exact .inr ⟨j, _, HFj.out, HL.out, by rw [← HEE.out]; exact H9.out, by rw [← HEE.out], (HE.out.trans HX1.out).setRow (Nat.le_refl _) _⟩
    · obtain rfl : j = n := by omega
      clear hlt
      go_wp2_with (first
        | (refine wpList_load_row rfl 59 _ rfl w1.heap.size rfl 59 (rdC (.slice Ab j cb) (.slice Ad j cd) room 0) (0, 0) _ HA.out.row Try.underlying59 rfl (by kernel_rfl) ?_)
        | (refine wpList_store_row rfl 59 _ _ rfl w.heap.size (rdC (.slice Ab j cb) (.slice Ad j cd) room 0) rfl rfl 59 _ HZ.out (by kernel_rfl) rfl (by simp [rdC, Value.oneCell']) ?_)
        | fail)
      refine bodyPost_ret (results_row_tmp rfl _ _ w.heap.size 59 (rdC (.slice Ab j cb) (.slice Ad j cd) room 0) (0, 0) _ (.int .i64 0) rfl rfl (setRow_heap _ _ _ _ 59 (0, 0) HZ.out) Try.underlying59 rfl (by kernel_rfl)) rfl ?_
      have hG := grown_setRow wr w.heap.size (rdC (.slice Ab j cb) (.slice Ad j cd) room 0)
      have hM := HM.out
      rw [List.take_of_length_le (by rw [HFl.out]; exact Nat.le_refl _)] at hM
      refine .inl ⟨Ab, cb, Ad, cd, bs, rfl, fun i x hi hx => HL.out i x hi hx, HOb.out.grown hG (ownG_ne HOb.out HZ.out (by decide)), HBd.out.grown hG HZ.out (by decide), hM, HOd.out.grown hG (ownG_ne HOd.out HZ.out (by decide)), HE.out.setRow (Nat.le_refl _) _⟩

end Go.Proofs.Ytjckfbpdnpehcaa
