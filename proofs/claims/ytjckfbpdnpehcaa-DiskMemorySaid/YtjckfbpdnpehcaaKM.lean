import Derived.Test.YtjckfbpdnpehcaaKB
import Derived.Test.YtjckfbpdnpehcaaYDKE
import Derived.Test.YtjckfbpdnpehcaaZF

/-
  Layer 14: the document's list of all files.
-/
namespace Go.Proofs.Ytjckfbpdnpehcaa
open Go.RowKit Go.Maps Go.WideMaps
set_option maxRecDepth 100000

/-- The files of a directory. -/
def filesE (M : List (List Nat × Int)) (d : List (List UInt8 × Int)) : List (List UInt8 × List Nat) := d.map fun e => (e.1, (M.getD e.2.toNat ([], 0)).1)
/-- Bodies as they lie. -/
def bdM (bs : List (Sl × Int)) : List (List Nat × Int) := bs.map fun p => (p.1.body, p.2)
/-- The document's disk without changes: its bodies and its directory can be read. -/
structure RdD (w : World) (Ab : Option Addr) (nb : Nat) (bs : List (Sl × Int)) (Ad : Option Addr) (n : Nat) (d : List (List UInt8 × Int)) : Prop where
  rb : RdG shBd w Ab nb bs
  rbd : ∀ p ∈ bs, Rd .u8 w p.1.A p.1.body.length p.1.body ∧ p.1.body.length ≤ 140737488355328
  rd : RdG shE w Ad n d
  rid : ∀ e ∈ d, ∃ k : Nat, e.2 = (k : Int) ∧ k < nb
theorem RdD.ext {w w' : World} {Ab : Option Addr} {nb : Nat} {bs : List (Sl × Int)} {Ad : Option Addr} {n : Nat} {d : List (List UInt8 × Int)} (h : RdD w Ab nb bs Ad n d) (he : Ext w w') : RdD w' Ab nb bs Ad n d :=
  ⟨h.rb.ext he, fun p hp => ⟨(h.rbd p hp).1.ext he, (h.rbd p hp).2⟩, h.rd.ext he, h.rid⟩

theorem RdAt.pushed {T : Type} {sh : Shape T} {ty : TypeId} {V w5 : World} {g j base c' : Nat} {A' : Option Addr} {R : List T} {B D : Value} {room st : Int} (h : RdAt V g B D room st) (ho : OwnG sh ty V base A' c' R) (hT : 59 ≠ ty) (hg : V.grownBy w5 (Value.slice A' j c').ownBlock) : RdAt w5 g B D room st :=
  .of ((hg.block _ h.lt (fun e => by
    cases A' with
    | none => simp [Value.ownBlock] at e
    | some a =>
      simp only [Value.ownBlock] at e
      exact ownG_ne ho h.row hT a rfl e.symm)).trans h.row)

set_option maxHeartbeats 6400000 in
theorem rfiles_any {w : World} {Ab : Option Addr} {nb : Nat} {bs : List (Sl × Int)} {Ad : Option Addr} {n : Nat} {d : List (List UInt8 × Int)} (h : RdD w Ab nb bs Ad n d) (cb cd : Nat) (room st : Int) (hn : n ≤ 1000000) :
    Calls Try.prog 36 #[rdV (.slice Ab nb cb) (.slice Ad n cd) room st] w (FilesPost (filesE (bdM bs) d) w) := by
  unfold FilesPost
  have HD := Lib.hid h
  have Hl := Lib.hid h.rd.len
  obtain ⟨F, hF⟩ : ∃ F : List (List UInt8 × List Nat), F = filesE (bdM bs) d := ⟨_, rfl⟩
  have hFl : F.length = n := by rw [hF]; unfold filesE; rw [List.length_map]; exact h.rd.len
  rw [← hF, hFl]
  have HF := Lib.hid hF
  have HFl := Lib.hid hFl
  clear h hF hFl
  unfold rdV rdC
  have hat := Lib.hid (RdAt.new w (.slice Ab nb cb) (.slice Ad n cd) room st)
  have CN := rnow_any (w.alloc (.cells #[.slice Ab nb cb, (.slice Ad n cd), .slice none 0 0, .int .i64 room, .slice none 0 0, .int .i64 st, .bool false] 59)) (.slice Ab nb cb) (.slice Ad n cd) room st
  unfold rdV rdC at CN
  have CN := Lib.hid CN
  go_enter Try.func36, Try.ntmps36
  go_wp2_with (first
    | (refine wpList_load_row rfl 59 _ rfl w.heap.size rfl 59 _ (0, 0) _ hat.out.row Try.underlying59 rfl (by kernel_rfl) ?_)
    | fail)
  refine CN.out.mono ?_
  rintro e w1 ⟨rfl, he1⟩
  have HE1 := Lib.hid (((Ext.refl w).alloc _).trans he1)
  have HA1 := Lib.hid (hat.out.to he1)
  have hmade := OwnG.made (base := w.heap.size) shF 47 w1 HE1.out.size
  have Hmade := Lib.hid hmade
  have Hg : Hid (w.heap.size < w1.heap.size) := Lib.hid HA1.out.lt
  clear he1 CN hat hmade
  go_wp2_with fail
  go_loopw [4, 5] (fun v i wr => ∃ (j : Nat) (A' : Option Addr) (c' : Nat) (R' : List (List UInt8 × Sl)), j ≤ n ∧ i = .int .i64 (j : Int) ∧ v = .slice A' j c' ∧ Hid (R'.length = j) ∧ Hid ((R'.map fun r : List UInt8 × Sl => (r.1, r.2.body)) = F.take j) ∧ Hid (OwnG shF 47 wr w.heap.size A' c' R') ∧ Hid (Txts wr w.heap.size (R'.map fun r => r.2)) ∧ Hid (Ext w wr) ∧ Hid (RdAt wr w.heap.size (.slice Ab nb cb) (.slice Ad n cd) room st)) (fun _ i _ => n - (intOf i).toNat)
  case atStart => exact ⟨0, _, _, [], Nat.zero_le _, rfl, rfl, Lib.hid rfl, Lib.hid rfl, Hmade, Lib.hid (Txts.nil _ _), Lib.hid (HE1.out.alloc _), Lib.hid (HA1.out.to ((Ext.refl _).alloc _))⟩
  case round =>
    obtain ⟨j, A', c', R', hj, rfl, rfl, HR1, HR2, HO, HT, HE, HA⟩ := hrel
    by_cases hlt : j < n
    · obtain ⟨b, o, r, hA, hbl, hx, hcx⟩ := HD.out.rd.at_ hlt
      obtain ⟨k, hk, hkn⟩ := HD.out.rid r (List.mem_of_getElem? hx)
      have q0 : w.cell? ⟨b, o + j * 2, none⟩ = some (nm r.1) := by simpa [shE] using hcx 0 _ rfl
      have q1 : w.cell? ⟨b, o + j * 2 + 1, none⟩ = some (.int .i64 (k : Int)) := by rw [← hk]; simpa [shE] using hcx 1 _ rfl
      obtain ⟨b2, o2, s, hA2, hbl2, hx2, hcx2⟩ := HD.out.rb.at_ hkn
      have q2 : w.cell? ⟨b2, o2 + k * 2, none⟩ = some (.slice s.1.A s.1.body.length s.1.c) := by simpa [shBd, Sl.v] using hcx2 0 _ rfl
      rw [hA]
      obtain ⟨hb2, hb4⟩ := HD.out.rbd s (List.mem_of_getElem? hx2)
      have HFj : Hid (F[j]? = some (r.1, s.1.body)) := Lib.hid (by
        rw [HF.out]; unfold filesE bdM
        rw [List.getElem?_map, hx]
        simp only [Option.map_some, hk, Int.toNat_natCast, List.getD_eq_getElem?_getD, List.getElem?_map, hx2, Option.getD_some])
      obtain ⟨mb, hmb⟩ : ∃ m, m = s.1.body.length := ⟨_, rfl⟩
      rw [← hmb] at q2 hb2 hb4
      have HF9 : Hid (∀ W, Ext w W → W.cell? ⟨b, o + j * 2, none⟩ = some (nm r.1) ∧ W.cell? ⟨b, o + j * 2 + 1, none⟩ = some (.int .i64 (k : Int)) ∧ W.cell? ⟨b2, o2 + k * 2, none⟩ = some (.slice s.1.A mb s.1.c)) := Lib.hid (fun W hW => ⟨(Below.cell hW (p := ⟨b, o + j * 2, none⟩) hbl).trans q0, (Below.cell hW (p := ⟨b, o + j * 2 + 1, none⟩) hbl).trans q1, (Below.cell hW (p := ⟨b2, o2 + k * 2, none⟩) hbl2).trans q2⟩)
      have HC9 : Hid (∀ W, Ext wr W → W.cell? ⟨w.heap.size, 0, none⟩ = some (.slice (some ⟨b2, o2, none⟩) nb cb)) := Lib.hid (fun W hW => by rw [← hA2]; exact (HA.out.to hW).c0)
      have CC : Hid (∀ W, Ext w W → Calls Try.prog 12 #[.slice s.1.A mb s.1.c] W fun e w' => ∃ A' c', e = .returned (.slice A' mb c') ∧ Own .u8 5 w' W.heap.size A' c' s.1.body ∧ Ext W w') := Lib.hid (fun W hW => copy_any s.1.A mb s.1.c _ W (hb2.ext hW) hb4)
      have HPu : Hid (∀ (v4 w5 : World) (ob : Obj), Ext wr v4 → (v4.alloc ob).grownBy w5 (Value.slice A' j c').ownBlock → RdAt w5 w.heap.size (.slice Ab nb cb) (.slice Ad n cd) room st) := Lib.hid (fun v4 w5 ob hx hg => ((HA.out.to hx).to ((Ext.refl _).alloc ob)).pushed ((HO.out.ext hx).ext ((Ext.refl _).alloc ob)) (by decide) hg)
      have Hmb := Lib.hid hmb
      have HA2 := Lib.hid hA2
      have HAd := Lib.hid hA
      have Hlt := Lib.hid hlt
      have hbd : ((j + 1) + (j + 1) / 4 + 192) * 40 ≤ 281474976710656 := by clear hmb hb4; omega
      clear hA hA2 hbl hx hcx q0 q1 q2 hb2 hmb hlt hbl2 hx2 hcx2 hk
      go_wp2_with fail
      go_region_held3 (fun W => W.cell? ⟨b, o + j * 2, none⟩ = some (nm r.1) ∧ W.cell? ⟨b, o + j * 2 + 1, none⟩ = some (.int .i64 (k : Int)) ∧ W.cell? ⟨b2, o2 + k * 2, none⟩ = some (.slice s.1.A mb s.1.c) ∧ W.cell? ⟨w.heap.size, 0, none⟩ = some (.slice (some ⟨b2, o2, none⟩) nb cb))
        (first
          | exact ⟨(HF9.out _ HE.out.drew).1, (HF9.out _ HE.out.drew).2.1, (HF9.out _ HE.out.drew).2.2, HC9.out _ (Ext.refl _).drew⟩
          | exact ⟨(HF9.out _ HX4.out).1, (HF9.out _ HX4.out).2.1, (HF9.out _ HX4.out).2.2, HC9.out _ HX04.out⟩
          | exact ⟨(HF9.out _ (HX4.out.alloc _)).1, (HF9.out _ (HX4.out.alloc _)).2.1, (HF9.out _ (HX4.out.alloc _)).2.2, HC9.out _ (HX04.out.alloc _)⟩
          | exact ⟨(HF9.out _ HX5.out).1, (HF9.out _ HX5.out).2.1, (HF9.out _ HX5.out).2.2, HC5.out⟩
          | fail)
        (first
          | (go_at_call 12; refine (CC.out _ HE.out.drew).mono ?_; rintro e v4 ⟨A4, c4, rfl, ho4, he4⟩; have HO4 := Lib.hid ho4; have HX4 : Hid (Ext w v4) := Lib.hid (HE.out.drew.trans he4); have HX04 : Hid (Ext wr v4) := Lib.hid ((Ext.refl wr).drew.trans he4); clear ho4 he4)
          | (refine step_pushG (w0 := w) (base := w.heap.size) shF (r.1, ⟨A4, c4, s.1.body⟩) 47 (by rfl) _ _ 51 (by rfl) _ 40 Try.underlying51 Try.infoFl rfl (by decide) ((HO.out.ext HX04.out).ext ((Ext.refl _).alloc _)) j HR1.out (by rfl) (by rfl) (by rw [show (shF.cells (r.1, ⟨A4, c4, s.1.body⟩)).toArray = #[nm r.1, .slice A4 mb c4] from by rw [Hmb.out]; rfl]; exact heap_alloc_new _ _) hbd (by omega) (HX4.out.alloc _) (by simp; have := HX4.out.size; omega) ?_; intro A5 c5 w5 ho5 hg5 hb5 _; have HO5 := Lib.hid ho5; have HX5 : Hid (Ext w w5) := Lib.hid hb5; have HG5 := Lib.hid hg5; have HA5 := Lib.hid (HPu.out _ _ _ HX04.out hg5); have HC5 : Hid (w5.cell? ⟨w.heap.size, 0, none⟩ = some (.slice (some ⟨b2, o2, none⟩) nb cb)) := Lib.hid (by rw [← HA2.out]; exact HA5.out.c0); clear ho5 hg5 hb5)
          | fail)
      go_wp2_with fail
      go_roundw
      case rel =>
        have hga := (World.grownBy_alloc v4 (.cells #[nm r.1, .slice A4 mb c4] 47) (Value.slice A' j c').ownBlock).trans HG5.out
        have hTs : Txts v4 w.heap.size ((R' ++ [((r.1, (⟨A4, c4, s.1.body⟩ : Sl)) : List UInt8 × Sl)]).map fun r : List UInt8 × Sl => r.2) := by
          rw [List.map_append]
          exact (HT.out.ext HX04.out).snoc (s := ⟨A4, c4, s.1.body⟩) HO4.out (Nat.le_trans HE.out.size (by first | exact Nat.le_refl _ | omega)) (fun t ht p hp => Nat.lt_of_lt_of_le (HT.out.lt t ht p hp) (Nat.le_refl _))
        have hT5 : Txts w5 w.heap.size ((R' ++ [((r.1, (⟨A4, c4, s.1.body⟩ : Sl)) : List UInt8 × Sl)]).map fun r : List UInt8 × Sl => r.2) := hTs.grownF (HO.out.ext HX04.out) (by rw [HR1.out]; exact hga)
        refine ⟨j + 1, A5, c5, R' ++ [(r.1, ⟨A4, c4, s.1.body⟩)], by have := Hlt.out; omega, by go_num, rfl, Lib.hid (by rw [List.length_append, HR1.out]; rfl), Lib.hid ?_, Lib.hid HO5.out, Lib.hid hT5, Lib.hid HX5.out, by rw [← HAd.out]; exact HA5⟩
        rw [List.map_append, HR2.out, List.take_add_one, HFj.out]
        rfl
      case measure => simp [intOf]; have := Hlt.out; omega
    · obtain rfl : j = n := by omega
      have hfull : F.take j = F := List.take_of_length_le (by rw [HFl.out]; exact Nat.le_refl _)
      have hR2 := HR2.out
      rw [hfull] at hR2
      have HR3 := Lib.hid hR2
      clear hlt hfull hR2
      go_wp2
      go_ret
      exact ⟨A', c', R', rfl, HR3.out, HO.out, HT.out, HE.out⟩

end Go.Proofs.Ytjckfbpdnpehcaa

/-
  Layer 14: the document's bytes in use; its disk with another file.
-/
namespace Go.Proofs.Ytjckfbpdnpehcaa
open Go.RowKit Go.Maps Go.WideMaps
set_option maxRecDepth 100000

def usedE (M : List (List Nat × Int)) (d : List (List UInt8 × Int)) : Nat := (d.map fun e => (M.getD e.2.toNat ([], 0)).1.length).sum
theorem usedE_le {M : List (List Nat × Int)} {m : Nat} (hm : ∀ p ∈ M, p.1.length ≤ m) : ∀ d : List (List UInt8 × Int), usedE M d ≤ d.length * m
  | [] => Nat.zero_le _
  | e :: r => by
    have ih := usedE_le hm r
    have h1 : (M.getD e.2.toNat ([], 0)).1.length ≤ m := by
      rw [List.getD_eq_getElem?_getD]
      cases h : M[e.2.toNat]? with
      | none => exact Nat.zero_le _
      | some p => exact hm p (List.mem_of_getElem? h)
    unfold usedE at ih ⊢
    rw [List.map_cons, List.sum_cons, List.length_cons, Nat.succ_mul]
    omega
theorem usedE_snoc (M : List (List Nat × Int)) (d : List (List UInt8 × Int)) (e : List UInt8 × Int) : usedE M (d ++ [e]) = usedE M d + (M.getD e.2.toNat ([], 0)).1.length := by
  unfold usedE; rw [List.map_append, List.sum_append]; simp

set_option maxHeartbeats 6400000 in
theorem rused_any {w : World} {Ab : Option Addr} {nb : Nat} {bs : List (Sl × Int)} {Ad : Option Addr} {n : Nat} {d : List (List UInt8 × Int)} (h : RdD w Ab nb bs Ad n d) (cb cd : Nat) (room st : Int) (hn : n ≤ 1000) :
    Calls Try.prog 89 #[rdV (.slice Ab nb cb) (.slice Ad n cd) room st] w fun e w' => e = .returned (.int .i64 (usedE (bdM bs) d : Int)) ∧ Ext w w' := by
  have HD := Lib.hid h
  have Hl := Lib.hid h.rd.len
  have HU : Hid (∀ j, j ≤ n → usedE (bdM bs) (d.take j) ≤ 1000 * 140737488355328) := Lib.hid (fun j hj => Nat.le_trans (usedE_le (m := 140737488355328) (fun p hp => by
    unfold bdM at hp
    obtain ⟨q, hq, rfl⟩ := List.mem_map.1 hp
    exact (h.rbd q hq).2) _) (Nat.mul_le_mul_right _ (by rw [List.length_take]; omega)))
  obtain ⟨Z, hZ⟩ : ∃ Z, Z = usedE (bdM bs) d := ⟨_, rfl⟩
  rw [← hZ]
  have HZ := Lib.hid hZ
  clear h hZ
  unfold rdV rdC
  have hat := Lib.hid (RdAt.new w (.slice Ab nb cb) (.slice Ad n cd) room st)
  have CN := rnow_any (w.alloc (.cells #[.slice Ab nb cb, (.slice Ad n cd), .slice none 0 0, .int .i64 room, .slice none 0 0, .int .i64 st, .bool false] 59)) (.slice Ab nb cb) (.slice Ad n cd) room st
  unfold rdV rdC at CN
  have CN := Lib.hid CN
  go_enter Try.func89, Try.ntmps89
  go_wp2_with (first
    | (refine wpList_load_row rfl 59 _ rfl w.heap.size rfl 59 _ (0, 0) _ hat.out.row Try.underlying59 rfl (by kernel_rfl) ?_)
    | fail)
  refine CN.out.mono ?_
  rintro e w1 ⟨rfl, he1⟩
  have HE1 := Lib.hid (((Ext.refl w).alloc _).trans he1)
  have HA1 := Lib.hid (hat.out.to he1)
  clear he1 CN hat
  go_wp2_with fail
  go_loopw [4, 5] (fun u i wr => ∃ (j U : Nat), j ≤ n ∧ i = .int .i64 (j : Int) ∧ u = .int .i64 (U : Int) ∧ Hid (U = usedE (bdM bs) (d.take j)) ∧ Hid (Ext w wr) ∧ Hid (RdAt wr w.heap.size (.slice Ab nb cb) (.slice Ad n cd) room st)) (fun _ i _ => n - (intOf i).toNat)
  case atStart => exact ⟨0, 0, Nat.zero_le _, rfl, rfl, Lib.hid rfl, HE1, HA1⟩
  case round =>
    obtain ⟨j, U, hj, rfl, rfl, HUj, HE, HA⟩ := hrel
    by_cases hlt : j < n
    · obtain ⟨b, o, r, hA, hbl, hx, hcx⟩ := HD.out.rd.at_ hlt
      obtain ⟨k, hk, hkn⟩ := HD.out.rid r (List.mem_of_getElem? hx)
      have q1 : w.cell? ⟨b, o + j * 2 + 1, none⟩ = some (.int .i64 (k : Int)) := by rw [← hk]; simpa [shE] using hcx 1 _ rfl
      obtain ⟨b2, o2, s, hA2, hbl2, hx2, hcx2⟩ := HD.out.rb.at_ hkn
      have q2 : w.cell? ⟨b2, o2 + k * 2, none⟩ = some (.slice s.1.A s.1.body.length s.1.c) := by simpa [shBd, Sl.v] using hcx2 0 _ rfl
      rw [hA]
      obtain ⟨_, hb4⟩ := HD.out.rbd s (List.mem_of_getElem? hx2)
      have hMk : (bdM bs).getD r.2.toNat ([], 0) = (s.1.body, s.2) := by
        rw [hk, Int.toNat_natCast, List.getD_eq_getElem?_getD]
        unfold bdM
        rw [List.getElem?_map, hx2]
        rfl
      obtain ⟨mb, hmb⟩ : ∃ m, m = s.1.body.length := ⟨_, rfl⟩
      rw [← hmb] at q2 hb4
      have HU2 : Hid (U + mb = usedE (bdM bs) (d.take (j + 1))) := Lib.hid (by rw [List.take_add_one, hx, Option.toList_some, usedE_snoc, hMk, HUj.out, hmb])
      have hUb : U + mb ≤ 1000 * 140737488355328 := by rw [HU2.out]; exact HU.out _ hlt
      have hw1 : IntKind.i64.wrap ((U : Int) + (mb : Int)) = (U : Int) + (mb : Int) := IntWalk.i64_in _ (by omega)
      have HF9 : Hid (∀ W, Ext w W → W.cell? ⟨b, o + j * 2 + 1, none⟩ = some (.int .i64 (k : Int)) ∧ W.cell? ⟨b2, o2 + k * 2, none⟩ = some (.slice s.1.A mb s.1.c)) := Lib.hid (fun W hW => ⟨(Below.cell hW (p := ⟨b, o + j * 2 + 1, none⟩) hbl).trans q1, (Below.cell hW (p := ⟨b2, o2 + k * 2, none⟩) hbl2).trans q2⟩)
      have HC9 : Hid (∀ W, Ext wr W → W.cell? ⟨w.heap.size, 0, none⟩ = some (.slice (some ⟨b2, o2, none⟩) nb cb)) := Lib.hid (fun W hW => by rw [← hA2]; exact (HA.out.to hW).c0)
      have Hlt := Lib.hid hlt
      have HAd := Lib.hid hA
      clear hA hbl hx hcx q1 q2 hmb hlt hbl2 hx2 hcx2 hk hA2 hMk hUb
      go_wp2_with fail
      go_region_held3 (fun W => W.cell? ⟨b, o + j * 2 + 1, none⟩ = some (.int .i64 (k : Int)) ∧ W.cell? ⟨b2, o2 + k * 2, none⟩ = some (.slice s.1.A mb s.1.c) ∧ W.cell? ⟨w.heap.size, 0, none⟩ = some (.slice (some ⟨b2, o2, none⟩) nb cb))
        (exact ⟨(HF9.out _ HE.out.drew).1, (HF9.out _ HE.out.drew).2, HC9.out _ (Ext.refl _).drew⟩)
        (fail)
      go_wp2_with fail
      go_roundw
      case rel => exact ⟨j + 1, U + mb, by have := Hlt.out; omega, by go_num, by go_num, HU2, Lib.hid HE.out.drew, by rw [← HAd.out]; exact Lib.hid (HA.out.to (Ext.refl _).drew)⟩
      case measure => simp [intOf]; have := Hlt.out; omega
    · obtain rfl : j = n := by omega
      have hU := HUj.out
      rw [List.take_of_length_le (by rw [Hl.out]; exact Nat.le_refl _), ← HZ.out] at hU
      subst hU
      clear hlt
      go_wp2_with fail
      go_ret
      exact ⟨rfl, HE.out⟩

set_option maxHeartbeats 6400000 in
theorem rset_any {w : World} {A : Option Addr} {n c : Nat} {bs : List (Sl × Int)} (h : RdG shBd w A n bs) (DA : Option Addr) (dn dc : Nat) (room st : Int) (SA : Option Addr) (sn sc : Nat) (s : Sl) (hs : s.v = .slice SA sn sc) (k : Int) (id : Nat) (hid : id < n) (hn : n ≤ 1000000) :
    Calls Try.prog 90 #[.agg #[.slice A n c, .slice DA dn dc, .slice none 0 0, .int .i64 room, .slice none 0 0, .int .i64 st, .bool false], .int .i64 (id : Int), .agg #[.slice SA sn sc, .int .i64 k]] w fun e w' =>
      ∃ A' c', e = .returned (.agg #[.slice A' n c', .slice DA dn dc, .slice none 0 0, .int .i64 room, .slice none 0 0, .int .i64 st, .bool false]) ∧ OwnG shBd 77 w' w.heap.size A' c' (bs.set id (s, k)) ∧ Ext w w' := by
  obtain ⟨w3, hw3⟩ : ∃ w3, w3 = ((w.alloc (.cells #[.slice A n c, .slice DA dn dc, .slice none 0 0, .int .i64 room, .slice none 0 0, .int .i64 st, .bool false] 59)).alloc (.cells #[.slice SA sn sc, .int .i64 k] 77)).alloc (.cells #[.slice none 0 0, .slice none 0 0, .slice none 0 0, .int .i64 0, .slice none 0 0, .int .i64 0, .bool false] 59) := ⟨_, rfl⟩
  have hE3 : Ext w w3 := by rw [hw3]; exact (((Ext.refl w).alloc _).alloc _).alloc _
  have hz3 : w3.heap.size = w.heap.size + 3 := by rw [hw3]; simp
  have r1 : RdAt w3 w.heap.size (.slice A n c) (.slice DA dn dc) room st := by
    rw [hw3]; exact ((RdAt.new w (.slice A n c) (.slice DA dn dc) room st).to ((Ext.refl _).alloc _)).to ((Ext.refl _).alloc _)
  have r2 : w3.heap[w.heap.size + 1]? = some (.cells #[.slice SA sn sc, .int .i64 k] 77 (0, 0)) := by
    rw [hw3]
    refine (heap_alloc_old _ _ (by simp)).trans ?_
    have := heap_alloc_new (w.alloc (.cells #[.slice A n c, .slice DA dn dc, .slice none 0 0, .int .i64 room, .slice none 0 0, .int .i64 st, .bool false] 59)) (.cells #[.slice SA sn sc, .int .i64 k] 77)
    simpa using this
  have r3 : w3.heap[w.heap.size + 2]? = some (.cells #[.slice none 0 0, .slice none 0 0, .slice none 0 0, .int .i64 0, .slice none 0 0, .int .i64 0, .bool false] 59 (0, 0)) := by
    rw [hw3]
    have := heap_alloc_new ((w.alloc (.cells #[.slice A n c, .slice DA dn dc, .slice none 0 0, .int .i64 room, .slice none 0 0, .int .i64 st, .bool false] 59)).alloc (.cells #[.slice SA sn sc, .int .i64 k] 77)) (.cells #[.slice none 0 0, .slice none 0 0, .slice none 0 0, .int .i64 0, .slice none 0 0, .int .i64 0, .bool false] 59)
    simpa using this
  have HR : Hid (∀ W, Ext w3 W → RdAt W w.heap.size (.slice A n c) (.slice DA dn dc) room st ∧ W.heap[w.heap.size + 1]? = some (.cells #[.slice SA sn sc, .int .i64 k] 77 (0, 0)) ∧ W.heap[w.heap.size + 2]? = some (.cells #[.slice none 0 0, .slice none 0 0, .slice none 0 0, .int .i64 0, .slice none 0 0, .int .i64 0, .bool false] 59 (0, 0))) :=
    Lib.hid (fun W hW => ⟨r1.to hW, (hW.block _ (by omega)).trans r2, (hW.block _ (by omega)).trans r3⟩)
  have HD := Lib.hid (h.ext hE3)
  have Hl := Lib.hid h.len
  have HE3 := Lib.hid hE3
  have Hz3 := Lib.hid hz3
  have hmade := OwnG.made (base := w3.heap.size) shBd 77 w3 (Nat.le_refl _)
  rw [show (some (⟨w3.heap.size, 0, none⟩ : Addr)) = some ⟨w.heap.size + 1 + 1 + 1, 0, none⟩ from by rw [hz3]] at hmade
  have Hmade := Lib.hid hmade
  have Hs := Lib.hid hs
  have HW3 := Lib.hid hw3
  obtain ⟨L, hL⟩ : ∃ L, L = bs.set id (s, k) := ⟨_, rfl⟩
  have HL := Lib.hid hL
  have Hll : Hid (L.length = n) := Lib.hid (by rw [hL, List.length_set]; exact h.len)
  have Hid2 := Lib.hid hid
  rw [← hL]
  clear h hE3 hz3 r1 r2 r3 hmade hs hL hid
  go_enter Try.func90, Try.ntmps90
  go_wp2_with fail
  rw [← HW3.out]
  clear hw3
  go_loopw [7, 8] (fun v i wr => ∃ (j : Nat) (A' : Option Addr) (c' : Nat), j ≤ n ∧ i = .int .i64 (j : Int) ∧ v = .slice A' j c' ∧ Hid (OwnG shBd 77 wr w3.heap.size A' c' (L.take j)) ∧ Hid (Ext w3 wr)) (fun _ i _ => n - (intOf i).toNat)
  case atStart => exact ⟨0, _, _, Nat.zero_le _, rfl, rfl, Hmade, Lib.hid ((Ext.refl w3).alloc _)⟩
  case round =>
    obtain ⟨j, A', c', hj, rfl, rfl, HO, HE⟩ := hrel
    have HM : Hid ((L.take j).length = j) := Lib.hid (by rw [List.length_take, Hll.out]; omega)
    obtain ⟨hr1, hr2, hr3⟩ := HR.out wr HE.out
    have q0 := hr1.c0
    have hbd : ((j + 1) + (j + 1) / 4 + 192) * 32 ≤ 281474976710656 := bd32 (by omega)
    by_cases hlt : j < n
    · by_cases hji : j = id
      · have htk : Hid (L.take (j + 1) = L.take j ++ [(s, k)]) := Lib.hid (by
          rw [List.take_add_one, HL.out, List.getElem?_set, if_pos hji.symm, if_pos (by rw [Hl.out]; omega)]; rfl)
        have d0 : wr.cell? ⟨w.heap.size + 1, 0, none⟩ = some (.slice SA sn sc) := cell_of_row wr _ 0 _ _ (0, 0) hr2
        have d1 : wr.cell? ⟨w.heap.size + 1, 1, none⟩ = some (.int .i64 k) := cell_of_row wr _ 1 _ _ (0, 0) hr2
        have e1 : ((j : Int) == (id : Int)) = true := by simp [hji]
        have Hlt := Lib.hid hlt
        clear hlt hji hr1 hr2 hr3
        go_wp2_with (at_builtin; refine wpList_pushG (w0 := w3) (base := w3.heap.size) shBd (s, k) 77 rfl _ _ 55 rfl _ 32 Try.underlying55 Try.infoBd rfl (by decide) (HO.out.ext ((Ext.refl _).alloc _)) j HM.out rfl rfl (by rw [show (shBd.cells (s, k)).toArray = #[.slice SA sn sc, .int .i64 k] from by rw [← Hs.out]; rfl]; exact heap_alloc_new _ _) hbd (by omega) (HE.out.alloc _) (by simp; have := HE.out.size; omega) ?_; intro A5 c5 w5 ho5 _ hb5 _)
        go_roundw
        case rel => exact ⟨j + 1, A5, c5, by have := Hlt.out; omega, by go_num, rfl, Lib.hid (by rw [htk.out]; exact ho5), Lib.hid hb5⟩
        case measure => simp [intOf]; have := Hlt.out; omega
      · obtain ⟨b, o, e, hA, hbl, hx, hcx⟩ := (HD.out.ext HE.out).at_ hlt
        obtain ⟨y, z⟩ := e
        have c0 : wr.cell? ⟨b, o + j * 2, none⟩ = some y.v := by simpa [shBd] using hcx 0 _ rfl
        have c1 : wr.cell? ⟨b, o + j * 2 + 1, none⟩ = some (.int .i64 z) := by simpa [shBd] using hcx 1 _ rfl
        rw [hA] at q0
        obtain ⟨ys, hys⟩ : ∃ ys, ys = y.v := ⟨_, rfl⟩
        rw [← hys] at c0
        have Hys := Lib.hid hys
        have Hlt := Lib.hid hlt
        have htk : Hid (L.take (j + 1) = L.take j ++ [(y, z)]) := Lib.hid (by
          rw [List.take_add_one, HL.out, List.getElem?_set, if_neg (fun q => hji q.symm), hx]; rfl)
        have hone : ys.oneCell' = true := by rw [hys]; rfl
        have e1 : ((j : Int) == (id : Int)) = false := beq_eq_false_iff_ne.2 (by omega)
        clear hA hbl hx hcx hlt hr1 hr2 hr3 hys hji
        go_wp2_with (at_builtin; refine wpList_pushG (w0 := w3) (base := w3.heap.size) shBd (y, z) 77 rfl _ _ 55 rfl _ 32 Try.underlying55 Try.infoBd rfl (by decide) (HO.out.ext ((Ext.refl _).alloc _)) j HM.out rfl rfl (by rw [show (shBd.cells (y, z)).toArray = #[ys, .int .i64 z] from by rw [Hys.out]; rfl]; exact heap_alloc_new _ _) hbd (by omega) (HE.out.alloc _) (by simp; have := HE.out.size; omega) ?_; intro A5 c5 w5 ho5 _ hb5 _)
        go_roundw
        case rel => exact ⟨j + 1, A5, c5, by have := Hlt.out; omega, by go_num, rfl, Lib.hid (by rw [htk.out]; exact ho5), Lib.hid hb5⟩
        case measure => simp [intOf]; have := Hlt.out; omega
    · obtain rfl : j = n := by omega
      have hfull : L.take j = L := List.take_of_length_le (by rw [Hll.out]; exact Nat.le_refl _)
      rw [hfull] at HO HM
      have hfr : wr.frozen? ⟨w.heap.size, 0, none⟩ = false := by simp [World.frozen?, hr1.row]
      have HS5 : Hid ((wr.setCell ⟨w.heap.size, 0, none⟩ (.slice A' j c')).heap[w.heap.size]? = some (.cells #[.slice A' j c', .slice DA dn dc, .slice none 0 0, .int .i64 room, .slice none 0 0, .int .i64 st, .bool false] 59 (0, 0))) := Lib.hid (by rw [heap_setCell_same _ w.heap.size 0 _ _ _ hr1.row]; (try rfl))
      have HT5 : Hid ((wr.setCell ⟨w.heap.size, 0, none⟩ (.slice A' j c')).heap[w.heap.size + 1 + 1]? = some (.cells #[.slice none 0 0, .slice none 0 0, .slice none 0 0, .int .i64 0, .slice none 0 0, .int .i64 0, .bool false] 59 (0, 0))) := Lib.hid (((setCell_grown wr ⟨w.heap.size, 0, none⟩ (.slice A' j c')).block _ (Array.getElem?_eq_some_iff.1 hr3).1 (fun e => by have h9 : w.heap.size + 1 + 1 = w.heap.size := Option.some.inj e; omega)).trans hr3)
      clear hlt hfull hr1 hr2 hr3
      go_wp2_with (first
        | (refine wpList_load_row rfl 59 _ rfl w.heap.size rfl 59 _ (0, 0) _ HS5.out Try.underlying59 rfl (by kernel_rfl) ?_)
        | (refine wpList_store_row rfl 59 _ _ rfl (w.heap.size + 1 + 1) #[.slice A' j c', .slice DA dn dc, .slice none 0 0, .int .i64 room, .slice none 0 0, .int .i64 st, .bool false] rfl rfl 59 _ HT5.out (by kernel_rfl) rfl (by simp [Value.oneCell']) ?_)
        | fail)
      refine bodyPost_ret (results_cell_row rfl _ _ (w.heap.size + 1 + 1) 59 #[.slice A' j c', .slice DA dn dc, .slice none 0 0, .int .i64 room, .slice none 0 0, .int .i64 st, .bool false] (0, 0) _ rfl (setRow_heap _ _ _ _ 59 (0, 0) HT5.out) Try.underlying59 rfl (by kernel_rfl)) rfl ?_
      have hO := (HO.out.grown (setCell_grown wr ⟨w.heap.size, 0, none⟩ (.slice A' j c')) (fun a ha e => by have h1 := (HO.out.block a ha).1; have h9 : a.block = w.heap.size := Option.some.inj e; have := Hz3.out; omega))
      have hO2 := hO.grown (grown_setRow _ (w.heap.size + 1 + 1) #[.slice A' j c', .slice DA dn dc, .slice none 0 0, .int .i64 room, .slice none 0 0, .int .i64 st, .bool false]) (fun a ha e => by have h1 := (HO.out.block a ha).1; have h9 : a.block = w.heap.size + 1 + 1 := Option.some.inj e; have := Hz3.out; omega)
      exact ⟨A', c', rfl, hO2.mono HE3.out.size, ((HE3.out.trans HE.out).setCell (Nat.le_refl _) _).setRow (by omega) _⟩

end Go.Proofs.Ytjckfbpdnpehcaa

/-
  Layer 14: the document's append.
-/
namespace Go.Proofs.Ytjckfbpdnpehcaa
open Go.RowKit Go.Maps Go.WideMaps
set_option maxRecDepth 100000

/-- An append: the error's number, the bodies behind it. -/
def doE (x : List UInt8) (ys : List Nat) (room : Int) (M : List (List Nat × Int)) (d : List (List UInt8 × Int)) : Int × List (List Nat × Int) :=
  if findE x d < 0 then (143, M) else if room - (usedE M d : Int) < (ys.length : Int) then (142, M) else (0, M.set (findE x d).toNat ((M.getD (findE x d).toNat ([], 0)).1 ++ ys, (M.getD (findE x d).toNat ([], 0)).2))
/-- Each body's bytes are bytes, and at most so many are safe. -/
def BdS (bs : List (Sl × Int)) : Prop := ∀ p ∈ bs, U8 p.1.body ∧ ∃ s : Nat, p.2 = (s : Int) ∧ s ≤ p.1.body.length
theorem findE_id {x : List UInt8} {d : List (List UInt8 × Int)} {nb : Nat} (h : ∀ e ∈ d, ∃ k : Nat, e.2 = (k : Int) ∧ k < nb) : findE x d = -1 ∨ ∃ k : Nat, findE x d = (k : Int) ∧ k < nb := by
  unfold findE
  split
  · rename_i e he
    exact .inr (h e (List.mem_of_find?_eq_some he))
  · exact .inl rfl
theorem usedE_ge {M : List (List Nat × Int)} {k : Nat} : ∀ {d : List (List UInt8 × Int)} {e : List UInt8 × Int}, e ∈ d → e.2 = (k : Int) → (M.getD k ([], 0)).1.length ≤ usedE M d
  | a :: r, e, he, hk => by
    unfold usedE
    rw [List.map_cons, List.sum_cons]
    rcases List.mem_cons.1 he with rfl | he
    · rw [hk, Int.toNat_natCast]; exact Nat.le_add_right _ _
    · exact Nat.le_trans (usedE_ge he hk) (Nat.le_add_left _ _)
theorem findE_mem {x : List UInt8} {d : List (List UInt8 × Int)} {k : Nat} (h : findE x d = (k : Int)) : ∃ e ∈ d, e.2 = (k : Int) := by
  unfold findE at h
  split at h
  · rename_i e he
    exact ⟨e, List.mem_of_find?_eq_some he, h⟩
  · omega
theorem bdM_set (bs : List (Sl × Int)) (i : Nat) (p : Sl × Int) : bdM (bs.set i p) = (bdM bs).set i (p.1.body, p.2) := by unfold bdM; rw [List.map_set]

/-- None of these rows lies in block g. -/
structure Av (g : Nat) (Ab : Option Addr) (nb : Nat) (bs : List (Sl × Int)) (Ad : Option Addr) (n : Nat) : Prop where
  b : 0 < nb → ∀ a, Ab = some a → a.block ≠ g
  p : ∀ p ∈ bs, 0 < p.1.body.length → ∀ a, p.1.A = some a → a.block ≠ g
  d : 0 < n → ∀ a, Ad = some a → a.block ≠ g
theorem RdD.av {w : World} {Ab : Option Addr} {nb : Nat} {bs : List (Sl × Int)} {Ad : Option Addr} {n : Nat} {d : List (List UInt8 × Int)} (h : RdD w Ab nb bs Ad n d) {g : Nat} (hg : w.heap.size ≤ g) : Av g Ab nb bs Ad n :=
  ⟨fun h0 a ha => by have := h.rb.lt h0 a ha; omega, fun p hp h0 a ha => by have := (h.rbd p hp).1.lt h0 a ha; omega, fun h0 a ha => by have := h.rd.lt h0 a ha; omega⟩
theorem RdG.grown0 {T : Type} {sh : Shape T} {w w' : World} {A : Option Addr} {n : Nat} {xs : List T} (h : RdG sh w A n xs) {g : Nat} (hg : w.grownBy w' (some g)) (hne : 0 < n → ∀ a, A = some a → a.block ≠ g) : RdG sh w' A n xs := by
  by_cases hn : 0 < n
  · exact h.fr hg.size (fun a e hl => hg.block _ hl (fun q => hne hn a e (Option.some.inj q)))
  · exact ⟨h.1, fun h0 => absurd h0 hn⟩
theorem RdD.grown {w w' : World} {Ab : Option Addr} {nb : Nat} {bs : List (Sl × Int)} {Ad : Option Addr} {n : Nat} {d : List (List UInt8 × Int)} (h : RdD w Ab nb bs Ad n d) {g : Nat} (ha : Av g Ab nb bs Ad n) (hg : w.grownBy w' (some g)) : RdD w' Ab nb bs Ad n d :=
  ⟨h.rb.grown0 hg ha.b, fun p hp => ⟨(h.rbd p hp).1.grown0 hg (fun h0 a e q => ha.p p hp h0 a e (Option.some.inj q)), (h.rbd p hp).2⟩, h.rd.grown0 hg ha.d, h.rid⟩

/-- What the document's append leaves. -/
def RDoPost (x : List UInt8) (ys : List Nat) (Ab : Option Addr) (nb : Nat) (bs : List (Sl × Int)) (Ad : Option Addr) (n cd : Nat) (d : List (List UInt8 × Int)) (room st : Int) (w : World) (e : Ending) (w' : World) : Prop :=
  ∃ A' c' bs' r, e = .returned (.tuple #[rdV (.slice A' nb c') (.slice Ad n cd) room st, .int .i64 r]) ∧ RdD w' A' nb bs' Ad n d ∧ BdS bs' ∧ (r, bdM bs') = doE x ys room (bdM bs) d ∧ (∀ g, g < w.heap.size → Av g Ab nb bs Ad n → Av g A' nb bs' Ad n) ∧ Ext w w'

set_option maxHeartbeats 12800000 in
theorem rdo_any {w : World} {Ab : Option Addr} {nb : Nat} {bs : List (Sl × Int)} {Ad : Option Addr} {n : Nat} {d : List (List UInt8 × Int)} (h : RdD w Ab nb bs Ad n d) (hs : BdS bs) (cb cd : Nat) (room st : Int) (hr : 0 ≤ room ∧ room ≤ 16777216) (x : List UInt8) (A : Option Addr) (m c : Nat) (ys : List Nat) (hy : Rd .u8 w A m ys) (hu : U8 ys) (hm : m ≤ 140737488355328) (hn : n ≤ 1000) (hnb : nb ≤ 1000000) :
    Calls Try.prog 71 #[rdV (.slice Ab nb cb) (.slice Ad n cd) room st, .int .i64 2, nm x, .string ⟨#[]⟩, .slice A m c] w (RDoPost x ys Ab nb bs Ad n cd d room st w) := by
  unfold RDoPost
  have HD := Lib.hid h
  have HS := Lib.hid hs
  have HY := Lib.hid hy
  have HU := Lib.hid hu
  have Hyl : Hid (ys.length = m) := Lib.hid hy.len
  obtain ⟨E, hE⟩ : ∃ E, E = doE x ys room (bdM bs) d := ⟨_, rfl⟩
  rw [← hE]
  unfold doE at hE
  obtain ⟨I, hI⟩ : ∃ I, I = findE x d := ⟨_, rfl⟩
  obtain ⟨U, hU⟩ : ∃ U, U = usedE (bdM bs) d := ⟨_, rfl⟩
  rw [← hI, ← hU, hy.len] at hE
  have HE9 := Lib.hid hE
  have hid := findE_id (x := x) h.rid
  rw [← hI] at hid
  have hUb : U ≤ 1000 * 140737488355328 := by
    rw [hU]
    exact Nat.le_trans (usedE_le (m := 140737488355328) (fun p hp => by
      unfold bdM at hp
      obtain ⟨q, hq, rfl⟩ := List.mem_map.1 hp
      exact (h.rbd q hq).2) _) (Nat.mul_le_mul_right _ (by rw [h.rd.len]; omega))
  have CF : Hid (∀ W, Ext w W → Calls Try.prog 41 #[.agg #[.slice Ab nb cb, .slice Ad n cd, .slice none 0 0, .int .i64 room, .slice none 0 0, .int .i64 st, .bool false], nm x] W fun e w' => e = .returned (.int .i64 I) ∧ Ext W w') := Lib.hid (fun W hW => by rw [hI]; exact rfind_any (HD.out.rd.ext hW) (.slice Ab nb cb) room st x (by omega))
  have CU : Hid (∀ W, Ext w W → Calls Try.prog 89 #[.agg #[.slice Ab nb cb, .slice Ad n cd, .slice none 0 0, .int .i64 room, .slice none 0 0, .int .i64 st, .bool false]] W fun e w' => e = .returned (.int .i64 (U : Int)) ∧ Ext W w') := Lib.hid (fun W hW => by rw [hU]; exact rused_any (HD.out.ext hW) cb cd room st hn)
  have HUge : Hid (∀ k : Nat, I = (k : Int) → ((bdM bs).getD k ([], 0)).1.length ≤ U) := Lib.hid (fun k hk => by
    rw [hI] at hk
    obtain ⟨e, he, h2⟩ := findE_mem hk
    rw [hU]
    exact usedE_ge he h2)
  clear h hs hy hu hE hI hU
  unfold rdV rdC
  obtain ⟨W0, hW0⟩ : ∃ W0, W0 = (w.alloc (.cells #[.slice Ab nb cb, (.slice Ad n cd), .slice none 0 0, .int .i64 room, .slice none 0 0, .int .i64 st, .bool false] 59)).alloc (.cells #[.slice none 0 0, .slice none 0 0, .slice none 0 0, .int .i64 0, .slice none 0 0, .int .i64 0, .bool false] 59) := ⟨_, rfl⟩
  have hat0 := (RdAt.new w (.slice Ab nb cb) (.slice Ad n cd) room st).to ((Ext.refl _).alloc (.cells #[.slice none 0 0, .slice none 0 0, .slice none 0 0, .int .i64 0, .slice none 0 0, .int .i64 0, .bool false] 59))
  rw [← hW0] at hat0
  have hat := Lib.hid hat0
  have HZ0 : Hid (W0.heap[w.heap.size + 1]? = some (.cells #[.slice none 0 0, .slice none 0 0, .slice none 0 0, .int .i64 0, .slice none 0 0, .int .i64 0, .bool false] 59 (0, 0))) := Lib.hid (by
    rw [hW0]
    have q := heap_alloc_new (w.alloc (.cells #[.slice Ab nb cb, (.slice Ad n cd), .slice none 0 0, .int .i64 room, .slice none 0 0, .int .i64 st, .bool false] 59)) (.cells #[.slice none 0 0, .slice none 0 0, .slice none 0 0, .int .i64 0, .slice none 0 0, .int .i64 0, .bool false] 59)
    simpa using q)
  have HE0 : Hid (Ext w W0) := Lib.hid (by rw [hW0]; exact ((Ext.refl w).alloc _).alloc _)
  have HW0 := Lib.hid hW0
  clear hat0 hW0
  have HC7 : Hid (∀ W, Ext W0 W → W.cell? ⟨w.heap.size, 0, none⟩ = some (.slice Ab nb cb) ∧ W.cell? ⟨w.heap.size, 1, none⟩ = some (.slice Ad n cd) ∧ W.cell? ⟨w.heap.size, 2, none⟩ = some (.slice none 0 0) ∧ W.cell? ⟨w.heap.size, 3, none⟩ = some (.int .i64 room) ∧ W.cell? ⟨w.heap.size, 4, none⟩ = some (.slice none 0 0) ∧ W.cell? ⟨w.heap.size, 5, none⟩ = some (.int .i64 st) ∧ W.cell? ⟨w.heap.size, 6, none⟩ = some (.bool false)) := Lib.hid (fun W hW => by
    have hh := (hat.out.to hW).row
    exact ⟨cell_of_row W _ 0 _ _ (0, 0) hh, cell_of_row W _ 1 _ _ (0, 0) hh, cell_of_row W _ 2 _ _ (0, 0) hh, cell_of_row W _ 3 _ _ (0, 0) hh, cell_of_row W _ 4 _ _ (0, 0) hh, cell_of_row W _ 5 _ _ (0, 0) hh, cell_of_row W _ 6 _ _ (0, 0) hh⟩)
  have HZW : Hid (∀ W, Ext W0 W → W.heap[w.heap.size + 1]? = some (.cells #[.slice none 0 0, .slice none 0 0, .slice none 0 0, .int .i64 0, .slice none 0 0, .int .i64 0, .bool false] 59 (0, 0))) := Lib.hid (fun W hW => (hW.block _ (Array.getElem?_eq_some_iff.1 HZ0.out).1).trans HZ0.out)
  go_enter Try.func71, Try.ntmps71
  go_wp2_with (first
    | (rw [← HW0.out]; refine wpList_load_row rfl 59 _ rfl w.heap.size rfl 59 _ (0, 0) _ hat.out.row Try.underlying59 rfl (by kernel_rfl) ?_)
    | fail)
  refine (CF.out _ HE0.out).mono ?_
  rintro e w1 ⟨rfl, he1⟩
  have HX1 : Hid (Ext W0 w1) := Lib.hid he1
  clear he1 CF
  rcases hid with hid | ⟨id, hid, hidn⟩
  · have HZ1 := Lib.hid (HZW.out _ HX1.out)
    have hEv : Hid (E = (143, bdM bs)) := Lib.hid (by rw [HE9.out, if_pos (by omega)])
    subst hid
    go_wp2_with (first
      | (refine wpList_load_row rfl 59 _ rfl w.heap.size rfl 59 _ (0, 0) _ (hat.out.to HX1.out).row Try.underlying59 rfl (by kernel_rfl) ?_)
      | (refine wpList_store_row rfl 59 _ _ rfl (w.heap.size + 1) (rdC (.slice Ab nb cb) (.slice Ad n cd) room st) rfl rfl 59 _ HZ1.out (by kernel_rfl) rfl (by simp [rdC, Value.oneCell']) ?_)
      | fail)
    refine bodyPost_ret (results_row_tmp rfl _ _ (w.heap.size + 1) 59 (rdC (.slice Ab nb cb) (.slice Ad n cd) room st) (0, 0) _ (.int .i64 143) rfl rfl (setRow_heap _ _ _ _ 59 (0, 0) HZ1.out) Try.underlying59 rfl (by kernel_rfl)) rfl ?_
    have hx := ((HE0.out.trans HX1.out).setRow (Nat.le_succ _) (rdC (.slice Ab nb cb) (.slice Ad n cd) room st))
    exact ⟨Ab, cb, bs, 143, rfl, HD.out.ext hx, HS.out, hEv.out.symm, fun g _ q => q, hx⟩
  · subst hid
    obtain ⟨b2, o2, s, hA2, hbl2, hx2, hcx2⟩ := HD.out.rb.at_ hidn
    obtain ⟨hsu, sf, hsf, hsl⟩ := HS.out s (List.mem_of_getElem? hx2)
    have q2 : w.cell? ⟨b2, o2 + id * 2, none⟩ = some (.slice s.1.A s.1.body.length s.1.c) := by simpa [shBd, Sl.v] using hcx2 0 _ rfl
    have q3 : w.cell? ⟨b2, o2 + id * 2 + 1, none⟩ = some (.int .i64 (sf : Int)) := by rw [← hsf]; simpa [shBd] using hcx2 1 _ rfl
    obtain ⟨hb2, hb4⟩ := HD.out.rbd s (List.mem_of_getElem? hx2)
    have HMk : Hid ((bdM bs).getD id ([], 0) = (s.1.body, (sf : Int))) := Lib.hid (by
      rw [List.getD_eq_getElem?_getD]
      unfold bdM
      rw [List.getElem?_map, hx2, ← hsf]
      rfl)
    obtain ⟨mb, hmb⟩ : ∃ m, m = s.1.body.length := ⟨_, rfl⟩
    rw [← hmb] at q2 hb2 hb4 hsl
    have hc1 := HC7.out w1 HX1.out
    have hc0 : w1.cell? ⟨w.heap.size, 0, none⟩ = some (.slice (some ⟨b2, o2, none⟩) nb cb) := by rw [← hA2]; exact hc1.1
    have k2 : w1.cell? ⟨b2, o2 + id * 2, none⟩ = some (.slice s.1.A mb s.1.c) := (Below.cell (HE0.out.trans HX1.out) (p := ⟨b2, o2 + id * 2, none⟩) hbl2).trans q2
    have k3 : w1.cell? ⟨b2, o2 + id * 2 + 1, none⟩ = some (.int .i64 (sf : Int)) := (Below.cell (HE0.out.trans HX1.out) (p := ⟨b2, o2 + id * 2 + 1, none⟩) hbl2).trans q3
    have hi0 : ¬ (id : Int) < 0 := by omega
    have HUm : Hid (mb ≤ U) := Lib.hid (by have q := HUge.out id rfl; rw [HMk.out] at q; rw [hmb]; exact q)
    have Hmb := Lib.hid hmb
    have Hb2 := Lib.hid hb2
    have Hsu := Lib.hid hsu
    have Hx2 := Lib.hid hx2
    clear hA2 hbl2 hx2 hcx2 q2 q3 hmb hb2 hsu hc1 hsf
    go_wp2_with fail
    obtain ⟨W2, hW2⟩ : ∃ W2, W2 = w1.alloc (.cells #[.slice s.1.A mb s.1.c, .int .i64 (sf : Int)] 77) := ⟨_, rfl⟩
    have HX2 : Hid (Ext W0 W2) := Lib.hid (by rw [hW2]; exact HX1.out.alloc _)
    have HF0 : Hid (∀ W, Ext W2 W → W.cell? ⟨w1.heap.size, 0, none⟩ = some (.slice s.1.A mb s.1.c) ∧ W.cell? ⟨w1.heap.size, 1, none⟩ = some (.int .i64 (sf : Int))) := Lib.hid (fun W hW => by
      rw [hW2] at hW
      have hh := (hW.block _ (by simp)).trans (heap_alloc_new w1 (.cells #[.slice s.1.A mb s.1.c, .int .i64 (sf : Int)] 77))
      exact ⟨cell_of_row W _ 0 _ _ (0, 0) hh, cell_of_row W _ 1 _ _ (0, 0) hh⟩)
    have HF2 : Hid (∀ W, Ext W2 W → W.heap[w1.heap.size]? = some (.cells #[.slice s.1.A mb s.1.c, .int .i64 (sf : Int)] 77 (0, 0))) := Lib.hid (fun W hW => by
      rw [hW2] at hW
      exact (hW.block _ (by simp)).trans (heap_alloc_new w1 (.cells #[.slice s.1.A mb s.1.c, .int .i64 (sf : Int)] 77)))
    rw [← hW2]
    clear hW2 hc0 k2 k3
    have hw1 : IntKind.i64.wrap (room - (U : Int)) = room - (U : Int) := IntWalk.i64_in _ (by omega)
    go_region_held3 (fun W => W.cell? ⟨w.heap.size, 0, none⟩ = some (.slice Ab nb cb) ∧ W.cell? ⟨w.heap.size, 1, none⟩ = some (.slice Ad n cd) ∧ W.cell? ⟨w.heap.size, 2, none⟩ = some (.slice none 0 0) ∧ W.cell? ⟨w.heap.size, 3, none⟩ = some (.int .i64 room) ∧ W.cell? ⟨w.heap.size, 4, none⟩ = some (.slice none 0 0) ∧ W.cell? ⟨w.heap.size, 5, none⟩ = some (.int .i64 st) ∧ W.cell? ⟨w.heap.size, 6, none⟩ = some (.bool false))
      (first | exact HC7.out _ HX2.out.drew | exact HC7.out _ HX3.out | fail)
      (first
        | (go_at_call 89; refine (CU.out _ (HE0.out.trans HX2.out).drew).mono ?_; rintro e v3 ⟨rfl, he⟩; have HX3 : Hid (Ext W0 v3) := Lib.hid (HX2.out.drew.trans he); have HX23 : Hid (Ext W2 v3) := Lib.hid ((Ext.refl W2).drew.trans he); clear he)
        | fail)
    by_cases hfl : room - (U : Int) < (m : Int)
    · have HZ3 := Lib.hid (HZW.out _ HX3.out)
      have hEv : Hid (E = (142, bdM bs)) := Lib.hid (by rw [HE9.out, if_neg (by omega), if_pos hfl])
      go_wp2_with (first
        | (refine wpList_load_row rfl 59 _ rfl w.heap.size rfl 59 _ (0, 0) _ (hat.out.to HX3.out).row Try.underlying59 rfl (by kernel_rfl) ?_)
        | (refine wpList_store_row rfl 59 _ _ rfl (w.heap.size + 1) (rdC (.slice Ab nb cb) (.slice Ad n cd) room st) rfl rfl 59 _ HZ3.out (by kernel_rfl) rfl (by simp [rdC, Value.oneCell']) ?_)
        | fail)
      refine bodyPost_ret (results_row_tmp rfl _ _ (w.heap.size + 1) 59 (rdC (.slice Ab nb cb) (.slice Ad n cd) room st) (0, 0) _ (.int .i64 142) rfl rfl (setRow_heap _ _ _ _ 59 (0, 0) HZ3.out) Try.underlying59 rfl (by kernel_rfl)) rfl ?_
      have hx := ((HE0.out.trans HX3.out).setRow (Nat.le_succ _) (rdC (.slice Ab nb cb) (.slice Ad n cd) room st))
      exact ⟨Ab, cb, bs, 142, rfl, HD.out.ext hx, HS.out, hEv.out.symm, fun g _ q => q, hx⟩
    · have hEv : Hid (E = (0, (bdM bs).set id (s.1.body ++ ys, (sf : Int)))) := Lib.hid (by rw [HE9.out, if_neg (by omega), if_neg hfl, Int.toNat_natCast, HMk.out])
      have CC : Hid (∀ W, Ext w W → Calls Try.prog 20 #[.slice s.1.A mb s.1.c, .slice A m c] W fun e w' => ∃ A' c', e = .returned (.slice A' (mb + m : Nat) c') ∧ Own .u8 5 w' W.heap.size A' c' (s.1.body ++ ys) ∧ Ext W w') := Lib.hid (fun W hW => cat_any s.1.A A mb s.1.c m c s.1.body ys W (Hb2.out.ext hW) (HY.out.ext hW) (by omega))
      have CS : Hid (∀ W SA sc (t : Sl), Ext w W → t.v = .slice SA (mb + m : Nat) sc → Calls Try.prog 90 #[.agg #[.slice Ab nb cb, .slice Ad n cd, .slice none 0 0, .int .i64 room, .slice none 0 0, .int .i64 st, .bool false], .int .i64 (id : Int), .agg #[.slice SA (mb + m : Nat) sc, .int .i64 (sf : Int)]] W fun e w' => ∃ A' c', e = .returned (.agg #[.slice A' nb c', .slice Ad n cd, .slice none 0 0, .int .i64 room, .slice none 0 0, .int .i64 st, .bool false]) ∧ OwnG shBd 77 w' W.heap.size A' c' (bs.set id (t, (sf : Int))) ∧ Ext W w') := Lib.hid (fun W SA sc t hW ht => rset_any (HD.out.rb.ext hW) Ad n cd room st SA _ sc t ht (sf : Int) id hidn hnb)
      obtain ⟨mm, hmm⟩ : ∃ z, z = mb + m := ⟨_, rfl⟩
      rw [← hmm] at CC CS
      have Hmm := Lib.hid hmm
      clear hmm
      have Hlt1 : Hid (w.heap.size + 1 < w1.heap.size) := Lib.hid (Nat.lt_of_lt_of_le (Array.getElem?_eq_some_iff.1 HZ0.out).1 HX1.out.size)
      have HKK : Hid (∀ v : World, Ext W0 v → Ext W2 v → ∀ W : World, v.grownBy W (some (w.heap.size + 1)) → W.cell? ⟨w.heap.size, 0, none⟩ = some (.slice Ab nb cb) ∧ W.cell? ⟨w.heap.size, 1, none⟩ = some (.slice Ad n cd) ∧ W.cell? ⟨w.heap.size, 2, none⟩ = some (.slice none 0 0) ∧ W.cell? ⟨w.heap.size, 3, none⟩ = some (.int .i64 room) ∧ W.cell? ⟨w.heap.size, 4, none⟩ = some (.slice none 0 0) ∧ W.cell? ⟨w.heap.size, 5, none⟩ = some (.int .i64 st) ∧ W.cell? ⟨w.heap.size, 6, none⟩ = some (.bool false) ∧ W.cell? ⟨w1.heap.size, 0, none⟩ = some (.slice s.1.A mb s.1.c) ∧ W.cell? ⟨w1.heap.size, 1, none⟩ = some (.int .i64 (sf : Int))) := Lib.hid (fun v h0 h2 W hg => by
        have hh := (hg.block _ (hat.out.to h0).lt (fun e => by have := Option.some.inj e; omega)).trans (hat.out.to h0).row
        have hz := h2.size
        have hb : W.heap[w1.heap.size]? = v.heap[w1.heap.size]? := hg.block _ (by have := (Array.getElem?_eq_some_iff.1 (HF2.out v h2)).1; exact this) (fun e => by have := Option.some.inj e; have := Hlt1.out; omega)
        have hf := hb.trans (HF2.out v h2)
        exact ⟨cell_of_row W _ 0 _ _ (0, 0) hh, cell_of_row W _ 1 _ _ (0, 0) hh, cell_of_row W _ 2 _ _ (0, 0) hh, cell_of_row W _ 3 _ _ (0, 0) hh, cell_of_row W _ 4 _ _ (0, 0) hh, cell_of_row W _ 5 _ _ (0, 0) hh, cell_of_row W _ 6 _ _ (0, 0) hh, cell_of_row W _ 0 _ _ (0, 0) hf, cell_of_row W _ 1 _ _ (0, 0) hf⟩)
      go_wp2_with fail
      go_region_held3 (fun W => W.cell? ⟨w.heap.size, 0, none⟩ = some (.slice Ab nb cb) ∧ W.cell? ⟨w.heap.size, 1, none⟩ = some (.slice Ad n cd) ∧ W.cell? ⟨w.heap.size, 2, none⟩ = some (.slice none 0 0) ∧ W.cell? ⟨w.heap.size, 3, none⟩ = some (.int .i64 room) ∧ W.cell? ⟨w.heap.size, 4, none⟩ = some (.slice none 0 0) ∧ W.cell? ⟨w.heap.size, 5, none⟩ = some (.int .i64 st) ∧ W.cell? ⟨w.heap.size, 6, none⟩ = some (.bool false) ∧ W.cell? ⟨w1.heap.size, 0, none⟩ = some (.slice s.1.A mb s.1.c) ∧ W.cell? ⟨w1.heap.size, 1, none⟩ = some (.int .i64 (sf : Int)))
        (first
          | with_reducible exact ⟨(HC7.out _ HX3.out.drew).1, (HC7.out _ HX3.out.drew).2.1, (HC7.out _ HX3.out.drew).2.2.1, (HC7.out _ HX3.out.drew).2.2.2.1, (HC7.out _ HX3.out.drew).2.2.2.2.1, (HC7.out _ HX3.out.drew).2.2.2.2.2.1, (HC7.out _ HX3.out.drew).2.2.2.2.2.2, (HF0.out _ HX23.out.drew).1, (HF0.out _ HX23.out.drew).2⟩
          | with_reducible exact ⟨(HC7.out _ HX5.out).1, (HC7.out _ HX5.out).2.1, (HC7.out _ HX5.out).2.2.1, (HC7.out _ HX5.out).2.2.2.1, (HC7.out _ HX5.out).2.2.2.2.1, (HC7.out _ HX5.out).2.2.2.2.2.1, (HC7.out _ HX5.out).2.2.2.2.2.2, (HF0.out _ HX25.out).1, (HF0.out _ HX25.out).2⟩
          | with_reducible exact ⟨(HC7.out _ HX6.out).1, (HC7.out _ HX6.out).2.1, (HC7.out _ HX6.out).2.2.1, (HC7.out _ HX6.out).2.2.2.1, (HC7.out _ HX6.out).2.2.2.2.1, (HC7.out _ HX6.out).2.2.2.2.2.1, (HC7.out _ HX6.out).2.2.2.2.2.2, (HF0.out _ HX26.out).1, (HF0.out _ HX26.out).2⟩
          | with_reducible exact HS7.out
          | fail)
        (first
          | (go_at_call 20; refine (CC.out _ (HE0.out.trans HX3.out).drew).mono ?_; rintro e v5 ⟨A5, c5, rfl, ho, he⟩; have HO5 := Lib.hid ho; have HX5 : Hid (Ext W0 v5) := Lib.hid (HX3.out.drew.trans he); have HX25 : Hid (Ext W2 v5) := Lib.hid (HX23.out.drew.trans he); have HX35 : Hid (Ext v3 v5) := Lib.hid ((Ext.refl v3).drew.trans he); clear ho he)
          | (go_at_call 90; refine (CS.out _ A5 c5 ⟨A5, c5, s.1.body ++ ys⟩ (HE0.out.trans HX5.out) (by unfold Sl.v; simp only [List.length_append]; rw [← Hmb.out, Hyl.out, ← Hmm.out])).mono ?_; rintro e v6 ⟨A6, c6, rfl, ho, he⟩; have HO6 := Lib.hid ho; have HX6 : Hid (Ext W0 v6) := Lib.hid (HX5.out.trans he); have HX26 : Hid (Ext W2 v6) := Lib.hid (HX25.out.trans he); have HX56 := Lib.hid he; have hZ6 := HZW.out _ HX6.out; have d0 := cell_of_row v6 (w.heap.size + 1) 0 _ _ (0, 0) hZ6; have z0 : v6.frozen? ⟨w.heap.size + 1, 0, none⟩ = false := (by simp [World.frozen?, hZ6]); have d1 := cell_of_row v6 (w.heap.size + 1) 1 _ _ (0, 0) hZ6; have z1 : v6.frozen? ⟨w.heap.size + 1, 1, none⟩ = false := (by simp [World.frozen?, hZ6]); have d2 := cell_of_row v6 (w.heap.size + 1) 2 _ _ (0, 0) hZ6; have z2 : v6.frozen? ⟨w.heap.size + 1, 2, none⟩ = false := (by simp [World.frozen?, hZ6]); have d3 := cell_of_row v6 (w.heap.size + 1) 3 _ _ (0, 0) hZ6; have z3 : v6.frozen? ⟨w.heap.size + 1, 3, none⟩ = false := (by simp [World.frozen?, hZ6]); have d4 := cell_of_row v6 (w.heap.size + 1) 4 _ _ (0, 0) hZ6; have z4 : v6.frozen? ⟨w.heap.size + 1, 4, none⟩ = false := (by simp [World.frozen?, hZ6]); have d5 := cell_of_row v6 (w.heap.size + 1) 5 _ _ (0, 0) hZ6; have z5 : v6.frozen? ⟨w.heap.size + 1, 5, none⟩ = false := (by simp [World.frozen?, hZ6]); have d6 := cell_of_row v6 (w.heap.size + 1) 6 _ _ (0, 0) hZ6; have z6 : v6.frozen? ⟨w.heap.size + 1, 6, none⟩ = false := (by simp [World.frozen?, hZ6]); have HS7 := Lib.hid (HKK.out v6 HX6.out HX26.out (((((((v6.setCell ⟨w.heap.size + 1, 0, none⟩ (.slice A6 nb c6)).setCell ⟨w.heap.size + 1, 1, none⟩ (.slice Ad n cd)).setCell ⟨w.heap.size + 1, 2, none⟩ (.slice none 0 0)).setCell ⟨w.heap.size + 1, 3, none⟩ (.int .i64 room)).setCell ⟨w.heap.size + 1, 4, none⟩ (.slice none 0 0)).setCell ⟨w.heap.size + 1, 5, none⟩ (.int .i64 st)).setCell ⟨w.heap.size + 1, 6, none⟩ (.bool false)) (set7_grown v6 (w.heap.size + 1) (.slice A6 nb c6) (.slice Ad n cd) (.slice none 0 0) (.int .i64 room) (.slice none 0 0) (.int .i64 st) (.bool false))); have HZ6 := Lib.hid hZ6; clear ho he hZ6)
          | fail)
      obtain ⟨V, hV⟩ : ∃ V, V = set7 v6 (w.heap.size + 1) (.slice A6 nb c6) (.slice Ad n cd) (.slice none 0 0) (.int .i64 room) (.slice none 0 0) (.int .i64 st) (.bool false) := ⟨_, rfl⟩
      have hG : v6.grownBy V (some (w.heap.size + 1)) := by rw [hV]; exact set7_grown _ _ _ _ _ _ _ _ _
      have hrow : V.heap[w.heap.size + 1]? = some (.cells (rdC (.slice A6 nb c6) (.slice Ad n cd) room st) 59 (0, 0)) := by rw [hV]; exact set7_heap HZ6.out _ _ _ _ _ _ _
      have hEx : Ext w V := by rw [hV]; exact set7_ext (HE0.out.trans HX6.out) (Nat.le_succ _) _ _ _ _ _ _ _
      unfold set7 at hV
      rw [← hV]
      clear hV
      have HG := Lib.hid hG
      have HRow := Lib.hid hrow
      have HEx := Lib.hid hEx
      clear hG hrow hEx d0 d1 d2 d3 d4 d5 d6 z0 z1 z2 z3 z4 z5 z6
      go_wp2_with fail
      refine bodyPost_ret (results_row_tmp rfl _ _ (w.heap.size + 1) 59 (rdC (.slice A6 nb c6) (.slice Ad n cd) room st) (0, 0) _ (.int .i64 0) rfl rfl HRow.out Try.underlying59 rfl (by kernel_rfl)) rfl ?_
      have hX56 := HX56.out
      have ho5 := HO5.out.ext hX56
      have hlen : (s.1.body ++ ys).length = mm := by rw [List.length_append, ← Hmb.out, Hyl.out, ← Hmm.out]
      have hmm : mm = mb + m := Hmm.out
      have hge : mb ≤ U := HUm.out
      refine ⟨A6, c6, bs.set id (⟨A5, c5, s.1.body ++ ys⟩, (sf : Int)), 0, rfl, ⟨?_, ?_, HD.out.rd.ext HEx.out, HD.out.rid⟩, ?_, ?_, fun g hg q => ⟨fun _ a ha e => ?_, fun p hp h0 a ha => ?_, q.d⟩, HEx.out⟩
      · exact (HO6.out.grown HG.out (ownG_ne HO6.out HZ6.out (by decide))).rd' (by rw [List.length_set]; exact HD.out.rb.len)
      · intro p hp
        rcases List.mem_or_eq_of_mem_set hp with hp | hp
        · exact ⟨(HD.out.rbd p hp).1.ext HEx.out, (HD.out.rbd p hp).2⟩
        · subst hp
          exact ⟨(ho5.grown HG.out (own_ne ho5 HZ6.out (by decide))).rd, by show (s.1.body ++ ys).length ≤ _; omega⟩
      · intro p hp
        rcases List.mem_or_eq_of_mem_set hp with hp | hp
        · exact HS.out p hp
        · subst hp
          refine ⟨fun v hv => ?_, sf, rfl, by show sf ≤ (s.1.body ++ ys).length; omega⟩
          rcases List.mem_append.1 hv with hv | hv
          · exact Hsu.out v hv
          · exact HU.out v hv
      · rw [hEv.out, bdM_set]
      · have h1 := (HO6.out.block a ha).1
        have h2 := (HE0.out.trans HX5.out).size
        omega
      · rcases List.mem_or_eq_of_mem_set hp with hp | hp
        · exact q.p p hp h0 a ha
        · subst hp
          have h1 := (HO5.out.block a ha).1
          have h2 := (HE0.out.trans HX3.out).drew.size
          omega

end Go.Proofs.Ytjckfbpdnpehcaa

/-
  Layer 14: the document's append as a step; the files' bytes as a list.
-/
namespace Go.Proofs.Ytjckfbpdnpehcaa
open Go.RowKit Go.Maps Go.WideMaps
set_option maxRecDepth 100000

set_option maxHeartbeats 12800000 in
theorem rDo_any {w : World} {Ab : Option Addr} {nb : Nat} {bs : List (Sl × Int)} {Ad : Option Addr} {n : Nat} {d : List (List UInt8 × Int)} (h : RdD w Ab nb bs Ad n d) (hs : BdS bs) (cb cd : Nat) (room st : Int) (hr : 0 ≤ room ∧ room ≤ 16777216) (hst : 0 ≤ st ∧ st ≤ 1000000) (x : List UInt8) (A : Option Addr) (m c : Nat) (ys : List Nat) (hy : Rd .u8 w A m ys) (hu : U8 ys) (hm : m ≤ 140737488355328) (hn : n ≤ 1000) (hnb : nb ≤ 1000000) :
    Calls Try.prog 35 #[rdV (.slice Ab nb cb) (.slice Ad n cd) room st, .int .i64 2, nm x, .string ⟨#[]⟩, .slice A m c] w (RDoPost x ys Ab nb bs Ad n cd d room (st + 1) w) := by
  unfold RDoPost
  obtain ⟨hst1, hst2⟩ := hst
  have CD : Hid (∀ W, Ext w W → Calls Try.prog 71 #[.agg #[.slice Ab nb cb, .slice Ad n cd, .slice none 0 0, .int .i64 room, .slice none 0 0, .int .i64 (st + 1), .bool false], .int .i64 2, nm x, .string ⟨#[]⟩, .slice A m c] W (RDoPost x ys Ab nb bs Ad n cd d room (st + 1) W)) := Lib.hid (fun W hW => rdo_any (h.ext hW) hs cb cd room (st + 1) hr x A m c ys (hy.ext hW) hu hm hn hnb)
  have HAv := Lib.hid (h.av (g := w.heap.size + 1) (Nat.le_succ _))
  clear h hs hy hu
  unfold rdV rdC
  obtain ⟨W0, hW0⟩ : ∃ W0, W0 = (w.alloc (.cells #[.slice Ab nb cb, (.slice Ad n cd), .slice none 0 0, .int .i64 room, .slice none 0 0, .int .i64 st, .bool false] 59)).alloc (.cells #[.slice none 0 0, .slice none 0 0, .slice none 0 0, .int .i64 0, .slice none 0 0, .int .i64 0, .bool false] 59) := ⟨_, rfl⟩
  have hat0 := (RdAt.new w (.slice Ab nb cb) (.slice Ad n cd) room st).to ((Ext.refl _).alloc (.cells #[.slice none 0 0, .slice none 0 0, .slice none 0 0, .int .i64 0, .slice none 0 0, .int .i64 0, .bool false] 59))
  rw [← hW0] at hat0
  have hat := Lib.hid hat0
  have HZ0 : Hid (W0.heap[w.heap.size + 1]? = some (.cells #[.slice none 0 0, .slice none 0 0, .slice none 0 0, .int .i64 0, .slice none 0 0, .int .i64 0, .bool false] 59 (0, 0))) := Lib.hid (by
    rw [hW0]
    have q := heap_alloc_new (w.alloc (.cells #[.slice Ab nb cb, (.slice Ad n cd), .slice none 0 0, .int .i64 room, .slice none 0 0, .int .i64 st, .bool false] 59)) (.cells #[.slice none 0 0, .slice none 0 0, .slice none 0 0, .int .i64 0, .slice none 0 0, .int .i64 0, .bool false] 59)
    simpa using q)
  have HE0 : Hid (Ext w W0) := Lib.hid (by rw [hW0]; exact ((Ext.refl w).alloc _).alloc _)
  have HW0 := Lib.hid hW0
  have hz0 : w.heap.size + 1 < W0.heap.size := (Array.getElem?_eq_some_iff.1 HZ0.out).1
  -- behind the count of steps
  obtain ⟨W2, hW2⟩ : ∃ W2, W2 = ((w.alloc (.cells #[.slice Ab nb cb, (.slice Ad n cd), .slice none 0 0, .int .i64 room, .slice none 0 0, .int .i64 (st + 1), .bool false] 59)).alloc (.cells #[.slice none 0 0, .slice none 0 0, .slice none 0 0, .int .i64 0, .slice none 0 0, .int .i64 0, .bool false] 59)).alloc (.cells #[.int .i64 0, .int .i64 0, .int .i64 0] 64) := ⟨_, rfl⟩
  have hat2 := (((RdAt.new w (.slice Ab nb cb) (.slice Ad n cd) room (st + 1)).to ((Ext.refl _).alloc (.cells #[.slice none 0 0, .slice none 0 0, .slice none 0 0, .int .i64 0, .slice none 0 0, .int .i64 0, .bool false] 59))).to ((Ext.refl _).alloc (.cells #[.int .i64 0, .int .i64 0, .int .i64 0] 64)))
  rw [← hW2] at hat2
  have HZ2 : Hid (W2.heap[w.heap.size + 1]? = some (.cells #[.slice none 0 0, .slice none 0 0, .slice none 0 0, .int .i64 0, .slice none 0 0, .int .i64 0, .bool false] 59 (0, 0))) := Lib.hid (by
    rw [hW2]
    refine (heap_alloc_old _ _ (by simp)).trans ?_
    have q := heap_alloc_new (w.alloc (.cells #[.slice Ab nb cb, (.slice Ad n cd), .slice none 0 0, .int .i64 room, .slice none 0 0, .int .i64 (st + 1), .bool false] 59)) (.cells #[.slice none 0 0, .slice none 0 0, .slice none 0 0, .int .i64 0, .slice none 0 0, .int .i64 0, .bool false] 59)
    simpa using q)
  have HFt : Hid (W2.heap[w.heap.size + 2]? = some (.cells #[.int .i64 0, .int .i64 0, .int .i64 0] 64 (0, 0))) := Lib.hid (by
    rw [hW2]
    have q := heap_alloc_new ((w.alloc (.cells #[.slice Ab nb cb, (.slice Ad n cd), .slice none 0 0, .int .i64 room, .slice none 0 0, .int .i64 (st + 1), .bool false] 59)).alloc (.cells #[.slice none 0 0, .slice none 0 0, .slice none 0 0, .int .i64 0, .slice none 0 0, .int .i64 0, .bool false] 59)) (.cells #[.int .i64 0, .int .i64 0, .int .i64 0] 64)
    simpa using q)
  have HE2 : Hid (Ext w W2) := Lib.hid (by rw [hW2]; exact (((Ext.refl w).alloc _).alloc _).alloc _)
  have HA2 := Lib.hid hat2
  have HW2 := Lib.hid hW2
  clear hat0 hW0 hat HZ0 HE0 HW0 hat2 hW2
  have hw1 : IntKind.i64.wrap (st + 1) = st + 1 := IntWalk.i64_in _ (by omega)
  go_enter Try.func35, Try.ntmps35
  go_wp2_with fail
  rw [← HW2.out]
  go_loopw [13] (fun i wr => i = .int .i64 (-1) ∧ wr = W2) (fun _ _ => 0)
  case atStart => exact ⟨rfl, rfl⟩
  case round =>
    obtain ⟨rfl, rfl⟩ := hrel
    have f1 : wr.cell? ⟨w.heap.size + 2, 1, none⟩ = some (.int .i64 0) := cell_of_row wr _ 1 _ _ (0, 0) HFt.out
    go_wp2_with (first
      | (refine wpList_load_row rfl 59 _ rfl w.heap.size rfl 59 _ (0, 0) _ HA2.out.row Try.underlying59 rfl (by kernel_rfl) ?_)
      | fail)
    refine (CD.out _ HE2.out).mono ?_
    rintro e w3 hpost
    obtain ⟨A', c', bs', r, rfl, hd, hbs, heq, hav, hx⟩ := hpost
    have HAw := Lib.hid hav
    have HD := Lib.hid hd
    have HB := Lib.hid hbs
    have HQ := Lib.hid heq
    have HX := Lib.hid hx
    have HZ3 : Hid (w3.heap[w.heap.size + 1]? = some (.cells #[.slice none 0 0, .slice none 0 0, .slice none 0 0, .int .i64 0, .slice none 0 0, .int .i64 0, .bool false] 59 (0, 0))) := Lib.hid ((hx.block _ (Array.getElem?_eq_some_iff.1 HZ2.out).1).trans HZ2.out)
    clear hd hbs heq hx hav
    unfold rdV rdC
    go_wp2_with (first
      | (refine wpList_store_row rfl 59 _ _ rfl (w.heap.size + 1) (rdC (.slice A' nb c') (.slice Ad n cd) room (st + 1)) rfl rfl 59 _ HZ3.out (by kernel_rfl) rfl (by simp [rdC, Value.oneCell']) ?_)
      | fail)
    refine bodyPost_ret (results_row_tmp rfl _ _ (w.heap.size + 1) 59 (rdC (.slice A' nb c') (.slice Ad n cd) room (st + 1)) (0, 0) _ (.int .i64 r) rfl rfl (setRow_heap _ _ _ _ 59 (0, 0) HZ3.out) Try.underlying59 rfl (by kernel_rfl)) rfl ?_
    have hG := grown_setRow w3 (w.heap.size + 1) (rdC (.slice A' nb c') (.slice Ad n cd) room (st + 1))
    have hx := (HE2.out.trans HX.out).setRow (Nat.le_succ _) (rdC (.slice A' nb c') (.slice Ad n cd) room (st + 1))
    have hz2 := (Array.getElem?_eq_some_iff.1 HZ2.out).1
    exact ⟨A', c', bs', r, rfl, HD.out.grown (HAw.out _ hz2 HAv.out) hG, HB.out, HQ.out, fun g hg q => HAw.out g (Nat.lt_of_lt_of_le hg HE2.out.size) q, hx⟩

end Go.Proofs.Ytjckfbpdnpehcaa

/-
  Layer 14: the bytes of files as a list; whether lists of long bytes are apart.
-/
namespace Go.Proofs.Ytjckfbpdnpehcaa
open Go.RowKit Go.Maps Go.WideMaps
set_option maxRecDepth 100000

set_option maxHeartbeats 1600000 in
theorem apartAllD_any (A A' : Option Addr) (n c c' : Nat) (ss ts : List Sl) (w : World) (hx : RdL w A n ss) (hy : RdL w A' n ts) (hb : ss.map Sl.body = ts.map Sl.body) (hn : n ≤ 1000)
    (hs : ∀ s ∈ ss, Own .u8 5 w 0 s.A s.c s.body) (hu : ∀ s ∈ ss, U8 s.body) (hl : ∀ s ∈ ss, s.body.length ≤ 140737488355328) (ht : ∀ t ∈ ts, Rd .u8 w t.A t.body.length t.body) (hun : Unlike ss)
    (hfx : 0 < n → Far ss A) (hfy : 0 < n → Far ss A') (hft : ∀ t ∈ ts, 0 < t.body.length → Far ss t.A) :
    Calls Try.prog 39 #[.slice A n c, .slice A' n c'] w fun e w' => e = .returned (.bool true) ∧ Kept w w' ss := by
  have hblt : ∀ t ∈ ss, ∀ p, t.A = some p → p.block < w.heap.size := fun t ht p hp => ((hs t ht).block p hp).2
  have hpair : ∀ (j : Nat) (s t : Sl), ss[j]? = some s → ts[j]? = some t → t.body = s.body := by
    intro j s t h1 h2
    have e1 := congrArg (fun l : List (List Nat) => l[j]?) hb
    simp only [List.getElem?_map, h1, h2, Option.map_some] at e1
    injection e1 with e1
    exact e1.symm
  have Hl := Lib.hid hx.1
  clear hb
  go_enter Try.func39, Try.ntmps39
  go_wp2
  go_loopw [5] (fun i wr => ∃ j q : Nat, j ≤ n ∧ i = .int .i64 j ∧ wr = w.drewN q) (fun i _ => n - (intOf i).toNat)
  case atStart => exact ⟨0, 0, Nat.zero_le _, rfl, rfl⟩
  case round =>
    obtain ⟨j, q, hj, rfl, hw⟩ := hrel
    have hE : Ext w wr := by rw [hw]; exact (Ext.refl w).drewN q
    have hK : Kept w wr ss := (Kept.refl w ss).ext hE
    have Hw := Lib.hid hw
    clear hw
    by_cases hlt : j < n
    · obtain ⟨b, o, s, rfl, hf, h1⟩ := (hx.kept hK hfx).at_ hlt
      obtain ⟨b', o', t, rfl, hg, g1⟩ := (hy.kept hK hfy).at_ hlt
      have hbb := hpair j s t hf hg
      have h3 := ((hs s (List.mem_of_getElem? hf)).rd).ext hE
      have g3 := (ht t (List.mem_of_getElem? hg)).ext hE
      have hbf := hl s (List.mem_of_getElem? hf)
      rw [hbb] at g1 g3
      obtain ⟨sA, sc, body⟩ := s
      obtain ⟨tA, tc, tbody⟩ := t
      simp only at h1 h3 g1 g3 hbf
      clear hbb hf hg
      have hji : (j : Int) < (n : Int) := by omega
      have hbf2 : body.length ≤ 281474976710656 := by omega
      go_wp2_with fail
      go_quiet ((go_at_call 18; exact Calls.quiet_of (same_yes (h3.drewN _) (g3.drewN _) hbf2)))
      go_wp2
      go_roundw
      case rel => exact ⟨j + 1, _, by omega, by go_num, by rw [Hw.out, World.drewN_drewN]⟩
      case measure => simp [intOf]; omega
    · obtain rfl : j = n := by omega
      have h0 : St2 wr ss 0 := fun j s h => ⟨fun h2 => absurd h2 (by omega), fun _ => (hs s (List.mem_of_getElem? h)).ext hE⟩
      clear Hw hE q
      go_wp2
      go_loopw [6] (fun i wx => ∃ i2 : Nat, i2 ≤ j ∧ i = .int .i64 i2 ∧ Kept w wx ss ∧ St2 wx ss i2) (fun i _ => j - (intOf i).toNat)
      case atStart => exact ⟨0, Nat.zero_le _, rfl, hK, h0⟩
      case round =>
        clear h0 hK
        obtain ⟨i2, hi2, rfl, hK, hS⟩ := hrel
        by_cases hlt2 : i2 < j
        · obtain ⟨b, o, s, rfl, hf, h1⟩ := (hx.kept hK hfx).at_ hlt2
          have hm := List.mem_of_getElem? hf
          have ho := (hS i2 s hf).2 (Nat.le_refl _)
          have hbf := hl s hm
          have hus := hu s hm
          have HK := Lib.hid hK
          have HS := Lib.hid hS
          have Hf := Lib.hid hf
          clear hK hS hf
          go_wp2_with fail
          refine (spoil_any _ _ _ 0 _ _ ho rfl hus (by omega)).mono ?_
          rintro e w3 ⟨rfl, ho3, hg3⟩
          go_wp2
          go_roundw
          case rel => exact ⟨i2 + 1, by omega, by go_num, HK.out.grown hg3 (fun g hg => by
            cases hA : s.A with
            | none => rw [hA] at hg; simp at hg
            | some p => rw [hA] at hg; simp at hg; exact .inr ⟨s, hm, p, hA, hg⟩), HS.out.step hun Hf.out ho3 hg3⟩
          case measure => simp [intOf]; omega
        · obtain rfl : i2 = j := by omega
          have h0 := hS.all Hl.out
          clear hS
          go_wp2
          go_loopw [7, 8] (fun v i wx => ∃ i3 m : Nat, i3 ≤ i2 ∧ i = .int .i64 i3 ∧ v = .int .i64 m ∧ m ≤ i3 * 140737488355400 ∧ Kept w wx ss ∧ St3 wx ss i3) (fun _ i _ => i2 - (intOf i).toNat)
          case atStart => exact ⟨0, 0, Nat.zero_le _, rfl, rfl, by omega, hK, h0⟩
          case round =>
            clear h0 hK
            obtain ⟨i3, m, hi3, rfl, rfl, hmm, hK, hS⟩ := hrel
            by_cases hlt3 : i3 < i2
            · obtain ⟨b, o, s, rfl, hf, h1⟩ := (hx.kept hK hfx).at_ hlt3
              have hm := List.mem_of_getElem? hf
              have hbf := hl s hm
              have h4 : St4 w wr ss i3 s s.A s.c 0 (s.body.map spl) := ⟨(hS i3 s hf).2 (Nat.le_refl _), by simp, by rw [List.take_of_length_le (by simp)], fun p hp => .inl hp, hS.next, hK⟩
              have Hf := Lib.hid hf
              clear hK hS hf
              go_wp2
              go_loopw [9, 10] (fun v i wx => ∃ (k : Nat) (A1 : Option Addr) (c1 : Nat) (ys : List Nat), k ≤ 70 ∧ i = .int .i64 k ∧ v = .slice A1 (s.body.length + k : Nat) c1 ∧ St4 w wx ss i3 s A1 c1 k ys) (fun _ i _ => 70 - (intOf i).toNat)
              case atStart => exact ⟨0, _, _, _, Nat.zero_le _, rfl, rfl, h4⟩
              case round =>
                clear h4
                obtain ⟨k, A1, c1, ys, hk, rfl, rfl, h4⟩ := hrel
                by_cases hlt4 : k < 70
                · have hmod := mod256' (k := k) (i := i3)
                  have Hown := Lib.hid h4.own
                  have Hlen := Lib.hid h4.len
                  have H4 := Lib.hid h4
                  clear h4
                  go_wp2_with (at_builtin; refine wpList_push2 .u8 ((k + i3) % 256) 5 rfl _ _ 22 rfl _ 1 Try.underlying22 Try.infoU8 rfl Hown.out (s.body.length + k) Hlen.out rfl rfl (by first | rfl | exact hmod | omega | go_num) (by omega) (by omega) (Nat.zero_le _) ?_; intro A2 c2 w5 hown5 hw5 hz5)
                  have Hn := Lib.hid (H4.out.push hun Hf.out hblt hown5 hw5)
                  clear hown5 hw5 hz5
                  go_wp2
                  go_roundw
                  case rel => exact ⟨k + 1, A2, c2, _, by omega, by go_num, rfl, Hn.out⟩
                  case measure => simp [intOf]; omega
                · obtain rfl : k = 70 := by omega
                  have hS := h4.rest
                  have hK := h4.kept
                  clear h4
                  go_wp2
                  go_roundw
                  case rel => exact ⟨i3 + 1, m + (s.body.length + 70), by omega, by go_num, by go_num, by omega, hK, hS⟩
                  case measure => simp [intOf]; omega
            · obtain rfl : i3 = i2 := by omega
              obtain ⟨W3, hW3⟩ : ∃ W3, W3 = wr := ⟨_, rfl⟩
              rw [← hW3] at hK hS
              have HK := Lib.hid hK
              have HS := Lib.hid hS
              clear hK hS
              go_wp2
              go_loopw [11] (fun i wx => ∃ i4 q : Nat, i4 ≤ i3 ∧ i = .int .i64 i4 ∧ wx = W3.drewN q) (fun i _ => i3 - (intOf i).toNat)
              case atStart => exact ⟨0, 0, Nat.zero_le _, rfl, hW3.symm⟩
              case round =>
                obtain ⟨i4, q, hi4, rfl, hw⟩ := hrel
                have hE : Ext W3 wr := by rw [hw]; exact (Ext.refl _).drewN q
                have hK : Kept w wr ss := HK.out.ext hE
                have Hw := Lib.hid hw
                clear hw
                by_cases hlt4 : i4 < i3
                · obtain ⟨b, o, s, rfl, hf, h1⟩ := (hx.kept hK hfx).at_ hlt4
                  obtain ⟨b', o', t, rfl, hg, g1⟩ := (hy.kept hK hfy).at_ hlt4
                  have hbb := hpair i4 s t hf hg
                  have hmt := List.mem_of_getElem? hg
                  have h3 := (HS.out i4 s hf).1.ext hE
                  have g3 := (ht t hmt).kept hK (hft t hmt)
                  have hbf := hl s (List.mem_of_getElem? hf)
                  have hus := hu s (List.mem_of_getElem? hf)
                  rw [hbb] at g1 g3
                  obtain ⟨sA, sc, body⟩ := s
                  obtain ⟨tA, tc, tbody⟩ := t
                  simp only at h1 h3 g1 g3 hbf hus
                  clear hbb hf hg hmt hK
                  have hji : (i4 : Int) < (i3 : Int) := by omega
                  have hbf2 : body.length ≤ 281474976710656 := by omega
                  go_wp2_with fail
                  go_quiet ((go_at_call 76; exact Calls.quiet_of (turned_yes (h3.drewN _) (g3.drewN _) hus hbf2)))
                  go_wp2
                  go_roundw
                  case rel => exact ⟨i4 + 1, _, by omega, by go_num, by rw [Hw.out, World.drewN_drewN]⟩
                  case measure => simp [intOf]; omega
                · obtain rfl : i4 = i3 := by omega
                  go_wp2
                  go_ret
                  exact ⟨by simp, hK⟩

set_option maxHeartbeats 3200000 in
theorem rdatas_any {w : World} {A : Option Addr} {n c : Nat} {R : List (List UInt8 × Sl)} (h : RdG shF w A n R) (hn : n ≤ 1000) :
    Calls Try.prog 40 #[.slice A n c] w fun e w' => ∃ A' c', e = .returned (.slice A' n c') ∧ OwnS w' w.heap.size A' c' (R.map fun r => r.2) ∧ Ext w w' := by
  have HR := Lib.hid h
  have Hl := Lib.hid h.len
  have Hmade := Lib.hid (OwnS.made (base := w.heap.size) w (Nat.le_refl _))
  clear h
  go_enter Try.func40, Try.ntmps40
  go_wp2_with fail
  go_loopw [3, 4] (fun v i wr => ∃ (j : Nat) (A' : Option Addr) (c' : Nat), j ≤ n ∧ i = .int .i64 (j : Int) ∧ v = .slice A' j c' ∧ Hid (OwnS wr w.heap.size A' c' ((R.map fun r => r.2).take j)) ∧ Hid (Ext w wr)) (fun _ i _ => n - (intOf i).toNat)
  case atStart => exact ⟨0, _, _, Nat.zero_le _, rfl, rfl, Hmade, Lib.hid ((Ext.refl w).alloc _)⟩
  case round =>
    obtain ⟨j, A', c', hj, rfl, rfl, HO, HE⟩ := hrel
    have HM : Hid (((R.map fun r => r.2).take j).length = j) := Lib.hid (by rw [List.length_take, List.length_map, Hl.out]; omega)
    by_cases hlt : j < n
    · obtain ⟨b, o, r, hA, hbl, hx, hcx⟩ := (HR.out.ext HE.out).at_ hlt
      have q1 : wr.cell? ⟨b, o + j * 2 + 1, none⟩ = some (.slice r.2.A r.2.body.length r.2.c) := by simpa [shF, Sl.v] using hcx 1 _ rfl
      rw [hA]
      have Htk : Hid ((R.map fun r => r.2).take (j + 1) = (R.map fun r => r.2).take j ++ [r.2]) := Lib.hid (by rw [List.take_add_one, List.getElem?_map, hx]; rfl)
      have Hlt := Lib.hid hlt
      clear hA hbl hx hcx hlt
      go_wp2_with (at_builtin; refine wpList_pushS (w0 := w) r.2 rfl _ _ rfl (HO.out.ext ((Ext.refl _).alloc _)) j HM.out rfl rfl (heap_alloc_new wr _) (by omega) (HE.out.alloc _) (by simp; have := HE.out.size; omega) ?_; intro A5 c5 w5 ho5 hb5 _)
      go_roundw
      case rel => exact ⟨j + 1, A5, c5, by have := Hlt.out; omega, by go_num, rfl, Lib.hid (by rw [Htk.out]; exact ho5), Lib.hid hb5⟩
      case measure => simp [intOf]; have := Hlt.out; omega
    · obtain rfl : j = n := by omega
      have hO := HO.out
      rw [List.take_of_length_le (by rw [List.length_map, Hl.out]; exact Nat.le_refl _)] at hO
      clear hlt
      go_wp2_with fail
      go_ret
      exact ⟨A', c', rfl, hO, HE.out⟩

end Go.Proofs.Ytjckfbpdnpehcaa

/-
  Layer 14: lists of files that were made, whether they are alike, and apart.
-/
namespace Go.Proofs.Ytjckfbpdnpehcaa
open Go.RowKit Go.Maps Go.WideMaps
set_option maxRecDepth 100000

/-- A list of files that was made between two sizes of the memory. -/
structure FilR (W : World) (lo hi : Nat) (A : Option Addr) (c : Nat) (R : List (List UInt8 × Sl)) (n : Nat) (L : List (List UInt8 × List Nat)) : Prop where
  o : OwnG shF 47 W lo A c R
  t : Txts W lo (R.map fun r => r.2)
  m : (R.map fun r : List UInt8 × Sl => (r.1, r.2.body)) = L
  l : L.length = n
  hB : ∀ s ∈ R.map (fun r => r.2), ∀ p, s.A = some p → p.block < hi
  hiA : ∀ a, A = some a → a.block < hi
section
variable {W W' : World} {lo hi lo2 hi2 n c c2 : Nat} {A B : Option Addr} {R R2 : List (List UInt8 × Sl)} {L : List (List UInt8 × List Nat)}
theorem FilR.made (h1 : (R.map fun r : List UInt8 × Sl => (r.1, r.2.body)) = L) (hl : L.length = n) (h2 : OwnG shF 47 W lo A c R) (h3 : Txts W lo (R.map fun r => r.2)) : FilR W lo W.heap.size A c R n L :=
  ⟨h2, h3, h1, hl, fun s hs p hp => ((h3.own s hs).block p hp).2, fun a ha => (h2.block a ha).2⟩
theorem FilR.ext (h : FilR W lo hi A c R n L) (he : Ext W W') : FilR W' lo hi A c R n L := ⟨h.o.ext he, h.t.ext he, h.m, h.l, h.hB, h.hiA⟩
theorem FilR.len (h : FilR W lo hi A c R n L) : R.length = n := by rw [← h.l, ← h.m, List.length_map]
theorem FilR.rd (h : FilR W lo hi A c R n L) : RdG shF W A n R := h.o.rd' h.len
theorem FilR.bod (h : FilR W lo hi A c R n L) (hL : ∀ y ∈ L, y.2.length ≤ 140737488355328) : ∀ r ∈ R, Rd .u8 W r.2.A r.2.body.length r.2.body ∧ r.2.body.length ≤ 140737488355328 := fun r hr =>
  ⟨(h.t.own r.2 (List.mem_map.2 ⟨r, hr, rfl⟩)).rd, hL (r.1, r.2.body) (by rw [← h.m]; exact List.mem_map.2 ⟨r, hr, rfl⟩)⟩
theorem FilR.alike (h : FilR W lo hi A c R n L) (k : FilR W lo2 hi2 B c2 R2 n L) (hL : ∀ y ∈ L, y.2.length ≤ 140737488355328) (hn : n ≤ 400) :
    Calls Try.prog 30 #[.slice A n c, .slice B n c2] W fun e w' => e = .returned (.bool true) ∧ Ext W w' := by
  have q := ralike_any (n := n) (m := n) (c := c) (d := c2) h.rd k.rd (h.bod hL) (k.bod hL) (by omega)
  rw [show decide (flL R = flL R2) = true from decide_eq_true (h.m.trans k.m.symm)] at q
  exact q
theorem FilR.sbody (h : FilR W lo hi A c R n L) : (R.map fun r => r.2).map Sl.body = L.map fun y => y.2 := by
  rw [← h.m, List.map_map, List.map_map]
  rfl
/-- Apart from the other list, which was made ahead. -/
theorem FilR.apart {A3 A4 : Option Addr} {c3 c4 b3 b4 : Nat} (h : FilR W lo hi A c R n L) (k : FilR W lo2 hi2 B c2 R2 n L) (hk : hi2 ≤ lo) (hL : ∀ y ∈ L, y.2.length ≤ 140737488355328 ∧ U8 y.2) (hn : n ≤ 400) (d3 : OwnS W b3 A3 c3 (R.map fun r => r.2)) (d4 : OwnS W b4 A4 c4 (R2.map fun r => r.2)) (h3 : hi ≤ b3) (h4 : hi ≤ b4) :
    Calls Try.prog 39 #[.slice A3 n c3, .slice A4 n c4] W fun e w' => e = .returned (.bool true) ∧ Kept W w' (R.map fun r => r.2) := by
  have hw : Within (R.map fun r => r.2) lo hi := fun s hs p hp => ⟨((h.t.own s hs).block p hp).1, h.hB s hs p hp⟩
  have l1 : (R.map fun r => r.2).length = n := by rw [List.length_map]; exact h.len
  have l2 : (R2.map fun r => r.2).length = n := by rw [List.length_map]; exact k.len
  have hm : ∀ s ∈ R.map (fun r => r.2), ∃ y ∈ L, y.2 = s.body := fun s hs => by
    obtain ⟨r, hr, rfl⟩ := List.mem_map.1 hs
    exact ⟨(r.1, r.2.body), by rw [← h.m]; exact List.mem_map.2 ⟨r, hr, rfl⟩, rfl⟩
  refine apartAllD_any A3 A4 n c3 c4 _ _ W (by have q := d3.rdL; rw [l1] at q; exact q) (by have q := d4.rdL; rw [l2] at q; exact q) (h.sbody.trans k.sbody.symm) (by omega) (fun s hs => (h.t.own s hs).zero) (fun s hs => by obtain ⟨y, hy, e⟩ := hm s hs; rw [← e]; exact (hL y hy).2) (fun s hs => by obtain ⟨y, hy, e⟩ := hm s hs; rw [← e]; exact (hL y hy).1) (fun t ht => (k.t.own t ht).rd) h.t.unlike (fun _ => hw.far_hi fun a ha => Nat.le_trans h3 (d3.block a ha).1) (fun _ => hw.far_hi fun a ha => Nat.le_trans h4 (d4.block a ha).1) (fun t ht _ => hw.far_lo fun a ha => Nat.lt_of_lt_of_le (k.hB t ht a ha) hk)
theorem FilR.keptExt {w0 : World} (h : FilR W lo hi A c R n L) (hk : Kept W W' (R.map fun r => r.2)) (he : Ext w0 W) (hl : w0.heap.size ≤ lo) : Ext w0 W' :=
  hk.toExt he (fun s hs p hp => Nat.le_trans hl ((h.t.own s hs).block p hp).1)
/-- What was made behind stays. -/
theorem FilR.behind (h : FilR W lo hi A c R n L) (hk : Kept W W' (R.map fun r => r.2)) {n2 : Nat} {L2 : List (List UInt8 × List Nat)} (k : FilR W lo2 hi2 B c2 R2 n2 L2) (hl : hi ≤ lo2) : FilR W' lo2 hi2 B c2 R2 n2 L2 := by
  have e : ∀ b, lo2 ≤ b → b < W.heap.size → W'.heap[b]? = W.heap[b]? := fun b hb hlt => hk.block b hlt (fun s hs p hp q => by have := h.hB s hs p hp; omega)
  exact ⟨k.o.blk (fun a ha => e _ (k.o.block a ha).1 (k.o.block a ha).2), ⟨fun s hs => (k.t.own s hs).blk (fun a ha => e _ ((k.t.own s hs).block a ha).1 ((k.t.own s hs).block a ha).2), k.t.apart⟩, k.m, k.l, k.hB, k.hiA⟩
end

set_option maxHeartbeats 1600000 in
theorem apartD_any (A A2 A3 : Option Addr) (n c c2 c3 base : Nat) (xs : List Nat) (w0 w : World) (hx : Own .u8 5 w base A c xs) (hl : xs.length = n) (hu : U8 xs)
    (hy : Rd .u8 w A2 n xs) (hz : Rd .u8 w A3 n xs) (ne2 : 0 < n → ∀ a a2, A = some a → A2 = some a2 → a2.block ≠ a.block) (ne3 : 0 < n → ∀ a a3, A = some a → A3 = some a3 → a3.block ≠ a.block)
    (hE : Ext w0 w) (hbase : w0.heap.size ≤ base) (hbw : base ≤ w.heap.size) (hn : n + 70 ≤ 180000000000000) :
    Calls Try.prog 42 #[.slice A n c, .slice A2 n c2, .slice A3 n c3] w fun e w' => e = .returned (.bool true) ∧ Ext w0 w' := by
  have Hl := Lib.hid hl
  clear hl
  have hx1 := hx.rd' Hl.out
  go_enter Try.func42, Try.ntmps42
  go_wp2_with fail
  refine (same_yes hx1 hz (by omega)).mono ?_
  rintro e w1 ⟨rfl, q1, rfl⟩
  go_wp2_with fail
  refine (same_yes (hy.drewN q1) (hz.drewN q1) (by omega)).mono ?_
  rintro e w1 ⟨rfl, q2, rfl⟩
  go_wp2_with fail
  refine (spoil_any A n c base xs _ (hx.ext ((Ext.refl _).drewN _)) Hl.out hu (by omega)).mono ?_
  rintro e w2 ⟨rfl, hx2, hg2⟩
  go_wp2_with fail
  have hsp : (xs.map spl).length = n := by rw [List.length_map, Hl.out]
  have hE2 : Ext w0 w2 := grownBy_ext (hE.drewN _) hg2 (by
    intro g hg
    cases hA : A with
    | none => rw [hA] at hg; simp at hg
    | some a => rw [hA] at hg; simp at hg; subst hg; exact Nat.le_trans hbase (hx.block a hA).1)
  have hne : ∀ {X : Option Addr}, (0 < n → ∀ a a2, A = some a → X = some a2 → a2.block ≠ a.block) → 0 < n → ∀ a, X = some a → some a.block ≠ A.map (·.block) := by
    intro X hX hn a ha e
    cases hA : A with
    | none => rw [hA] at e; simp at e
    | some a1 => rw [hA] at e; simp at e; exact hX hn a1 a hA ha e
  have h0 : ∃ ys, Aside w0 w2 A A2 A3 A n c 0 base (xs.map spl) xs ys := ⟨xs.map spl, hx2, hsp, List.take_of_length_le (Nat.le_of_eq hsp), hx2.rd' hsp, (hy.drewN (q1 + q2)).grown0 hg2 (hne ne2), (hz.drewN (q1 + q2)).grown0 hg2 (hne ne3), fun _ a a1 ha ha1 => .inl (by rw [ha] at ha1; injection ha1 with h; exact h.symm), ne2, ne3, hE2, by have := hg2.size; simp at this; omega⟩
  clear hx2 hg2 hE2 hne hx1
  have Hb := Lib.hid hbase
  clear hbase
  go_loopw [7, 8] (fun v i wr => ∃ (j : Nat) (A' : Option Addr) (c' : Nat) (ys : List Nat), j ≤ 70 ∧ i = .int .i64 j ∧ v = .slice A' (n + j : Nat) c' ∧ Aside w0 wr A A2 A3 A' n c' j base (xs.map spl) xs ys) (fun _ i _ => 70 - (intOf i).toNat)
  case atStart => obtain ⟨ys, h0⟩ := h0; exact ⟨0, _, _, ys, Nat.zero_le _, rfl, rfl, h0⟩
  case round =>
    clear h0
    obtain ⟨j, A', c', ys, hj, rfl, rfl, has⟩ := hrel
    have hsz := has.size
    by_cases hlt : j < 70
    · have hm := mod256 hlt
      have Hown := Lib.hid has.own
      have Hlen := Lib.hid has.len
      have Has := Lib.hid has
      clear has
      go_wp2_with (at_builtin; refine wpList_push2 .u8 j 5 rfl _ _ 22 rfl _ 1 Try.underlying22 Try.infoU8 rfl Hown.out (n + j) Hlen.out rfl rfl rfl (by omega) (by omega) hsz ?_; intro A1 c1 w1 hown1 hw1 hz1)
      have Hn := Lib.hid (Has.out.push Hb.out hown1 hw1 hz1)
      clear hown1 hw1 hz1
      go_wp2
      go_roundw
      case rel => exact ⟨j + 1, A1, c1, _, by omega, by go_num, rfl, Hn.out⟩
      case measure => simp [intOf]; omega
    · obtain rfl : j = 70 := by omega
      have hr1 := has.rd1
      have hr2 := has.rd2
      have hr3 := has.rd3
      have he := has.ext
      clear has
      go_wp2_with fail
      refine (turned_yes hr1 hr3 hu (by omega)).mono ?_
      rintro e w3 ⟨rfl, q3, rfl⟩
      go_wp2_with fail
      refine (same_yes (hr2.drewN q3) (hr3.drewN q3) (by omega)).mono ?_
      rintro e w3 ⟨rfl, q4, rfl⟩
      go_wp2_with fail
      go_ret
      exact ⟨rfl, he.drewN _⟩


end Go.Proofs.Ytjckfbpdnpehcaa
