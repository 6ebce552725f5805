/-
  Layer 14: all files of a directory, told.
-/
import Derived.Test.YtjckfbpdnpehcaaDKm
namespace Go.Proofs.Ytjckfbpdnpehcaa
open Go.RowKit Go.Maps Go.WideMaps
set_option maxRecDepth 100000

def shF : Shape (List UInt8 × Sl) := ⟨fun r => [nm r.1, r.2.v], 2, fun _ => rfl, by
  intro x u hu
  simp only [List.mem_cons, List.not_mem_nil, or_false] at hu
  rcases hu with rfl | rfl <;> rfl⟩
theorem Try.infoFl : (Try.prog.info? 47).map (fun i => (i.zero, i.size, i.bytes)) = some (some (Value.agg #[.string ByteArray.empty, .slice none 0 0]), 2, 40) := by kernel_rfl

/-- Files as a call's own. -/
def FilesPost (L : List (List UInt8 × List Nat)) (w : World) (e : Ending) (w' : World) : Prop :=
  ∃ A c R, e = .returned (.slice A L.length c) ∧ (R.map fun r : List UInt8 × Sl => (r.1, r.2.body)) = L ∧ OwnG shF 47 w' w.heap.size A c R ∧ Txts w' w.heap.size (R.map fun r => r.2) ∧ Ext w w'

theorem Txts.grownF {w w' : World} {base base' c : Nat} {A : Option Addr} {ts : List Sl} (h : Txts w base ts) {R : List (List UInt8 × Sl)} (k : OwnG shF 47 w base' A c R) (hg : w.grownBy w' (Value.slice A R.length c).ownBlock) : Txts w' base ts :=
  ⟨fun s hs => (h.own s hs).grown hg (fun a ha e => by
    cases A with
    | none => simp [Value.ownBlock] at e
    | some a0 =>
      simp only [Value.ownBlock] at e
      obtain ⟨cur, h1⟩ := (h.own s hs).ty a ha
      obtain ⟨cur', h2⟩ := k.ty a0 rfl
      exact ne_ty h1 h2 (by decide) (Option.some.inj e)), h.apart⟩

set_option maxHeartbeats 3200000 in
theorem told_any {w : World} {b : Nat} {d : Dir} {f : FuncId} {g : Nat → List Nat} (h : DirR w b d) (hl : d.length ≤ 1000000) (hn : ∀ e ∈ d, e.1.length ≤ 40) (hf : ∀ args W, (callFunc f args).run Try.prog W = .ok (.enter f args) W)
    (hp : ∀ e ∈ d, ∀ W, Ext w W → (g e.2).length ≤ 180000000000000 ∧ Calls Try.prog f #[.pointer (some ⟨e.2, 0, none⟩)] W fun x w' => ∃ A c, x = .returned (.slice A (g e.2).length c) ∧ Rd .u8 w' A (g e.2).length (g e.2) ∧ Ext W w') :
    Calls Try.prog 67 #[.map (some b), .func (.func f) #[] #[]] w (FilesPost (d.map fun e => (e.1, g e.2)) w) := by
  unfold FilesPost
  have CN := Lib.hid (names_any h hl)
  have Hd := Lib.hid h
  have Hn := Lib.hid hn
  have HF := Lib.hid hf
  have HP := Lib.hid hp
  have HL : Hid ((d.map fun e => (e.1, g e.2)).length = d.length) := Lib.hid (List.length_map _)
  obtain ⟨m, hm⟩ : ∃ m, m = d.length := ⟨_, rfl⟩
  rw [← hm] at CN HL
  have Hm := Lib.hid hm
  have hm6 : m ≤ 1000000 := by omega
  clear h hl hn hf hp hm
  go_enter Try.func67, Try.ntmps67
  go_wp2_with fail
  refine CN.out.mono ?_
  rintro e w2 ⟨An, cn, rfl, hON, hE2⟩
  have HON := Lib.hid hON
  have HE2 := Lib.hid hE2
  clear hON hE2 CN
  go_wp2_with fail
  go_loopw [5, 7, 11] (fun v _ i wr => ∃ (j : Nat) (A : Option Addr) (c : Nat) (R : List (List UInt8 × Sl)), j ≤ m ∧ v = .slice A j c ∧ i = .int .i64 (j : Int) ∧ Hid (R.length = j) ∧ Hid ((R.map fun r : List UInt8 × Sl => (r.1, r.2.body)) = (d.take j).map fun e => (e.1, g e.2)) ∧ Hid (OwnG shF 47 wr w2.heap.size A c R) ∧ Hid (Txts wr w2.heap.size (R.map fun r => r.2)) ∧ Hid (Ext w2 wr)) (fun _ _ i _ => m - (intOf i).toNat)
  case atStart => exact ⟨0, none, 0, [], Nat.zero_le _, rfl, rfl, Lib.hid rfl, Lib.hid (by simp), Lib.hid (OwnG.nil _ _ _ _), Lib.hid (Txts.nil _ _), Lib.hid (Ext.refl _)⟩
  case round =>
    obtain ⟨j, A, c, R, hj, rfl, rfl, HR1, HR2, HO, HT, HE⟩ := hrel
    by_cases hlt : j < m
    · obtain ⟨bn, x, hA, hbl, hblt, hc, hce, _⟩ := HON.out.at_ (j := j) (by rw [List.length_map]; have := Hm.out; omega)
      have hce := hce 0 _ rfl
      have hcr : wr.cell? ⟨bn, j, none⟩ = some (nm x) := by
        have e1 := (World.cell?_of_block (w := w2) (w' := wr) (a := ⟨bn, j, none⟩) (HE.out.block bn hblt))
        rw [e1]
        simpa [shNm] using hce
      rw [hA]
      obtain ⟨q, hDj⟩ : ∃ q, d[j]? = some (x, q) := by
        rw [List.getElem?_map] at hc
        cases hDj : d[j]? with
        | none => rw [hDj] at hc; cases hc
        | some e => rw [hDj] at hc; injection hc with hc; exact ⟨e.2, by rw [← hc]⟩
      have hmem := List.mem_of_getElem? hDj
      have hE : Ext w wr := HE2.out.trans HE.out
      have hdr := Hd.out.ext hE
      have lk := hdr.look (x := x) (by have := Hn.out _ hmem; unfold maxLen; simp only at this; omega)
      rw [(lkp_mem hdr.asc).2 hmem] at lk
      replace lk : (Instr.lookup 84 (.map (some b)) (nm x) false).run Try.prog wr = .ok (.pointer (some ⟨q, 0, none⟩)) wr := lk
      obtain ⟨hgl, hcall⟩ := HP.out _ hmem wr hE
      simp only at hgl hcall
      obtain ⟨G, hG⟩ : ∃ G, G = g q := ⟨_, rfl⟩
      rw [← hG] at hgl hcall
      obtain ⟨mg, hmg⟩ : ∃ m, m = G.length := ⟨_, rfl⟩
      rw [← hmg] at hgl hcall
      have Hmg := Lib.hid hmg
      have HC := Lib.hid hcall
      have HG := Lib.hid hG
      have HDj := Lib.hid hDj
      have Hlt := Lib.hid hlt
      have hbd : ((j + 1) + (j + 1) / 4 + 192) * 40 ≤ 281474976710656 := by omega
      clear hA hbl hblt hc hce hDj hmem hdr hcall hG hE hlt hmg
      go_wp2_with fail
      rw [HF.out, Oper.upon_enter]
      refine HC.out.mono ?_
      rintro e w3 ⟨A3, c3, rfl, hrd3, hE3⟩
      have C4 := Lib.hid (clone_any A3 mg c3 G w3 hrd3 hgl)
      have HE3 := Lib.hid hE3
      clear hrd3 hE3
      go_wp2_with fail
      refine C4.out.mono ?_
      rintro e w4 ⟨A4, c4, rfl, ho4, hE4⟩
      have HO4 := Lib.hid ho4
      have HE34 : Hid (Ext wr w4) := Lib.hid (HE3.out.trans hE4)
      have HOr : Hid (OwnG shF 47 w4 w2.heap.size A c R) := Lib.hid (HO.out.ext HE34.out)
      have HT4 : Hid (Txts w4 w2.heap.size ((R ++ [((x, (⟨A4, c4, G⟩ : Sl)) : List UInt8 × Sl)]).map fun r : List UInt8 × Sl => r.2)) := Lib.hid (by
        rw [List.map_append]
        exact (HT.out.ext HE34.out).snoc (s := ⟨A4, c4, G⟩) ho4 (Nat.le_trans HE.out.size HE3.out.size) (fun t ht p hp => Nat.lt_of_lt_of_le (HT.out.lt t ht p hp) HE3.out.size))
      have Hz : Hid (w2.heap.size ≤ w4.heap.size) := Lib.hid (Nat.le_trans HE.out.size HE34.out.size)
      have Hv : Hid (Sl.v ⟨A4, c4, G⟩ = .slice A4 mg c4) := Lib.hid (by rw [Hmg.out]; rfl)
      have Hal : Hid ((w4.alloc (.cells #[nm x, .slice A4 mg c4] 47)).heap[w4.heap.size]? = some (.cells (shF.cells (x, ⟨A4, c4, G⟩)).toArray 47)) := Lib.hid (by rw [show shF.cells (x, ⟨A4, c4, G⟩) = [nm x, Sl.v ⟨A4, c4, G⟩] from rfl, Hv.out]; exact heap_alloc_new _ _)
      clear ho4 hE4
      go_wp2_with (at_builtin; go_loud (refine wpList_pushG (w0 := _) (base := w2.heap.size) shF (x, ⟨A4, c4, G⟩) 47 rfl _ _ 51 rfl _ 40 Try.underlying51 Try.infoFl rfl (by decide) (HOr.out.ext ((Ext.refl _).alloc _)) j HR1.out rfl rfl Hal.out hbd (by omega) (Below.refl _ _) (by simp; have := Hz.out; omega) ?_; intro A5 c5 w5 ho5 hg5 _ hz5))
      go_roundw
      case rel =>
        have hga := (World.grownBy_alloc w4 (.cells #[nm x, .slice A4 mg c4] 47) (Value.slice A j c).ownBlock).trans hg5
        have hx5 : Ext w4 w5 ∨ True := .inr trivial
        have hE5 : Ext w2 w5 := by
          have h1 : w2.grownBy w4 none := ⟨(HE.out.trans HE34.out).os, (HE.out.trans HE34.out).tape, (HE.out.trans HE34.out).output, (HE.out.trans HE34.out).size, fun i hi _ => (HE.out.trans HE34.out).block i hi⟩
          have h2 := h1.andThen hga (fun k hk => .inl (OwnG.newK HOr.out k hk))
          exact ⟨h2.os, h2.tape, h2.output, h2.size, fun i hi => h2.block i hi (by simp)⟩
        have hT5 : Txts w5 w2.heap.size ((R ++ [((x, (⟨A4, c4, G⟩ : Sl)) : List UInt8 × Sl)]).map fun r : List UInt8 × Sl => r.2) := HT4.out.grownF HOr.out (by rw [HR1.out]; exact hga)
        refine ⟨j + 1, A5, c5, R ++ [(x, ⟨A4, c4, G⟩)], by have := Hlt.out; omega, rfl, by go_num, Lib.hid (by rw [List.length_append, HR1.out]; rfl), Lib.hid ?_, Lib.hid ho5, Lib.hid hT5, Lib.hid hE5⟩
        rw [List.map_append, HR2.out, List.take_add_one, HDj.out]
        simp only [List.map_append, List.map_cons, List.map_nil, Option.toList]
        rw [HG.out]
      case measure => simp [intOf]; have := Hlt.out; omega
    · obtain rfl : j = m := by omega
      clear hlt
      go_wp2_with fail
      go_ret
      refine ⟨A, c, R, congrArg (fun z : Nat => Ending.returned (.slice A z c)) HL.out.symm, ?_, HO.out.mono HE2.out.size, ⟨fun s hs => (HT.out.own s hs).mono HE2.out.size, HT.out.apart⟩, HE2.out.trans HE.out⟩
      rw [HR2.out, Hm.out, List.take_of_length_le (Nat.le_refl _)]

theorem files1_call (args : Array Value) (W : World) : (callFunc 68 args).run Try.prog W = .ok (.enter 68 args) W := by
  have h1 : Try.f68.name ≠ "runtime.NumGoroutine" := by decide
  have h2 : Try.f68.body ≠ none := by intro h; cases h
  simp [callFunc, Try.func68, h1, h2]
theorem safe1_call (args : Array Value) (W : World) : (callFunc 75 args).run Try.prog W = .ok (.enter 75 args) W := by
  have h1 : Try.f75.name ≠ "runtime.NumGoroutine" := by decide
  have h2 : Try.f75.body ≠ none := by intro h; cases h
  simp [callFunc, Try.func75, h1, h2]

section
variable {w w' : World} {X : Nat → Prop} {base dp : Nat} {S : DS} {I : DI}
def filesC (S : DS) : List (List UInt8 × List Nat) := S.files.map fun e => (e.1, (fileD S e.2).data)
def safeC (S : DS) : List (List UInt8 × List Nat) := S.safe.map fun e => (e.1, (fileD S e.2).data.take (fileD S e.2).safe)
theorem files_any (h : DK w X base dp S I) (hf : Fit S 140737488355328) : Calls Try.prog 27 #[.pointer (some ⟨dp, 0, none⟩)] w (FilesPost (filesC S) w) := by
  obtain ⟨c0, c1, c2, c3, c4, c5, c6⟩ := h.at_
  have C := Lib.hid (told_any (f := 68) (g := fun q => (fileD S q).data) h.dF (by have := h.few; omega) (fun e he => (h.idF e.1 e.2 ((lkp_mem h.dF.asc).2 he)).1) files1_call (fun e he W hW => by
    obtain ⟨_, f, hm⟩ := h.idF e.1 e.2 ((lkp_mem h.dF.asc).2 he)
    have hfd := fileD_mem h.nd hm
    obtain ⟨k1, _, _⟩ := (h.ext hW).fil e.2 f hm
    have hlen := hf.len e.2 f hm
    simp only [hfd]
    refine ⟨by omega, ?_⟩
    have e0 : W.cell? ⟨e.2, 0, none⟩ = some (.slice (I.rows e.2) f.data.length (I.caps e.2)) := cell_of_row W e.2 0 _ _ (0, 0) k1.blk
    have hrd := Lib.hid k1.own.rd
    obtain ⟨m, hm2⟩ : ∃ m, m = f.data.length := ⟨_, rfl⟩
    rw [← hm2] at e0 hrd
    rw [← hm2]
    obtain ⟨p, hp⟩ : ∃ p, p = e.2 := ⟨_, rfl⟩
    rw [← hp] at e0 hrd
    rw [← hp]
    clear k1 hlen hm2 hm hfd hp
    go_enter Try.func68, Try.ntmps68
    go_wp2
    go_ret
    exact ⟨_, _, rfl, hrd.out, Ext.refl _⟩))
  unfold FilesPost at C ⊢
  rw [show (S.files.map fun e => (e.1, (fun q => (fileD S q).data) e.2)) = filesC S from rfl] at C
  clear h c0 c2 c3 c4 c5 c6 hf
  go_enter Try.func27, Try.ntmps27
  go_wp2_with fail
  refine C.out.mono ?_
  rintro e w1 ⟨A, c, R, rfl, h1, h2, h3, h4⟩
  have H1 := Lib.hid h1
  have H2 := Lib.hid h2
  have H3 := Lib.hid h3
  have H4 := Lib.hid h4
  clear h1 h2 h3 h4
  go_wp2
  go_ret
  exact ⟨A, c, R, rfl, H1.out, H2.out, H3.out, H4.out⟩

theorem safe_any (h : DK w X base dp S I) (hf : Fit S 140737488355328) (hl : S.safe.length ≤ 1000000) : Calls Try.prog 38 #[.pointer (some ⟨dp, 0, none⟩)] w (FilesPost (safeC S) w) := by
  obtain ⟨c0, c1, c2, c3, c4, c5, c6⟩ := h.at_
  have C := Lib.hid (told_any (f := 75) (g := fun q => (fileD S q).data.take (fileD S q).safe) h.dS hl (fun e he => (h.idS e.1 e.2 ((lkp_mem h.dS.asc).2 he)).1) safe1_call (fun e he W hW => by
    obtain ⟨_, f, hm⟩ := h.idS e.1 e.2 ((lkp_mem h.dS.asc).2 he)
    have hfd := fileD_mem h.nd hm
    obtain ⟨k1, _, _⟩ := (h.ext hW).fil e.2 f hm
    have hlen := hf.len e.2 f hm
    have hle := k1.le
    have hcap := k1.own.cap
    simp only [hfd]
    have hl2 : (f.data.take f.safe).length = f.safe := by rw [List.length_take]; omega
    rw [hl2]
    refine ⟨by omega, ?_⟩
    have e0 : W.cell? ⟨e.2, 0, none⟩ = some (.slice (I.rows e.2) f.data.length (I.caps e.2)) := cell_of_row W e.2 0 _ _ (0, 0) k1.blk
    have e1 : W.cell? ⟨e.2, 1, none⟩ = some (.int .i64 (f.safe : Int)) := cell_of_row W e.2 1 _ _ (0, 0) k1.blk
    have hrd := Lib.hid (fun W2 (h2 : Ext W W2) => ((k1.own.rd.upto hle).ext h2))
    have hsl := run_upto .i64 (I.rows e.2) f.data.length (I.caps e.2) f.safe (by omega)
    obtain ⟨m, hm2⟩ : ∃ m, m = f.data.length := ⟨_, rfl⟩
    obtain ⟨s, hs2⟩ : ∃ s, s = f.safe := ⟨_, rfl⟩
    rw [← hm2] at e0 hsl
    obtain ⟨G, hG⟩ : ∃ G, G = f.data.take f.safe := ⟨_, rfl⟩
    rw [← hG] at hrd
    rw [← hG]
    rw [← hs2] at e1 hrd hsl
    rw [← hs2]
    obtain ⟨p, hp⟩ : ∃ p, p = e.2 := ⟨_, rfl⟩
    rw [← hp] at e0 e1 hrd hsl
    rw [← hp]
    clear k1 hlen hle hcap hm2 hs2 hm hfd hp hl2 hG
    go_enter Try.func75, Try.ntmps75
    go_wp2_with fail
    go_region
    all_goals
      go_wp2
      go_ret
      exact ⟨_, _, rfl, hrd.out _ (Ext.refl _).drew, (Ext.refl _).drew⟩))
  unfold FilesPost at C ⊢
  rw [show (S.safe.map fun e => (e.1, (fun q => (fileD S q).data.take (fileD S q).safe) e.2)) = safeC S from rfl] at C
  clear h c0 c1 c3 c4 c5 c6 hf hl
  go_enter Try.func38, Try.ntmps38
  go_wp2_with fail
  refine C.out.mono ?_
  rintro e w1 ⟨A, c, R, rfl, h1, h2, h3, h4⟩
  have H1 := Lib.hid h1
  have H2 := Lib.hid h2
  have H3 := Lib.hid h3
  have H4 := Lib.hid h4
  clear h1 h2 h3 h4
  go_wp2
  go_ret
  exact ⟨A, c, R, rfl, H1.out, H2.out, H3.out, H4.out⟩
end

end Go.Proofs.Ytjckfbpdnpehcaa
