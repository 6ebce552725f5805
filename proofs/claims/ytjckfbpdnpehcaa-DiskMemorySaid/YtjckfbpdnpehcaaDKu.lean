/-
  Layer 14: a disk made with files.
-/
import Derived.Test.YtjckfbpdnpehcaaDKo
namespace Go.Proofs.Ytjckfbpdnpehcaa
open Go.RowKit Go.Maps Go.WideMaps
set_option maxRecDepth 100000

/-- One file laid. -/
def ldStep (e : List UInt8 × List Nat) (q : Nat) (S : DS) : DS := { S with fl := S.fl ++ [(q, ⟨e.2, e.2.length⟩)], files := putD S.files e.1 q, chs := S.chs ++ [.cr e.1 q] }
def ldS (S : DS) (F : List (List UInt8 × List Nat)) (ids : Nat → Nat) : Nat → DS
  | 0 => S
  | j + 1 => match F[j]? with
    | some e => ldStep e (ids j) (ldS S F ids j)
    | none => ldS S F ids j
theorem ldS_congr {S : DS} {F : List (List UInt8 × List Nat)} {ids ids' : Nat → Nat} : ∀ j, (∀ i, i < j → ids i = ids' i) → ldS S F ids j = ldS S F ids' j
  | 0, _ => rfl
  | j + 1, h => by
    unfold ldS
    rw [ldS_congr j (fun i hi => h i (by omega)), h j (by omega)]
/-- The first j files could be laid. -/
structure Laid (S0 : DS) (F : List (List UInt8 × List Nat)) (ids : Nat → Nat) (j : Nat) : Prop where
  ok : ∀ i e, i < j → F[i]? = some e → refC (ldS S0 F ids i) e.1 = 0
  new : ∀ i f, i < j → (ids i, f) ∉ (ldS S0 F ids i).fl

section
variable {w w' : World} {X : Nat → Prop} {base dp : Nat} {S : DS} {I : DI}
theorem DK.addData (h : DK w X base dp S I) {q : Nat} {bs : List Nat} {A : Option Addr} {c : Nat} (hq : w.heap[q]? = some (.cells #[.slice A bs.length c, .int .i64 (bs.length : Int)] 96 (0, 0))) (ho : Own .u8 5 w base A c bs) (hu : U8 bs) (hX : X q) (hXA : ∀ a, A = some a → X a.block) (hf : ∀ f, (q, f) ∉ S.fl) (hs : ∀ p f a a', (p, f) ∈ S.fl → I.rows p = some a' → A = some a → a.block ≠ a'.block) :
    DK w X base dp { S with fl := S.fl ++ [(q, ⟨bs, bs.length⟩)] } { I with rows := fun k => if k = q then A else I.rows k, caps := fun k => if k = q then c else I.caps k } where
  blk := h.blk
  xs := h.xs
  bd := h.bd
  dF := h.dF
  dS := h.dS
  ne := h.ne
  row := h.row
  rx := h.rx
  cln := h.cln
  cls := h.cls
  fil := by
    intro p f hp
    rcases List.mem_append.1 hp with hp | hp
    · have hne : p ≠ q := fun e => hf f (e ▸ hp)
      simp only [if_neg hne]
      exact h.fil p f hp
    · rw [List.mem_singleton] at hp
      injection hp with h1 h2
      subst h2
      rw [h1]
      refine ⟨⟨?_, ?_, hu, Nat.le_refl _, (h.bd _ hX).1⟩, hX, fun a ha => ?_⟩
      · simp only [if_pos]; exact hq
      · simp only [if_pos]; exact ho
      · simp only [if_pos] at ha; exact hXA a ha
  nd := by
    refine List.pairwise_append.2 ⟨h.nd, List.pairwise_singleton _ _, fun a ha b hb => ?_⟩
    rw [List.mem_singleton] at hb
    subst hb
    exact fun e => hf a.2 (by rw [show q = a.1 from e.symm]; exact ha)
  sep := by
    intro p f p' f' a a' hp hp' ra ra' hne
    have m : ∀ (k : Nat) (g : FS), k ≠ q → (k, g) ∈ S.fl ++ [(q, (⟨bs, bs.length⟩ : FS))] → (k, g) ∈ S.fl := fun k g hk hm => by
      rcases List.mem_append.1 hm with hm | hm
      · exact hm
      · rw [List.mem_singleton] at hm; injection hm with h1 _; exact absurd h1 hk
    by_cases e : p = q
    · by_cases e' : p' = q
      · exact absurd (e.trans e'.symm) hne
      · simp only [if_pos e] at ra
        simp only [if_neg e'] at ra'
        exact hs p' f' a a' (m _ _ e' hp') ra' ra
    · by_cases e' : p' = q
      · simp only [if_neg e] at ra
        simp only [if_pos e'] at ra'
        exact Ne.symm (hs p f a' a (m _ _ e hp) ra ra')
      · simp only [if_neg e] at ra
        simp only [if_neg e'] at ra'
        exact h.sep p f p' f' a a' (m _ _ e hp) (m _ _ e' hp') ra ra' hne
  idF := fun x p hp => by obtain ⟨h1, f, h2⟩ := h.idF x p hp; exact ⟨h1, f, List.mem_append.2 (.inl h2)⟩
  idS := fun x p hp => by obtain ⟨h1, f, h2⟩ := h.idS x p hp; exact ⟨h1, f, List.mem_append.2 (.inl h2)⟩
  idC := fun x p hp => by obtain ⟨f, h2⟩ := h.idC x p hp; exact ⟨f, List.mem_append.2 (.inl h2)⟩
  pl := h.pl
  few := h.few

theorem hist_ld {S : DS} (h : Sure S) (e : List UInt8 × List Nat) (q : Nat) (hr : refC S e.1 = 0) : Hist (ldStep e q S) := by
  obtain ⟨h1, h2, h3⟩ := refC_ok hr
  have hS : Hist { S with fl := S.fl ++ [(q, (⟨e.2, e.2.length⟩ : FS))] } := h.hist.sub rfl rfl rfl (fun p hp => by obtain ⟨f, hf⟩ := hp; exact ⟨f, List.mem_append.2 (.inl hf)⟩)
  refine hS.snoc (.cr e.1 q) (nm40 h1) ?_ ?_
  · have := len_put h.asc e.1 q
    rw [h2] at this
    show (putD S.files e.1 q).length ≤ 400
    rw [this]
    simp
    omega
  · intro y p hp
    have hp : lkp (putD S.files e.1 q) y = some p := hp
    rw [lkp_put h.asc] at hp
    split at hp
    · rename_i e1
      injection hp with hp
      subst hp
      rw [e1]
      exact ⟨nm40 h1, _, List.mem_append.2 (.inr (List.mem_singleton.2 rfl))⟩
    · obtain ⟨k1, f, k2⟩ := h.idF y p hp
      exact ⟨k1, f, List.mem_append.2 (.inl k2)⟩

theorem DK.laid1 {V v1 v2 : World} {A : Option Addr} {c : Nat} {bs : List Nat} (h : DK V X base dp S I) (hx : Ext V v1) (ho : Own .u8 5 v1 V.heap.size A c bs) (hu : U8 bs) {m : Nat} (hm : m = bs.length) (hxx : Ext (v1.alloc (.cells #[.slice A m c, .int .i64 (m : Int)] 96)) v2) :
    DK v2 (fun b => X b ∨ (V.heap.size ≤ b ∧ b < v2.heap.size)) base dp { S with fl := S.fl ++ [(v1.heap.size, ⟨bs, bs.length⟩)] } { I with rows := fun k => if k = v1.heap.size then A else I.rows k, caps := fun k => if k = v1.heap.size then c else I.caps k } := by
  have hx2 : Ext V v2 := (hx.trans ((Ext.refl v1).alloc _)).trans hxx
  have s1 := hx.size
  have s2 := hxx.size
  have s3 : v1.heap.size < v2.heap.size := by simp at s2; omega
  have hb := h.bd dp h.xs.1
  subst hm
  have ho2 : Own .u8 5 v2 V.heap.size A c bs := (ho.ext ((Ext.refl v1).alloc _)).ext hxx
  have hbk := ho.block
  refine (h.grow hx2).addData ((hxx.block v1.heap.size (by simp)).trans (heap_alloc_new v1 _)) (ho2.mono (by omega)) hu (.inr ⟨s1, s3⟩) (fun a ha => .inr ⟨(hbk a ha).1, by have := (hbk a ha).2; omega⟩) (fun f hf => ?_) (fun p f a a' hp ra ha e => ?_)
  · have := (h.bd _ (h.fil _ f hf).2.1).2; omega
  · have := (h.bd _ ((h.fil p f hp).2.2 a' ra)).2
    have := (hbk a ha).1
    omega
theorem refC_fl (S : DS) (l : List (Nat × FS)) (x : List UInt8) : refC { S with fl := l } x = refC S x := rfl

/-- What Load leaves. -/
def LoadPost (room : Int) (F : List (List UInt8 × List Nat)) (w : World) (e : Ending) (w' : World) : Prop :=
  (∃ dp ids, e = .returned (.tuple #[.pointer (some ⟨dp, 0, none⟩), .int .i64 0]) ∧ Laid (newS room) F ids F.length ∧ DkR w' (fun b => b < w.heap.size) dp { ldS (newS room) F ids F.length with safe := (ldS (newS room) F ids F.length).files, chs := [] } ∧ Ext w w') ∨
  (∃ ids j x, j < F.length ∧ e = .returned (.tuple #[.pointer none, .int .i64 (refC (ldS (newS room) F ids j) x.1)]) ∧ F[j]? = some x ∧ Laid (newS room) F ids j ∧ refC (ldS (newS room) F ids j) x.1 ≠ 0 ∧ Ext w w')

set_option maxHeartbeats 6400000 in
theorem load_any (room : Int) {A : Option Addr} {n c : Nat} {R : List (List UInt8 × Sl)} {w : World} (hr : RdG shF w A n R) (hb : ∀ r ∈ R, r.1.length ≤ 140737488355328 ∧ Rd .u8 w r.2.A r.2.body.length r.2.body ∧ U8 r.2.body ∧ r.2.body.length ≤ 140737488355328) (hn : n ≤ 140737488355328) :
    Calls Try.prog 22 #[.int .i64 room, .slice A n c] w (LoadPost room (R.map fun r => (r.1, r.2.body)) w) := by
  unfold LoadPost
  have HR := Lib.hid hr
  have HB := Lib.hid hb
  obtain ⟨F, hF⟩ : ∃ F, F = R.map fun r => (r.1, r.2.body) := ⟨_, rfl⟩
  have hFl : F.length = n := by rw [hF, List.length_map]; exact hr.len
  rw [← hF]
  have HF := Lib.hid hF
  have HFl := Lib.hid hFl
  clear hr hb hF hFl
  go_enter Try.func22, Try.ntmps22
  go_wp2_with fail
  refine (new_any room _).mono ?_
  rintro e w1 ⟨dp, I0, X0, rfl, h1, hE1⟩
  have HD1 := Lib.hid h1
  have HE1 := Lib.hid hE1
  clear h1 hE1
  go_wp2_with fail
  go_loopw [8, 9, 14] (fun _ _ i wr => ∃ (j : Nat) (ids : Nat → Nat) (X : Nat → Prop) (I : DI), j ≤ n ∧ i = .int .i64 (j : Int) ∧ Hid (DK wr X w.heap.size dp (ldS (newS room) F ids j) I) ∧ Hid (Hist (ldS (newS room) F ids j)) ∧ Hid (Laid (newS room) F ids j) ∧ Hid ((ldS (newS room) F ids j).chs.length = j) ∧ Hid ((ldS (newS room) F ids j).files.length = j) ∧ Hid (Ext w wr)) (fun _ _ i _ => n - (intOf i).toNat)
  case atStart => exact ⟨0, fun _ => 0, X0, I0, Nat.zero_le _, rfl, HD1, Lib.hid (hist_new room), Lib.hid ⟨fun i e hi => by omega, fun i f hi => by omega⟩, Lib.hid rfl, Lib.hid rfl, HE1⟩
  case round =>
    obtain ⟨j, ids, X, I, hj, rfl, HD, HH, HL, HC, HN, HE⟩ := hrel
    by_cases hlt : j < n
    · obtain ⟨b, o, r, hA, hbl, hx, hcx⟩ := (HR.out.ext HE.out).at_ hlt
      have q0 : wr.cell? ⟨b, o + j * 2, none⟩ = some (nm r.1) := by simpa [shF] using hcx 0 _ rfl
      have q1 : wr.cell? ⟨b, o + j * 2 + 1, none⟩ = some (.slice r.2.A r.2.body.length r.2.c) := by simpa [shF, Sl.v] using hcx 1 _ rfl
      rw [hA]
      have hmem := List.mem_of_getElem? hx
      obtain ⟨hb1, hb2, hb3, hb4⟩ := HB.out r hmem
      have hFj : F[j]? = some (r.1, r.2.body) := by rw [HF.out, List.getElem?_map, hx]; rfl
      have HFj := Lib.hid hFj
      obtain ⟨V, hV⟩ : ∃ V, V = wr.alloc (.cells #[nm r.1, .slice r.2.A r.2.body.length r.2.c] 47) := ⟨_, rfl⟩
      have hVE : Ext wr V := by rw [hV]; exact (Ext.refl wr).alloc _
      have HDV := Lib.hid (HD.out.ext hVE)
      have CR := Lib.hid (refusal_any HDV.out r.1 hb1)
      have hgb : V.heap[wr.heap.size]? = some (.cells #[nm r.1, .slice r.2.A r.2.body.length r.2.c] 47 (0, 0)) := by rw [hV]; exact heap_alloc_new wr _
      have hgX : ¬ X wr.heap.size := fun hx => by have := (HD.out.bd _ hx).2; omega
      have HC9 : Hid (∀ W, FrX X V W → W.cell? ⟨wr.heap.size, 0, none⟩ = some (nm r.1) ∧ W.cell? ⟨wr.heap.size, 1, none⟩ = some (.slice r.2.A r.2.body.length r.2.c)) := Lib.hid (fun W hW => by
        have hh := (hW.block wr.heap.size (Array.getElem?_eq_some_iff.1 hgb).1 hgX).trans hgb
        exact ⟨cell_of_row W wr.heap.size 0 _ _ (0, 0) hh, cell_of_row W wr.heap.size 1 _ _ (0, 0) hh⟩)
      have HRB := Lib.hid (hb2.ext (HE.out.trans hVE))
      have HU := Lib.hid hb3
      have Hlt := Lib.hid hlt
      have HVE := Lib.hid hVE
      have HV := Lib.hid hV
      obtain ⟨E, hE⟩ : ∃ E, E = refC (ldS (newS room) F ids j) r.1 := ⟨_, rfl⟩
      rw [← hE] at CR
      have HEE := Lib.hid hE
      clear hA hbl hx hmem hb2 hb3 hFj hVE hgb hgX hlt hE
      go_wp2_with fail
      rw [← HV.out]
      refine CR.out.mono ?_
      rintro e w2 ⟨rfl, rfl⟩
      obtain ⟨k0, k1⟩ := HC9.out V (FrX.refl _ _)
      clear hV
      by_cases h0 : E = 0
      · have H0 := Lib.hid h0
        subst h0
        obtain ⟨mb, hmb⟩ : ∃ m, m = r.2.body.length := ⟨_, rfl⟩
        have CL : Hid (∀ W, Ext V W → Calls Try.prog 59 #[.slice r.2.A mb r.2.c] W fun e w' => ∃ A' c', e = .returned (.slice A' mb c') ∧ Own .u8 5 w' W.heap.size A' c' r.2.body ∧ Ext W w') := Lib.hid (fun W hW => by rw [hmb]; exact clone_any r.2.A _ r.2.c _ W (HRB.out.ext hW) (by omega))
        rw [← hmb] at HC9 k1 hb4
        have Hmb := Lib.hid hmb
        clear hmb
        go_wp2_with fail
        have hcc : (ldS (newS room) F ids j).chs.length < 10000000000000 := by have := HC.out; have := HN.out; have := HD.out.few; omega
        have Hcc := Lib.hid hcc
        clear hcc
        go_region_held3 (fun W => W.cell? ⟨wr.heap.size, 0, none⟩ = some (nm r.1) ∧ W.cell? ⟨wr.heap.size, 1, none⟩ = some (.slice r.2.A mb r.2.c))
          (first | exact ⟨k0, k1⟩ | exact HC9.out _ H3.out.fr | exact HC9.out _ (HX2.out.frX X) | exact HC9.out _ ((HX1.out.trans ((Ext.refl _).alloc _)).frX X) | exact HC9.out _ (HX1.out.frX X) | fail)
          (first
            | (go_at_call 59; refine (CL.out _ ?_).mono ?_; (first | exact Ext.refl _ | exact (Ext.refl _).drew | exact Ext.of_drewN _ _ | fail); rintro e v1 ⟨A', c', rfl, ho, he⟩; have HO : Hid (Own .u8 5 v1 V.heap.size A' c' r.2.body) := Lib.hid ho; have HX1 : Hid (Ext V v1) := Lib.hid ⟨he.os, he.tape, he.output, he.size, he.block⟩; clear ho he)
            | (go_at_call 48; refine (created_lit r.1 _ _ hb1).mono ?_; rintro e v2 ⟨bf, bx, rfl, hk, hn1, hn2, hxx⟩; have D1 := Lib.hid (HDV.out.laid1 HX1.out HO.out HU.out Hmb.out hxx); have HX2 : Hid (Ext V v2) := Lib.hid ((HX1.out.trans ((Ext.refl v1).alloc _)).trans hxx); have HK := Lib.hid hk; have HNB : Hid (V.heap.size ≤ bf ∧ V.heap.size ≤ bx) := Lib.hid (by have := HX1.out.size; (try simp at hn1); (try simp at hn2); omega); clear hk hn1 hn2 hxx)
            | (go_at_call 47; refine (alter_cr D1.out HK.out ⟨.inr ⟨HNB.out.1, HK.out.lt bf (.inl rfl)⟩, .inr ⟨HNB.out.2, HK.out.lt bx (.inr rfl)⟩⟩ HEE.out.symm ⟨_, List.mem_append.2 (.inr (List.mem_singleton.2 rfl))⟩ Hcc.out).mono ?_; rintro e v3 ⟨rfl, Ac, cc, d2, f2⟩; have D2 := Lib.hid d2; have H3 : Hid (Nx X V (fun q => (X q ∨ (V.heap.size ≤ q ∧ q < v2.heap.size)) ∨ (v2.heap.size ≤ q ∧ q < v3.heap.size)) v3) := Lib.hid ((Nx.wide (HX2.out.frX X)).trans (Nx.wide f2)); clear d2 f2)
            | fail)
        go_wp2_with fail
        go_roundw
        case rel =>
          have hids : ∀ i, i ≤ j → ldS (newS room) F (fun k => if k = j then v1.heap.size else ids k) i = ldS (newS room) F ids i := fun i hi => ldS_congr i (fun k hk => by rw [if_neg (by omega)])
          have hnx : ldS (newS room) F (fun k => if k = j then v1.heap.size else ids k) (j + 1) = ldStep (r.1, r.2.body) v1.heap.size (ldS (newS room) F ids j) := by
            rw [ldS]
            simp only [HFj.out, if_pos]
            rw [hids j (Nat.le_refl _)]
          have hfresh : ∀ f, (v1.heap.size, f) ∉ (ldS (newS room) F ids j).fl := fun f hf => by
            have := (HDV.out.bd _ (HDV.out.fil _ f hf).2.1).2
            have := HX1.out.size
            omega
          have hsure := HD.out.sure HH.out
          have hln := len_put hsure.asc r.1 v1.heap.size
          rw [(refC_ok HEE.out.symm).2.1] at hln
          refine ⟨j + 1, fun k => if k = j then v1.heap.size else ids k, _, _, by have := Hlt.out; omega, by go_num, Lib.hid (by rw [hnx]; exact D2.out), Lib.hid (by rw [hnx]; exact hist_ld hsure _ _ HEE.out.symm), Lib.hid ⟨fun i e hi he => ?_, fun i f hi => ?_⟩, Lib.hid (by rw [hnx]; show (_ ++ [_]).length = _; rw [List.length_append, HC.out]; rfl), Lib.hid (by rw [hnx]; show (putD _ _ _).length = _; rw [hln, HN.out]; rfl), Lib.hid ?_⟩
          · rw [hids i (by omega)]
            by_cases hij : i < j
            · exact HL.out.ok i e hij he
            · obtain rfl : i = j := by omega
              rw [HFj.out] at he
              injection he with he
              rw [← he]
              exact HEE.out.symm
          · rw [hids i (by omega)]
            by_cases hij : i < j
            · simp only [if_neg (show ¬ i = j by omega)]
              exact HL.out.new i f hij
            · obtain rfl : i = j := by omega
              simp only [if_pos]
              exact hfresh f
          · have hwV : Ext w V := HE.out.trans HVE.out
            exact ⟨H3.out.fr.os.trans hwV.os, H3.out.fr.tape.trans hwV.tape, H3.out.fr.output.trans hwV.output, Nat.le_trans hwV.size H3.out.fr.size, fun i hi => (H3.out.fr.block i (Nat.lt_of_lt_of_le hi hwV.size) (fun hx => by have := (HD.out.bd i hx).1; omega)).trans (hwV.block i hi)⟩
        case measure => simp [intOf]; have := Hlt.out; omega
      · have hne : (E == 0) = false := by simpa using h0
        have Hh0 := Lib.hid h0
        go_wp2
        go_ret2
        refine .inr ⟨ids, j, _, by rw [HFl.out]; exact Hlt.out, congrArg (fun z : Int => Ending.returned (.tuple #[.pointer none, .int .i64 z])) HEE.out, HFj.out, HL.out, by rw [← HEE.out]; exact Hh0.out, HE.out.trans HVE.out⟩
    · obtain rfl : j = n := by omega
      have HS := Lib.hid (settle_any HD.out HH.out)
      clear hlt
      go_wp2_with fail
      refine HS.out.mono ?_
      rintro e w2 ⟨rfl, h2, f2⟩
      have H2 := Lib.hid h2
      have F2 := Lib.hid f2
      clear h2 f2
      go_wp2
      go_ret2
      have hsure := HD.out.sure HH.out
      refine .inl ⟨dp, ids, rfl, by rw [HFl.out]; exact HL.out, ⟨w.heap.size, _, _, by rw [HFl.out]; exact H2.out, by rw [HFl.out]; exact Hist.settled hsure.few hsure.idF, fun b hb => ⟨Nat.lt_of_lt_of_le hb (Nat.le_trans HE.out.size F2.out.size), fun hx => by have := (H2.out.bd b hx).1; omega⟩⟩, ?_⟩
      exact ⟨F2.out.os.trans HE.out.os, F2.out.tape.trans HE.out.tape, F2.out.output.trans HE.out.output, Nat.le_trans HE.out.size F2.out.size, fun i hi => (F2.out.block i (Nat.lt_of_lt_of_le hi HE.out.size) (fun hx => by have := (HD.out.bd i hx).1; omega)).trans (HE.out.block i hi)⟩
end

end Go.Proofs.Ytjckfbpdnpehcaa
