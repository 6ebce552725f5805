import Derived.Test.YtpjichclpnebjaaZ7

-- part H23
/-
  Layer 6: a row read, the program's and the document's.
-/
namespace Go.Proofs.Ytpjichclpnebjaa
open Go.RowKit

/-- What GetRow answers. -/
def growS (keys : Int) (cs : List Col) (bs : List Nat) (at_ : Int) : List CV × Int × Int := if schE keys cs ≠ 0 then ([], 0, schE keys cs) else growA bs cs at_ []
def GRowPost (R : List CV × Int × Int) (w : World) (e : Ending) (w' : World) : Prop :=
  ∃ fs A' c', e = .returned (.tuple #[.slice A' R.1.length c', .int .i64 R.2.1, .int .i64 R.2.2]) ∧ fs.map Ci.val = R.1 ∧ OwnX w' w.heap.size A' c' fs ∧ TxtU w' w.heap.size fs ∧ Ext w w'
theorem GRowPost.none {R : List CV × Int × Int} {w w' : World} {e : Int} (h : R = ([], 0, e)) (he : Ext w w') : GRowPost R w (.returned (.tuple #[.slice Option.none 0 0, .int .i64 0, .int .i64 e])) w' := by
  subst h
  exact ⟨[], Option.none, 0, rfl, rfl, OwnX.nil _ _, TxtU.nil _ _, he⟩

set_option maxHeartbeats 6400000 in
set_option maxRecDepth 100000 in
theorem sgetRow_any (A : Option Addr) (n c : Nat) (keys : Int) (cs : List Col) (B : Option Addr) (m d : Nat) (at_ : Int) (bs : List Nat) (w : World) (hs : SchIn w A n c cs) (hx : Rd .u8 w B m bs) (hu : U8 bs) (hm : m ≤ 140737488355328) (hcap : m ≤ d) (hcm : d ≤ 9223372036854775807) :
    Calls Try.prog 40 #[.agg #[.slice A n c, .int .i64 keys], .slice B m d, .int .i64 at_] w (GRowPost (growS keys cs bs at_) w) := by
  have hE : Ext w (w.alloc (.cells #[.slice A n c, .int .i64 keys] 24)) := (Ext.refl w).alloc _
  have h1 := hs.ext hE
  have hln := hs.rd.1
  have sb := AtS.box w A n c keys
  obtain ⟨R, hR⟩ : ∃ R, R = growS keys cs bs at_ := ⟨_, rfl⟩
  rw [← hR]
  unfold growS at hR
  obtain ⟨E, hEe⟩ : ∃ E, E = schE keys cs := ⟨_, rfl⟩
  rw [← hEe] at hR
  have HE := Lib.hid hEe
  by_cases e0 : E = 0
  · rw [if_neg (fun q => q e0)] at hR
    have hinv := schE_inv (hEe.symm.trans e0)
    rw [hln] at hinv
    have hn12 : n ≤ 12 := hinv.2.1
    have HR := Lib.hid hR
    have Hln := Lib.hid hln
    have b1 : (E != 0) = false := by simp [e0]
    clear hR hEe e0 hinv hln
    go_enter Try.func40, Try.ntmps40
    go_wp2_with fail
    refine (scheck_any A n c keys cs _ h1.rd h1.nm h1.le).mono ?_
    rintro e w1 ⟨rfl, he1⟩
    rw [← HE.out]
    obtain ⟨k0, k1, kz⟩ := sb.ext he1
    have hE1 := hE.trans he1
    go_wp2_with (refine wpList_mkX rfl (.tmp 23) (.tmp 23) rfl .i64 .i64 n rfl rfl rfl rfl (by omega) ?_; intro w2 hown2 he2; have k0 := (he2.cells w.heap.size 0 kz).trans k0; have k1 := (he2.cells w.heap.size 1 kz).trans k1)
    have hz1 := hE1.size
    have s2 : AtS w2 w.heap.size A n c keys := ⟨k0, k1, Nat.lt_of_lt_of_le kz he2.size⟩
    obtain ⟨G0, hG0⟩ : ∃ G0, G0 = w1.heap.size := ⟨_, rfl⟩
    have hG1 : w.heap.size < G0 := by rw [hG0]; exact kz
    rw [← hG0] at hown2 ⊢
    go_loopw [2, 28] (fun a i wr => ∃ (j : Nat) (p : Int) (fs : List Ci) (vs : List CV), j ≤ n ∧ i = .int .i64 j ∧ a = .int .i64 p ∧ Half w wr G0 w.heap.size n j fs vs ∧ AtS wr w.heap.size A n c keys ∧ Hid (R = growA bs (cs.drop j) p vs)) (fun _ i _ => n - (intOf i).toNat)
    case atStart => exact ⟨0, at_, List.replicate n Ci.none, [], Nat.zero_le _, rfl, rfl, ⟨by simp, rfl, hown2.mono (Nat.le_of_lt hG1), TxtU.nones _ _ _, hE1.trans he2, Nat.le_refl _, Nat.le_trans hz1 he2.size⟩, s2, HR.out⟩
    case round =>
      clear hown2 he2 s2 k0 k1 kz hG0
      obtain ⟨j, p, fs, vs, hj, rfl, rfl, hH, s0, HF⟩ := hrel
      obtain ⟨k0, k1, kz⟩ := s0
      have HH := Lib.hid hH
      have hEw := hH.ext
      have hbg := (hH.own.block _ rfl).2
      simp only at hbg
      clear hH
      by_cases hlt : j < n
      · obtain ⟨b, o, dd, rfl, hb, hd, c0, c1, c2⟩ := (hs.rd.ext hEw).at_ hlt
        have hstep := HF.out.trans (growA_at hd)
        obtain ⟨nm, kd, nl⟩ := dd
        simp only at c0 c1 c2
        obtain ⟨G, hG⟩ : ∃ G, G = gcell ⟨nm, kd, nl⟩ bs p := ⟨_, rfl⟩
        rw [← hG] at hstep
        have HC : Hid (∀ W, Ext wr W → Calls Try.prog 69 #[.agg #[.string nm, .int .i64 kd, .bool nl], .slice B m d, .int .i64 p] W (CGetPost G W)) := Lib.hid (fun W hW => by
          rw [hG]; exact getCell_any nm kd nl B m d p bs W (hx.ext (hEw.trans hW)) hu hm hcap hcm)
        clear hG hd
        obtain ⟨nul, num, txt, next, err⟩ := G
        simp only at hstep
        have hX : Ext wr (wr.alloc (.cells #[.string nm, .int .i64 kd, .bool nl] 89)) := (Ext.refl wr).alloc _
        have i0 : (0 : Int) ≤ (j : Int) := by omega
        have i1 : (j : Int) < (n : Int) := by omega
        by_cases r0 : err = 0
        · subst r0
          have HN := Lib.hid (hstep.trans (if_neg (fun q => q rfl)))
          clear hstep
          go_wp2_with fail
          refine (HC.out _ hX).mono ?_
          rintro e w3 ⟨A3, c3, rfl, hown3, he3⟩
          simp only at hown3 ⊢
          have hX3 : Ext w3 (w3.alloc (.cells #[.bool nul, .int .i64 num, .slice A3 txt.length c3] 82)) := (Ext.refl w3).alloc _
          have hE3 := (hX.trans he3).trans hX3
          have ho3 := HH.out.own.ext hE3
          have hjl : j < fs.length := by rw [HH.out.len]; exact hlt
          go_wp2_with (refine wpList_storeX ⟨nul, num, A3, c3, txt⟩ rfl (.tmp 48) (.tmp 46) rfl ho3 hjl rfl (by omega) rfl rfl ?_; intro w4 ho4 hg4)
          have hN := HH.out.put (f := ⟨nul, num, A3, c3, txt⟩) hlt hE3 ((hown3.ext hX3).mono (base' := wr.heap.size) (by simp)) (Nat.le_refl _) ho4 hg4
          have s4 : AtS w4 w.heap.size (some ⟨b, o, none⟩) n c keys := ((AtS.mk k0 k1 kz).ext hE3).far hg4 (by omega)
          go_roundw
          case rel => exact ⟨j + 1, next, _, _, by omega, by go_num, rfl, hN, s4, HN.out⟩
          case measure => simp [intOf]; omega
        · have HN := Lib.hid (hstep.trans (if_pos r0))
          have b2 : (err != 0) = true := by simp [r0]
          clear hstep r0
          go_wp2_with fail
          refine (HC.out _ hX).mono ?_
          rintro e w3 ⟨A3, c3, rfl, hown3, he3⟩
          simp only at hown3 ⊢
          have hX3 : Ext w3 (w3.alloc (.cells #[.bool nul, .int .i64 num, .slice A3 txt.length c3] 82)) := (Ext.refl w3).alloc _
          go_wp2
          go_ret3
          exact GRowPost.none HN.out (((hEw.trans hX).trans he3).trans hX3)
      · obtain rfl : j = n := by omega
        have HN := Lib.hid (HF.out.trans (growA_end (Nat.le_of_eq Hln.out)))
        go_wp2
        go_ret3
        have hfl := HH.out.len
        have hfv := HH.out.val
        rw [List.take_of_length_le (Nat.le_of_eq hfl)] at hfv
        have hvl : vs.length = j := by rw [← hfv, List.length_map, hfl]
        exact ⟨fs, some ⟨G0, 0, none⟩, j, by rw [HN.out]; simp only [hvl]; rfl, by rw [HN.out]; exact hfv, HH.out.own, HH.out.txt, HH.out.ext⟩
  · rw [if_pos e0] at hR
    have b1 : (E != 0) = true := by simp [e0]
    clear hEe e0
    have HR := Lib.hid hR
    clear hR
    go_enter Try.func40, Try.ntmps40
    go_wp2_with fail
    refine (scheck_any A n c keys cs _ h1.rd h1.nm h1.le).mono ?_
    rintro e w1 ⟨rfl, he1⟩
    rw [← HE.out]
    go_wp2
    go_ret3
    exact GRowPost.none HR.out (hE.trans he1)

end Go.Proofs.Ytpjichclpnebjaa

-- part H24
/-
  Layer 6: a row read by the document.
-/
namespace Go.Proofs.Ytpjichclpnebjaa
open Go.RowKit

theorem heap_alloc_new2 (w : World) (o o2 : Obj) : ((w.alloc o).alloc o2).heap[w.heap.size + 1]? = some o2 := by
  have h := heap_alloc_new (w.alloc o) o2
  simpa using h

set_option maxHeartbeats 3200000 in
set_option maxRecDepth 100000 in
theorem refCell_any (nm : ByteArray) (kd : Int) (nl : Bool) (A : Option Addr) (n c : Nat) (at_ : Int) (bs : List Nat) (w : World) (hx : Rd .u8 w A n bs) (hu : U8 bs) (hn : n ≤ 140737488355328) :
    Calls Try.prog 70 #[.agg #[.string nm, .int .i64 kd, .bool nl], .slice A n c, .int .i64 at_] w (CGetPost (gcell ⟨nm, kd, nl⟩ bs at_) w) := by
  have hE : Ext w ((w.alloc (.cells #[.string nm, .int .i64 kd, .bool nl] 89)).alloc (.cells #[.bool false, .int .i64 0, .slice none 0 0] 82)) := ((Ext.refl w).alloc _).alloc _
  have hbadr := cget_crE (k := kd) (bs := bs) (at_ := at_)
  obtain ⟨G, hG⟩ : ∃ G, G = gcell ⟨nm, kd, nl⟩ bs at_ := ⟨_, rfl⟩
  rw [← hG]
  unfold gcell at hG
  simp only at hG
  obtain ⟨r, hr⟩ : ∃ r, r = cget kd bs at_ := ⟨_, rfl⟩
  rw [← hr] at hG hbadr
  have HP : Hid (∀ W, Ext w W → Calls Try.prog 84 #[.int .i64 kd, .slice A n c, .int .i64 at_] W (CGetPost r W)) := Lib.hid (fun W hW => by
    rw [hr]; exact refCGet_any A n c at_ kd bs W (hx.ext hW) hu hn)
  clear hr
  have HK1 : Hid (∀ W, Ext ((w.alloc (.cells #[.string nm, .int .i64 kd, .bool nl] 89)).alloc (.cells #[.bool false, .int .i64 0, .slice none 0 0] 82)) W → W.heap[w.heap.size + 1]? = some (.cells #[.bool false, .int .i64 0, .slice none 0 0] 82) ∧ W.cell? ⟨w.heap.size, 2, none⟩ = some (.bool nl)) := Lib.hid (fun W hW => by
    have h := Ext.kept hW
    have h2 := Ext.kept (((Ext.refl (w.alloc (.cells #[.string nm, .int .i64 kd, .bool nl] 89))).alloc (.cells #[.bool false, .int .i64 0, .slice none 0 0] 82)).trans hW)
    exact ⟨by simpa using h, cell_of_row W w.heap.size 2 _ _ (0, 0) h2⟩)
  by_cases e0 : r.err = 0
  · obtain ⟨nul, num, txt, next, err⟩ := r
    simp only at hG e0
    subst e0
    rw [if_neg (fun q => q rfl)] at hG
    by_cases hbad : nul = true ∧ nl = false
    · rw [if_pos hbad] at hG
      obtain ⟨rfl, rfl⟩ := hbad
      subst hG
      clear hbadr
      go_enter Try.func70, Try.ntmps70
      go_wp2_with fail
      refine (HP.out _ hE).mono ?_
      rintro e w1 ⟨A1, c1, rfl, hown1, he1⟩
      simp only at hown1 ⊢
      obtain ⟨h51, h52⟩ := HK1.out _ (he1.trans ((Ext.refl w1).alloc (.cells #[.bool true, .int .i64 num, .slice A1 txt.length c1] 82)))
      have HK := Lib.hid h51
      clear h51
      go_wp2_with (refine wpList_store_cell rfl (.tmp 6) (.tmp 32) rfl (w.heap.size + 1) (.bool false) (.int .i64 0) (.slice none 0 0) rfl rfl HK.out rfl rfl rfl ?_)
      apply bodyPost_ret
      · exact results_cell3 rfl _ _ (w.heap.size + 1) 82 #[.bool false, .int .i64 0, .slice none 0 0] (0, 0) _ rfl (setRow_heap _ (w.heap.size + 1) _ _ 82 (0, 0) HK.out) Try.underlying82 rfl (by kernel_rfl)
      · rfl
      exact ⟨none, 0, rfl, Own.nil .., ((hE.trans he1).alloc _).setRow (Nat.le_succ _) _⟩
    · rw [if_neg hbad] at hG
      subst hG
      have key : (nul = true ∧ nl = true) ∨ nul = false := by cases nul <;> cases nl <;> simp_all
      clear hbadr
      rcases key with ⟨rfl, rfl⟩ | rfl
      all_goals
        go_enter Try.func70, Try.ntmps70
        go_wp2_with fail
        refine (HP.out _ hE).mono ?_
        rintro e w1 ⟨A1, c1, rfl, hown1, he1⟩
        simp only at hown1 ⊢
        have hX : ∀ b, Ext w1 (w1.alloc (.cells #[.bool b, .int .i64 num, .slice A1 txt.length c1] 82)) := fun b => (Ext.refl w1).alloc _
        have h51 := fun b => (HK1.out _ (he1.trans (hX b))).1
        have h52 := fun b => (HK1.out _ (he1.trans (hX b))).2
        have ho := fun b => ((hown1.ext (hX b)).far (grown_setRow _ (w.heap.size + 1) #[.bool b, .int .i64 num, .slice A1 txt.length c1]) (by simp)).mono (base' := w.heap.size) (by simp; omega)
        have HX := Lib.hid hX
        have HO := Lib.hid ho
        have HK := Lib.hid h51
        clear h51 hX ho hbad
        have h52t := h52 true
        have h52f := h52 false
        clear h52
        go_wp2_with (first
          | (refine wpList_store_cell rfl (.tmp 6) (.tmp 33) rfl (w.heap.size + 1) (.bool true) (.int .i64 num) (.slice A1 txt.length c1) rfl rfl (HK.out true) rfl rfl rfl ?_)
          | (refine wpList_store_cell rfl (.tmp 6) (.tmp 33) rfl (w.heap.size + 1) (.bool false) (.int .i64 num) (.slice A1 txt.length c1) rfl rfl (HK.out false) rfl rfl rfl ?_)
          | fail)
        apply bodyPost_ret
        · first
            | exact results_cell3 rfl _ _ (w.heap.size + 1) 82 #[.bool true, .int .i64 num, .slice A1 txt.length c1] (0, 0) _ rfl (setRow_heap _ (w.heap.size + 1) _ _ 82 (0, 0) (HK.out true)) Try.underlying82 rfl (by kernel_rfl)
            | exact results_cell3 rfl _ _ (w.heap.size + 1) 82 #[.bool false, .int .i64 num, .slice A1 txt.length c1] (0, 0) _ rfl (setRow_heap _ (w.heap.size + 1) _ _ 82 (0, 0) (HK.out false)) Try.underlying82 rfl (by kernel_rfl)
        · rfl
        first
          | exact ⟨A1, c1, rfl, HO.out true, ((hE.trans he1).trans (HX.out true)).setRow (Nat.le_succ _) _⟩
          | exact ⟨A1, c1, rfl, HO.out false, ((hE.trans he1).trans (HX.out false)).setRow (Nat.le_succ _) _⟩
  · rw [if_pos e0] at hG
    have hcr := hbadr e0
    obtain ⟨err, herr⟩ : ∃ err, err = r.err := ⟨_, rfl⟩
    rw [← herr] at hG hcr e0
    subst hG
    have b1 : (err == 0) = false := by simp [e0]
    rw [hcr] at HP
    clear e0 hbadr hcr herr
    go_enter Try.func70, Try.ntmps70
    go_wp2_with fail
    refine (HP.out _ hE).mono ?_
    rintro e w1 ⟨A1, c1, rfl, hown1, he1⟩
    have hown1' : Own .u8 5 w1 _ A1 c1 [] := hown1
    show _
    have hl0 : (crE err).txt.length = 0 := rfl
    have hnl : (crE err).nul = false := rfl
    have hnm : (crE err).num = 0 := rfl
    have hnx : (crE err).next = 0 := rfl
    have her : (crE err).err = err := rfl
    rw [hl0, hnl, hnm, hnx, her]
    obtain ⟨h51, h52⟩ := HK1.out _ (he1.trans ((Ext.refl w1).alloc (.cells #[.bool false, .int .i64 0, .slice A1 0 c1] 82)))
    have ho := ((hown1'.ext ((Ext.refl w1).alloc (.cells #[.bool false, .int .i64 0, .slice A1 0 c1] 82))).far (grown_setRow _ (w.heap.size + 1) #[.bool false, .int .i64 0, .slice A1 0 c1]) (by simp)).mono (base' := w.heap.size) (by simp; omega)
    have HO := Lib.hid ho
    have HK := Lib.hid h51
    clear h51 ho hown1 hown1' hl0 hnl hnm hnx her
    go_wp2_with (refine wpList_store_cell rfl (.tmp 6) (.tmp 33) rfl (w.heap.size + 1) (.bool false) (.int .i64 0) (.slice A1 0 c1) rfl rfl HK.out rfl rfl rfl ?_)
    apply bodyPost_ret
    · exact results_cell3 rfl _ _ (w.heap.size + 1) 82 #[.bool false, .int .i64 0, .slice A1 0 c1] (0, 0) _ rfl (setRow_heap _ (w.heap.size + 1) _ _ 82 (0, 0) HK.out) Try.underlying82 rfl (by kernel_rfl)
    · rfl
    exact ⟨A1, c1, rfl, HO.out, ((hE.trans he1).alloc _).setRow (Nat.le_succ _) _⟩

set_option maxHeartbeats 6400000 in
set_option maxRecDepth 100000 in
theorem refGetRow_any (A : Option Addr) (n c : Nat) (keys : Int) (cs : List Col) (B : Option Addr) (m d : Nat) (at_ : Int) (bs : List Nat) (w : World) (hs : SchIn w A n c cs) (hx : Rd .u8 w B m bs) (hu : U8 bs) (hm : m ≤ 140737488355328) :
    Calls Try.prog 41 #[.agg #[.slice A n c, .int .i64 keys], .slice B m d, .int .i64 at_] w (GRowPost (growS keys cs bs at_) w) := by
  have hE : Ext w (w.alloc (.cells #[.slice A n c, .int .i64 keys] 24)) := (Ext.refl w).alloc _
  have h1 := hs.ext hE
  have hln := hs.rd.1
  have sb := AtS.box w A n c keys
  obtain ⟨R, hR⟩ : ∃ R, R = growS keys cs bs at_ := ⟨_, rfl⟩
  rw [← hR]
  unfold growS at hR
  obtain ⟨E, hEe⟩ : ∃ E, E = schE keys cs := ⟨_, rfl⟩
  rw [← hEe] at hR
  have HE := Lib.hid hEe
  by_cases e0 : E = 0
  · rw [if_neg (fun q => q e0)] at hR
    have hinv := schE_inv (hEe.symm.trans e0)
    rw [hln] at hinv
    have hn12 : n ≤ 12 := hinv.2.1
    have HR := Lib.hid hR
    have Hln := Lib.hid hln
    have b1 : (E != 0) = false := by simp [e0]
    clear hR hEe e0 hinv hln
    go_enter Try.func41, Try.ntmps41
    go_wp2_with fail
    refine (refScheck_any A n c keys cs _ h1.rd h1.nm h1.le).mono ?_
    rintro e w1 ⟨rfl, he1⟩
    rw [← HE.out]
    have s1 := sb.ext he1
    have hE1 := hE.trans he1
    obtain ⟨k0, k1, kz⟩ := s1
    go_wp2_with fail
    go_loopw [2, 10, 11] (fun a v i wr => ∃ (j : Nat) (p : Int) (A' : Option Addr) (c' : Nat) (fs : List Ci), j ≤ n ∧ i = .int .i64 j ∧ a = .int .i64 p ∧ v = .slice A' j c' ∧ fs.length = j ∧ OwnX wr w1.heap.size A' c' fs ∧ TxtX wr w1.heap.size fs ∧ Ext w1 wr ∧ Hid (R = growA bs (cs.drop j) p (fs.map Ci.val))) (fun _ _ i _ => n - (intOf i).toNat)
    case atStart => exact ⟨0, at_, _, _, [], Nat.zero_le _, rfl, rfl, rfl, rfl, OwnX.made _ (Nat.le_refl _), TxtX.nil _ _, (Ext.refl w1).alloc _, HR.out⟩
    case round =>
      obtain ⟨j, p, A', c', fs, hj, rfl, rfl, rfl, hfl, hown, htx, hb, HF⟩ := hrel
      have k0' := (hb.cells w.heap.size 0 kz).trans k0
      have hz := hb.size
      have Hfl := Lib.hid hfl
      have Hown := Lib.hid hown
      have Htx := Lib.hid htx
      by_cases hlt : j < n
      · obtain ⟨b, o, dd, rfl, hbl, hd, c0, c1, c2⟩ := ((hs.rd.ext hE1).ext hb).at_ hlt
        have hstep := HF.out.trans (growA_at hd)
        obtain ⟨nm, kd, nl⟩ := dd
        simp only at c0 c1 c2
        obtain ⟨G, hG⟩ : ∃ G, G = gcell ⟨nm, kd, nl⟩ bs p := ⟨_, rfl⟩
        rw [← hG] at hstep
        have HC : Hid (∀ W, Ext wr W → Calls Try.prog 70 #[.agg #[.string nm, .int .i64 kd, .bool nl], .slice B m d, .int .i64 p] W (CGetPost G W)) := Lib.hid (fun W hW => by
          rw [hG]; exact refCell_any nm kd nl B m d p bs W (hx.ext ((hE1.trans hb).trans hW)) hu hm)
        clear hG hd hown htx hfl
        obtain ⟨nul, num, txt, next, err⟩ := G
        simp only at hstep
        have i0 : (0 : Int) ≤ (j : Int) := by omega
        have i1 : (j : Int) < (n : Int) := by omega
        by_cases r0 : err = 0
        · subst r0
          have HN := Lib.hid (hstep.trans (if_neg (fun q => q rfl)))
          clear hstep
          go_wp2_with fail
          refine (HC.out _ (Ext.refl _)).mono ?_
          rintro e w3 ⟨A3, c3, rfl, hown3, he3⟩
          simp only at hown3 ⊢
          have hX3 : Ext w3 (w3.alloc (.cells #[.bool nul, .int .i64 num, .slice A3 txt.length c3] 82)) := (Ext.refl w3).alloc _
          have hX4 : Ext (w3.alloc (.cells #[.bool nul, .int .i64 num, .slice A3 txt.length c3] 82)) ((w3.alloc (.cells #[.bool nul, .int .i64 num, .slice A3 txt.length c3] 82)).alloc (.cells #[.bool nul, .int .i64 num, .slice A3 txt.length c3] 82)) := (Ext.refl _).alloc _
          have hE4 := (he3.trans hX3).trans hX4
          have ho4 := Hown.out.ext hE4
          have hz4 := hE4.size
          go_wp2_with (at_builtin; refine wpList_pushX (w0 := w1) ⟨nul, num, A3, c3, txt⟩ rfl _ _ rfl ho4 j Hfl.out rfl rfl (heap_alloc_new2 _ _ _) (by omega) (hb.trans hE4) (Nat.le_trans hz hz4) ?_; intro A5 c5 w5 hown5 hgr hb5 hz5)
          have hlow : ∀ g ∈ fs, ∀ q, g.A = some q → q.block < wr.heap.size := fun g hg q hq => ((Htx.out.1 g hg).block q hq).2
          have htx5 : TxtX w5 w1.heap.size (fs ++ [⟨nul, num, A3, c3, txt⟩]) := TxtX.grown (base' := w1.heap.size) (TxtX.snoc (Htx.out.ext hE4) ((hown3.ext hX3).ext hX4) hz hlow) ho4 hgr
          go_roundw
          case rel => exact ⟨j + 1, next, A5, c5, _, by omega, by go_num, rfl, rfl, by simp [Hfl.out], hown5, htx5, hb5, by rw [List.map_append]; exact HN.out⟩
          case measure => simp [intOf]; omega
        · have HN := Lib.hid (hstep.trans (if_pos r0))
          have b2 : (err != 0) = true := by simp [r0]
          clear hstep r0
          go_wp2_with fail
          refine (HC.out _ (Ext.refl _)).mono ?_
          rintro e w3 ⟨A3, c3, rfl, hown3, he3⟩
          simp only at hown3 ⊢
          have hX3 : Ext w3 (w3.alloc (.cells #[.bool nul, .int .i64 num, .slice A3 txt.length c3] 82)) := (Ext.refl w3).alloc _
          go_wp2
          go_ret3
          exact GRowPost.none HN.out (((hE1.trans hb).trans he3).trans hX3)
      · obtain rfl : j = n := by omega
        have HN := Lib.hid (HF.out.trans (growA_end (Nat.le_of_eq Hln.out)))
        clear hown htx
        go_wp2
        go_ret3
        exact ⟨fs, A', c', by rw [HN.out]; simp only [List.length_map, Hfl.out]; rfl, by rw [HN.out], Hown.out.mono hE1.size, (Htx.out.toU).mono hE1.size, hE1.trans hb⟩
  · rw [if_pos e0] at hR
    have b1 : (E != 0) = true := by simp [e0]
    clear hEe e0
    have HR := Lib.hid hR
    clear hR
    go_enter Try.func41, Try.ntmps41
    go_wp2_with fail
    refine (refScheck_any A n c keys cs _ h1.rd h1.nm h1.le).mono ?_
    rintro e w1 ⟨rfl, he1⟩
    rw [← HE.out]
    go_wp2
    go_ret3
    exact GRowPost.none HR.out (hE.trans he1)

end Go.Proofs.Ytpjichclpnebjaa

-- part H34
/-
  Layer 6: the document's schema.
-/
namespace Go.Proofs.Ytpjichclpnebjaa
open Go.RowKit

/-- The columns of the document's schema. -/
def cs2 : List Col := [⟨⟨#[105, 100]⟩, 3, false⟩, ⟨⟨#[110, 97, 109, 101]⟩, 7, true⟩]
theorem sch2 : schE 1 cs2 = 0 := by decide

def rowSV (keys : Int) (cs : List Col) (vs : List CV) : Int := if schE keys cs ≠ 0 then schE keys cs else if vs.length ≠ cs.length then 61 else rowW cs vs
theorem rowS_V {keys : Int} {cs : List Col} {xs : List Ci} {vs : List CV} (h : xs.map Ci.val = vs) : rowS keys cs xs = rowSV keys cs vs := by
  subst h
  unfold rowS rowE rowSV
  rw [List.length_map, rowF_val]
def setsSV (keys : Int) (cs : List Col) (vs : List (Int × CV)) : Int := if schE keys cs ≠ 0 then schE keys cs else if vs.length = 0 then 61 else setW cs (keys - 1) vs
theorem setsS_V {keys : Int} {cs : List Col} {ts : List Si} {vs : List (Int × CV)} (h : ts.map Si.val = vs) : setsS keys cs ts = setsSV keys cs vs := by
  subst h
  unfold setsS setsE setsSV
  rw [List.length_map, setF_val]

set_option maxHeartbeats 1600000 in
set_option maxRecDepth 100000 in
theorem two6_any (w : World) : Calls Try.prog 51 #[] w fun e w' => ∃ A, e = .returned (.agg #[.slice A 2 2, .int .i64 1]) ∧ SchIn w' A 2 2 cs2 ∧ Ext w w' := by
  have hE : Ext w ((w.alloc (.cells #[.slice none 0 0, .int .i64 0] 24)).alloc (.cells #[.string ⟨#[105, 100]⟩, .int .i64 3, .bool false, .string ⟨#[110, 97, 109, 101]⟩, .int .i64 7, .bool true] 89)) := ((Ext.refl w).alloc _).alloc _
  obtain ⟨W8, hW8⟩ : ∃ W8, W8 = (w.alloc (.cells #[.slice none 0 0, .int .i64 0] 24)).alloc (.cells #[.string ⟨#[105, 100]⟩, .int .i64 3, .bool false, .string ⟨#[110, 97, 109, 101]⟩, .int .i64 7, .bool true] 89) := ⟨_, rfl⟩
  have hK : W8.heap[w.heap.size]? = some (.cells #[.slice none 0 0, .int .i64 0] 24) := by
    rw [hW8]
    exact Ext.kept ((Ext.refl _).alloc _)
  have hK2 : W8.heap[w.heap.size + 1]? = some (.cells #[.string ⟨#[105, 100]⟩, .int .i64 3, .bool false, .string ⟨#[110, 97, 109, 101]⟩, .int .i64 7, .bool true] 89) := by
    rw [hW8]
    exact heap_alloc_new2 _ _ _
  rw [← hW8] at hE
  have HK := Lib.hid hK
  have HK2 := Lib.hid hK2
  have HE := Lib.hid hE
  clear hK hK2 hE
  go_enter Try.func51, Try.ntmps51
  go_wp2_with (rw [← hW8]; refine wpList_store_row rfl 24 (.tmp 0) (.tmp 4) rfl w.heap.size #[.slice (some ⟨w.heap.size + 1, 0, none⟩) 2 2, .int .i64 1] rfl rfl 24 #[.slice none 0 0, .int .i64 0] HK.out (by kernel_rfl) rfl (by simp; exact ⟨rfl, rfl⟩) ?_)
  apply bodyPost_ret
  · exact results_cell1 rfl _ _ w.heap.size 24 #[.slice (some ⟨w.heap.size + 1, 0, none⟩) 2 2, .int .i64 1] (0, 0) _ rfl (setRow_heap W8 w.heap.size _ _ 24 (0, 0) HK.out) Try.underlying24 rfl (by kernel_rfl)
  · rfl
  have hg := (setRow_other W8 w.heap.size (w.heap.size + 1) #[.slice (some ⟨w.heap.size + 1, 0, none⟩) 2 2, .int .i64 1] (by omega)).trans HK2.out
  refine ⟨_, rfl, ⟨⟨rfl, fun _ => ⟨w.heap.size + 1, 0, rfl, (Array.getElem?_eq_some_iff.1 hg).1, fun j c hj => ?_⟩⟩, by decide, by decide, by decide, by decide⟩, HE.out.setRow (Nat.le_refl _) _⟩
  match j, hj with
  | 0, hj =>
    simp [cs2] at hj
    subst hj
    exact ⟨cell_of_row _ _ 0 _ _ (0, 0) hg, cell_of_row _ _ 1 _ _ (0, 0) hg, cell_of_row _ _ 2 _ _ (0, 0) hg⟩
  | 1, hj =>
    simp [cs2] at hj
    subst hj
    exact ⟨cell_of_row _ _ 3 _ _ (0, 0) hg, cell_of_row _ _ 4 _ _ (0, 0) hg, cell_of_row _ _ 5 _ _ (0, 0) hg⟩
  | j + 2, hj => simp [cs2] at hj

end Go.Proofs.Ytpjichclpnebjaa
