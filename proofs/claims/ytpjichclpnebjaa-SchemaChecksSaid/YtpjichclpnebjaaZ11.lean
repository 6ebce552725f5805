import Derived.Test.YtpjichclpnebjaaZ8

-- part H28
/-
  Layer 6: sets read, the program's.
-/
namespace Go.Proofs.Ytpjichclpnebjaa
open Go.RowKit

/-- What a set reads as. -/
def gset1 (cs : List Col) (bs : List Nat) (L at_ : Int) : Int × CR :=
  if (vget bs at_).2.2 ≠ 0 then (0, crE (vget bs at_).2.2)
  else if ((vget bs at_).1 : Int) ≤ L ∨ (cs.length : Int) ≤ ((vget bs at_).1 : Int) then (0, crE 61)
  else if (gcell (colAt cs (vget bs at_).1) bs (vget bs at_).2.1).err ≠ 0 then (0, crE (gcell (colAt cs (vget bs at_).1) bs (vget bs at_).2.1).err)
  else (((vget bs at_).1 : Int), gcell (colAt cs (vget bs at_).1) bs (vget bs at_).2.1)
theorem gsetsA_step {cs : List Col} {bs : List Nat} {k : Nat} {L at_ : Int} {acc : List (Int × CV)} :
    gsetsA cs bs (k + 1) L at_ acc = if (gset1 cs bs L at_).2.err ≠ 0 then ([], 0, (gset1 cs bs L at_).2.err) else gsetsA cs bs k (gset1 cs bs L at_).1 (gset1 cs bs L at_).2.next (acc ++ [((gset1 cs bs L at_).1, (gset1 cs bs L at_).2.val)]) := by
  rw [gsetsA]
  unfold gset1
  by_cases h1 : (vget bs at_).2.2 ≠ 0
  · rw [if_pos h1, if_pos h1, if_pos (show (crE (vget bs at_).2.2).err ≠ 0 from h1)]
    rfl
  · rw [if_neg h1, if_neg h1]
    by_cases h2 : ((vget bs at_).1 : Int) ≤ L ∨ (cs.length : Int) ≤ ((vget bs at_).1 : Int)
    · rw [if_pos h2, if_pos h2, if_pos (show (crE 61).err ≠ 0 by decide)]
      rfl
    · rw [if_neg h2, if_neg h2]
      by_cases h3 : (gcell (colAt cs (vget bs at_).1) bs (vget bs at_).2.1).err ≠ 0
      · rw [if_pos h3, if_pos h3, if_pos (show (crE (gcell (colAt cs (vget bs at_).1) bs (vget bs at_).2.1).err).err ≠ 0 from h3)]
        rfl
      · rw [if_neg h3, if_neg h3, if_neg h3]

def GSetPost (r : Int × CR) (w : World) (e : Ending) (w' : World) : Prop :=
  ∃ A' c', e = .returned (.tuple #[.agg #[.int .i64 r.1, .bool r.2.nul, .int .i64 r.2.num, .slice A' r.2.txt.length c'], .int .i64 r.2.next, .int .i64 r.2.err]) ∧ Own .u8 5 w' w.heap.size A' c' r.2.txt ∧ Ext w w'

theorem wpList_store_set {ops : Array Oper} {rest : List Oper} {o : Oper} {a : Act} {w : World} {Q : Exit → Act → World → Prop} (hgd : o.guard = none) (x y : Operand) (ho : o.op = .store 84 x y)
    (g : Nat) (t u v s : Value) (hx : a.eval x = .pointer (some ⟨g, 0, none⟩)) (hy : a.eval y = .agg #[t, u, v, s]) {t0 u0 v0 s0 : Value} (hg : w.heap[g]? = some (.cells #[t0, u0, v0, s0] 84)) (h0 : t.oneCell' = true) (h1 : u.oneCell' = true) (h2 : v.oneCell' = true) (h3 : s.oneCell' = true)
    (h : wpList Try.prog ops Q rest (a.put o.dst undef) (w.setRow g #[t, u, v, s])) : wpList Try.prog ops Q (o :: rest) a w :=
  wpList_store_row hgd 84 x y ho g #[t, u, v, s] hx hy 84 #[t0, u0, v0, s0] hg (by kernel_rfl) rfl (by simp [h0, h1, h2, h3]) h

theorem wpList_pushT {w0 w : World} {ops : Array Oper} {rest : List Oper} {o : Oper} {a : Act} {Q : Exit → Act → World → Prop} (f : Si) (hgd : o.guard = none) (s y : Operand)
    (ho : o.op = .call { callee := .builtin .append, args := #[s, y], argTypes := #[26, 26] })
    {base : Nat} {A : Option Addr} {c : Nat} {fs : List Si} (hown : OwnT w base A c fs) (n : Nat) (hn : fs.length = n) (hs : a.eval s = .slice A n c)
    {g : Nat} (hy : a.eval y = .slice (some ⟨g, 0, none⟩) 1 1) (hg : w.heap[g]? = some (.cells #[.int .i64 f.col, .bool f.cell.nul, .int .i64 f.cell.num, .slice f.cell.A f.cell.txt.length f.cell.c] 84))
    (hlen : n ≤ 4398046511104) (hb : Below base w0 w) (hbase : base ≤ w.heap.size)
    (h : ∀ A' c' w', OwnT w' base A' c' (fs ++ [f]) → w.grownBy w' (Value.slice A fs.length c).ownBlock → Below base w0 w' → base ≤ w'.heap.size → wpList Try.prog ops Q rest (a.put o.dst (.slice A' (n + 1) c')) w') :
    wpList Try.prog ops Q (o :: rest) a w :=
  wpList_plain hgd fun K hK => by
    have hw : Region.wanted o (yielded ops a.tmps) = true := by simp [Region.wanted, hgd]
    have h0 := step_pushT (K := K) (Q := Q) (ops := ops) (E := True) f hgd s y ho hown n hn hs hy hg hlen hb hbase (fun A' c' w' h1 h2 h3 h4 => hK _ _ (h A' c' w' h1 h2 h3 h4))
    rw [if_pos hw] at h0
    exact h0

set_option maxHeartbeats 6400000 in
set_option maxRecDepth 100000 in
theorem getSet_any (A : Option Addr) (n c : Nat) (keys : Int) (cs : List Col) (l : Nat) (B : Option Addr) (m d : Nat) (at_ : Int) (bs : List Nat) (w : World) (hs : SchIn w A n c cs) (hn12 : n ≤ 12) (hl12 : l ≤ 12) (hx : Rd .u8 w B m bs) (hu : U8 bs) (hm : m ≤ 140737488355328) (hcap : m ≤ d) (hcm : d ≤ 9223372036854775807) :
    Calls Try.prog 72 #[.agg #[.slice A n c, .int .i64 keys], .int .i64 (l : Int), .slice B m d, .int .i64 at_] w (GSetPost (gset1 cs bs (l : Int) at_) w) := by
  have hE : Ext w ((w.alloc (.cells #[.slice A n c, .int .i64 keys] 24)).alloc (.cells #[.int .i64 0, .bool false, .int .i64 0, .slice none 0 0] 84)) := ((Ext.refl w).alloc _).alloc _
  have hx2 := hx.ext hE
  have hln := hs.rd.1
  obtain ⟨G, hG⟩ : ∃ G, G = gset1 cs bs (l : Int) at_ := ⟨_, rfl⟩
  rw [← hG]
  unfold gset1 at hG
  rcases hv : vget bs at_ with ⟨u, nx, er⟩
  rw [hv, hln] at hG
  simp only at hG
  have hub := (vget_bounds (a := at_) hu (by rw [hx.len]; exact hm)).1
  rw [hv] at hub
  simp only at hub
  have Hv := Lib.hid hv
  have HK1 : Hid (∀ W, Ext ((w.alloc (.cells #[.slice A n c, .int .i64 keys] 24)).alloc (.cells #[.int .i64 0, .bool false, .int .i64 0, .slice none 0 0] 84)) W → W.heap[w.heap.size + 1]? = some (.cells #[.int .i64 0, .bool false, .int .i64 0, .slice none 0 0] 84)) := Lib.hid (fun W hW => by
    have h := Ext.kept hW
    simpa using h)
  clear hv
  by_cases e0 : er = 0
  · subst e0
    rw [if_neg (fun q => q rfl)] at hG
    have hwl : IntKind.u64.wrap (l : Int) = (l : Int) := IntWalk.u64_in _ (by omega)
    have hwn : IntKind.u64.wrap (n : Int) = (n : Int) := IntWalk.u64_in _ (by omega)
    by_cases hbad : (u : Int) ≤ (l : Int) ∨ (n : Int) ≤ (u : Int)
    · rw [if_pos hbad] at hG
      subst hG
      have key : (decide ((u : Int) ≤ (l : Int)) = true ∧ decide (u ≤ l) = true) ∨ ((decide ((u : Int) ≤ (l : Int)) = false ∧ decide (u ≤ l) = false) ∧ decide ((n : Int) ≤ (u : Int)) = true ∧ decide (n ≤ u) = true) := by
        simp only [decide_eq_true_eq, decide_eq_false_iff_not]; omega
      have HK := Lib.hid (HK1.out _ (Ext.refl _))
      clear hbad hln
      rcases key with ⟨q1, q1'⟩ | ⟨⟨q1, q1'⟩, q2, q2'⟩
      all_goals
        go_enter Try.func72, Try.ntmps72
        go_wp2_with fail
        refine (get_any B m d at_ bs _ hx2 hu hm hcap hcm).mono ?_
        rintro e w1 ⟨rfl, rfl⟩
        rw [Hv.out]
        go_wp2_with (refine wpList_store_set rfl (.tmp 8) (.tmp 38) rfl (w.heap.size + 1) (.int .i64 0) (.bool false) (.int .i64 0) (.slice none 0 0) rfl rfl HK.out rfl rfl rfl rfl ?_)
        apply bodyPost_ret
        · exact results_cell3 rfl _ _ (w.heap.size + 1) 84 #[.int .i64 0, .bool false, .int .i64 0, .slice none 0 0] (0, 0) _ rfl (setRow_heap _ (w.heap.size + 1) _ _ 84 (0, 0) HK.out) Try.underlying84 rfl (by kernel_rfl)
        · rfl
        exact ⟨none, 0, rfl, Own.nil .., hE.setRow (Nat.le_succ _) _⟩
    · rw [if_neg hbad] at hG
      have hun : u < n := by omega
      obtain ⟨b, o, dd, rfl, hbl, hd, c0, c1, c2'⟩ := (hs.rd.ext hE).at_ hun
      rw [colAt_of hd] at hG
      obtain ⟨nm, kd, nl⟩ := dd
      simp only at c0 c1 c2'
      obtain ⟨g, hg⟩ : ∃ g, g = gcell ⟨nm, kd, nl⟩ bs nx := ⟨_, rfl⟩
      rw [← hg] at hG
      have HC : Hid (∀ W, Ext w W → Calls Try.prog 69 #[.agg #[.string nm, .int .i64 kd, .bool nl], .slice B m d, .int .i64 nx] W (CGetPost g W)) := Lib.hid (fun W hW => by
        rw [hg]; exact getCell_any nm kd nl B m d nx bs W (hx.ext hW) hu hm hcap hcm)
      clear hg hd
      obtain ⟨nul, num, txt, next, err⟩ := g
      simp only at hG
      have q1 : decide ((u : Int) ≤ (l : Int)) = false := decide_eq_false (by omega)
      have q2 : decide ((n : Int) ≤ (u : Int)) = false := decide_eq_false (by omega)
      have q1' : decide (u ≤ l) = false := decide_eq_false (by omega)
      have q2' : decide (n ≤ u) = false := decide_eq_false (by omega)
      have hwu : IntKind.i64.wrap (u : Int) = (u : Int) := IntWalk.i64_in _ (by omega)
      have i0 : (0 : Int) ≤ (u : Int) := by omega
      have i1 : (u : Int) < (n : Int) := by omega
      clear hbad hln
      by_cases r0 : err = 0
      · subst r0
        rw [if_neg (fun q => q rfl)] at hG
        subst hG
        go_enter Try.func72, Try.ntmps72
        go_wp2_with fail
        refine (get_any B m d at_ bs _ hx2 hu hm hcap hcm).mono ?_
        rintro e w1 ⟨rfl, rfl⟩
        rw [Hv.out]
        go_wp2_with fail
        refine (HC.out _ hE).mono ?_
        rintro e w1 ⟨A1, c1, rfl, hown1, he1⟩
        simp only at hown1 ⊢
        have hX : Ext w1 (w1.alloc (.cells #[.bool nul, .int .i64 num, .slice A1 txt.length c1] 82)) := (Ext.refl w1).alloc _
        have ho := ((hown1.ext hX).far (grown_setRow _ (w.heap.size + 1) #[.int .i64 (u : Int), .bool nul, .int .i64 num, .slice A1 txt.length c1]) (by simp)).mono (base' := w.heap.size) (by simp; omega)
        have HO := Lib.hid ho
        have HK := Lib.hid (HK1.out _ (he1.trans hX))
        clear ho hown1
        go_wp2_with (refine wpList_store_set rfl (.tmp 8) (.tmp 59) rfl (w.heap.size + 1) (.int .i64 (u : Int)) (.bool nul) (.int .i64 num) (.slice A1 txt.length c1) rfl rfl HK.out rfl rfl rfl rfl ?_)
        apply bodyPost_ret
        · exact results_cell3 rfl _ _ (w.heap.size + 1) 84 #[.int .i64 (u : Int), .bool nul, .int .i64 num, .slice A1 txt.length c1] (0, 0) _ rfl (setRow_heap _ (w.heap.size + 1) _ _ 84 (0, 0) HK.out) Try.underlying84 rfl (by kernel_rfl)
        · rfl
        exact ⟨A1, c1, rfl, HO.out, ((hE.trans he1).trans hX).setRow (Nat.le_succ _) _⟩
      · rw [if_pos r0] at hG
        subst hG
        have b2 : (err != 0) = true := by simp [r0]
        clear r0
        go_enter Try.func72, Try.ntmps72
        go_wp2_with fail
        refine (get_any B m d at_ bs _ hx2 hu hm hcap hcm).mono ?_
        rintro e w1 ⟨rfl, rfl⟩
        rw [Hv.out]
        go_wp2_with fail
        refine (HC.out _ hE).mono ?_
        rintro e w1 ⟨A1, c1, rfl, hown1, he1⟩
        simp only at hown1 ⊢
        have hX : Ext w1 (w1.alloc (.cells #[.bool nul, .int .i64 num, .slice A1 txt.length c1] 82)) := (Ext.refl w1).alloc _
        have HK := Lib.hid (HK1.out _ (he1.trans hX))
        go_wp2_with (refine wpList_store_set rfl (.tmp 8) (.tmp 55) rfl (w.heap.size + 1) (.int .i64 0) (.bool false) (.int .i64 0) (.slice none 0 0) rfl rfl HK.out rfl rfl rfl rfl ?_)
        apply bodyPost_ret
        · exact results_cell3 rfl _ _ (w.heap.size + 1) 84 #[.int .i64 0, .bool false, .int .i64 0, .slice none 0 0] (0, 0) _ rfl (setRow_heap _ (w.heap.size + 1) _ _ 84 (0, 0) HK.out) Try.underlying84 rfl (by kernel_rfl)
        · rfl
        exact ⟨none, 0, rfl, Own.nil .., ((hE.trans he1).trans hX).setRow (Nat.le_succ _) _⟩
  · rw [if_pos e0] at hG
    subst hG
    have b1 : (er != 0) = true := by simp [e0]
    have HK := Lib.hid (HK1.out _ (Ext.refl _))
    clear e0
    go_enter Try.func72, Try.ntmps72
    go_wp2_with fail
    refine (get_any B m d at_ bs _ hx2 hu hm hcap hcm).mono ?_
    rintro e w1 ⟨rfl, rfl⟩
    rw [Hv.out]
    go_wp2_with (refine wpList_store_set rfl (.tmp 8) (.tmp 24) rfl (w.heap.size + 1) (.int .i64 0) (.bool false) (.int .i64 0) (.slice none 0 0) rfl rfl HK.out rfl rfl rfl rfl ?_)
    apply bodyPost_ret
    · exact results_cell3 rfl _ _ (w.heap.size + 1) 84 #[.int .i64 0, .bool false, .int .i64 0, .slice none 0 0] (0, 0) _ rfl (setRow_heap _ (w.heap.size + 1) _ _ 84 (0, 0) HK.out) Try.underlying84 rfl (by kernel_rfl)
    · rfl
    exact ⟨none, 0, rfl, Own.nil .., hE.setRow (Nat.le_succ _) _⟩

end Go.Proofs.Ytpjichclpnebjaa

-- part H29
/-
  Layer 6: sets read, the program's and the document's.
-/
namespace Go.Proofs.Ytpjichclpnebjaa
open Go.RowKit

theorem ownT_keep {wr W w' : World} {base c : Nat} {A : Option Addr} {fs : List Si} (h : OwnT wr base A c fs) (hg : W.grownBy w' (Value.slice A fs.length c).ownBlock) {g : Nat} {C : Array Value} {T : TypeId} {fr : Nat × Nat} (hv : W.heap[g]? = some (.cells C T fr)) (hq : wr.heap.size ≤ g) : w'.heap[g]? = some (.cells C T fr) := by
  refine (hg.block g (Array.getElem?_eq_some_iff.1 hv).1 ?_).trans hv
  intro e
  cases A with
  | none => simp [Value.ownBlock] at e
  | some a =>
    have h1 := h.block a rfl
    simp [Value.ownBlock] at e
    omega

theorem gset1_lt {cs : List Col} {bs : List Nat} {L at_ : Int} (h : (gset1 cs bs L at_).2.err = 0) : ∃ u : Nat, (gset1 cs bs L at_).1 = (u : Int) ∧ L < (u : Int) ∧ u < cs.length := by
  unfold gset1 at h ⊢
  by_cases h1 : (vget bs at_).2.2 ≠ 0
  · rw [if_pos h1] at h; exact absurd h h1
  · rw [if_neg h1] at h ⊢
    by_cases h2 : ((vget bs at_).1 : Int) ≤ L ∨ (cs.length : Int) ≤ ((vget bs at_).1 : Int)
    · rw [if_pos h2] at h; exact absurd h (by decide)
    · rw [if_neg h2] at h ⊢
      by_cases h3 : (gcell (colAt cs (vget bs at_).1) bs (vget bs at_).2.1).err ≠ 0
      · rw [if_pos h3] at h; exact absurd h h3
      · rw [if_neg h3]
        exact ⟨(vget bs at_).1, rfl, by omega, by omega⟩

/-- What GetSets answers. -/
def gsetsS (keys : Int) (cs : List Col) (bs : List Nat) (at_ : Int) : List (Int × CV) × Int × Int :=
  if schE keys cs ≠ 0 then ([], 0, schE keys cs) else if (vget bs at_).2.2 ≠ 0 then ([], 0, (vget bs at_).2.2) else if (vget bs at_).1 < 1 ∨ 12 < (vget bs at_).1 then ([], 0, 61) else gsetsA cs bs (vget bs at_).1 (keys - 1) (vget bs at_).2.1 []
def GSetsPost (R : List (Int × CV) × Int × Int) (w : World) (e : Ending) (w' : World) : Prop :=
  ∃ fs A' c', e = .returned (.tuple #[.slice A' R.1.length c', .int .i64 R.2.1, .int .i64 R.2.2]) ∧ fs.map Si.val = R.1 ∧ OwnT w' w.heap.size A' c' fs ∧ TxtT w' w.heap.size fs ∧ Ext w w'
theorem GSetsPost.none {R : List (Int × CV) × Int × Int} {w w' : World} {e : Int} (h : R = ([], 0, e)) (he : Ext w w') : GSetsPost R w (.returned (.tuple #[.slice Option.none 0 0, .int .i64 0, .int .i64 e])) w' := by
  subst h
  exact ⟨[], Option.none, 0, rfl, rfl, OwnT.nil _ _, TxtT.nil _ _, he⟩

set_option maxHeartbeats 6400000 in
set_option maxRecDepth 100000 in
theorem sgetSets_any (A : Option Addr) (n c : Nat) (keys : Int) (cs : List Col) (B : Option Addr) (m d : Nat) (at_ : Int) (bs : List Nat) (w : World) (hs : SchIn w A n c cs) (hx : Rd .u8 w B m bs) (hu : U8 bs) (hm : m ≤ 140737488355328) (hcap : m ≤ d) (hcm : d ≤ 9223372036854775807) :
    Calls Try.prog 42 #[.agg #[.slice A n c, .int .i64 keys], .slice B m d, .int .i64 at_] w (GSetsPost (gsetsS keys cs bs at_) w) := by
  have hE : Ext w (w.alloc (.cells #[.slice A n c, .int .i64 keys] 24)) := (Ext.refl w).alloc _
  have h1 := hs.ext hE
  have hln := hs.rd.1
  have sb := AtS.box w A n c keys
  obtain ⟨R, hR⟩ : ∃ R, R = gsetsS keys cs bs at_ := ⟨_, rfl⟩
  rw [← hR]
  unfold gsetsS at hR
  obtain ⟨E, hEe⟩ : ∃ E, E = schE keys cs := ⟨_, rfl⟩
  rw [← hEe] at hR
  have HE := Lib.hid hEe
  by_cases e0 : E = 0
  · rw [if_neg (fun q => q e0)] at hR
    have hinv := schE_inv (hEe.symm.trans e0)
    rw [hln] at hinv
    have hn12 : n ≤ 12 := hinv.2.1
    have hk1 : 1 ≤ keys := hinv.2.2.1
    have hk3 : keys ≤ 3 := hinv.2.2.2.1
    obtain ⟨l0, hl0⟩ := Int.eq_ofNat_of_zero_le (show 0 ≤ keys - 1 by omega)
    have hl0' : l0 ≤ 12 := by omega
    have Hl0 := Lib.hid hl0
    have Hln := Lib.hid hln
    have b1 : (E != 0) = false := by simp [e0]
    rcases hv : vget bs at_ with ⟨u, nx, er⟩
    rw [hv] at hR
    simp only at hR
    have hub := (vget_bounds (a := at_) hu (by rw [hx.len]; exact hm)).1
    rw [hv] at hub
    simp only at hub
    have Hv := Lib.hid hv
    have Hu := Lib.hid hub
    clear hEe e0 hinv hln hv hl0
    by_cases r0 : er = 0
    · subst r0
      rw [if_neg (fun q => q rfl)] at hR
      by_cases hbad : u < 1 ∨ 12 < u
      · rw [if_pos hbad] at hR
        have key : (decide (u < 1) = true ∧ decide ((u : Int) < 1) = true) ∨ ((decide (u < 1) = false ∧ decide ((u : Int) < 1) = false) ∧ decide (12 < u) = true ∧ decide ((12 : Int) < (u : Int)) = true) := by
          simp only [decide_eq_true_eq, decide_eq_false_iff_not]; omega
        have HR := Lib.hid hR
        clear hR hbad hub
        rcases key with ⟨q1, q1'⟩ | ⟨⟨q1, q1'⟩, q2, q2'⟩
        all_goals
          go_enter Try.func42, Try.ntmps42
          go_wp2_with fail
          refine (scheck_any A n c keys cs _ h1.rd h1.nm h1.le).mono ?_
          rintro e w1 ⟨rfl, he1⟩
          rw [← HE.out]
          go_wp2_with fail
          refine (get_any B m d at_ bs _ ((hx.ext hE).ext he1) hu hm hcap hcm).mono ?_
          rintro e w2 ⟨rfl, rfl⟩
          rw [Hv.out]
          go_wp2
          go_ret3
          exact GSetsPost.none HR.out (hE.trans he1)
      · rw [if_neg hbad] at hR
        have hu1 : 1 ≤ u := by omega
        have hu12 : u ≤ 12 := by omega
        have q1 : decide (u < 1) = false := decide_eq_false (by omega)
        have q1' : decide ((u : Int) < 1) = false := decide_eq_false (by omega)
        have q2 : decide (12 < u) = false := decide_eq_false (by omega)
        have q2' : decide ((12 : Int) < (u : Int)) = false := decide_eq_false (by omega)
        rw [Hl0.out] at hR
        have HR := Lib.hid hR
        clear hR hbad hub
        go_enter Try.func42, Try.ntmps42
        go_wp2_with fail
        refine (scheck_any A n c keys cs _ h1.rd h1.nm h1.le).mono ?_
        rintro e w1 ⟨rfl, he1⟩
        rw [← HE.out]
        have s1 := sb.ext he1
        have hE1 := hE.trans he1
        go_wp2_with fail
        refine (get_any B m d at_ bs _ ((hx.ext hE).ext he1) hu hm hcap hcm).mono ?_
        rintro e w2 ⟨rfl, rfl⟩
        rw [Hv.out]
        obtain ⟨k0, k1, kz⟩ := s1
        go_wp2_with fail
        go_loopw [2, 12, 13, 42] (fun a v b i wr => ∃ (j l : Nat) (p : Int) (A' : Option Addr) (c' : Nat) (fs : List Si), j ≤ u ∧ l ≤ 12 ∧ i = .int .u64 j ∧ b = .int .i64 l ∧ a = .int .i64 p ∧ v = .slice A' j c' ∧ fs.length = j ∧ OwnT wr w1.heap.size A' c' fs ∧ TxtT wr w1.heap.size fs ∧ Ext w1 wr ∧ Hid (R = gsetsA cs bs (u - j) (l : Int) p (fs.map Si.val))) (fun _ _ _ i _ => u - (intOf i).toNat)
        case atStart => exact ⟨0, l0, nx, _, _, [], Nat.zero_le _, hl0', rfl, by rw [← Hl0.out], rfl, rfl, rfl, OwnT.nil _ _, TxtT.nil _ _, Ext.refl w1, HR.out⟩
        case round =>
          obtain ⟨j, l, p, A', c', fs, hj, hl12, rfl, rfl, rfl, rfl, hfl, hown, htx, hb, HF⟩ := hrel
          have s0 := (AtS.mk k0 k1 kz).ext hb
          have hz := hb.size
          have hEw := hE1.trans hb
          have Hfl := Lib.hid hfl
          have Hown := Lib.hid hown
          have Htx := Lib.hid htx
          by_cases hlt : j < u
          · have hlt' : decide ((j : Int) < (u : Int)) = true := decide_eq_true (by omega)
            have hwj : IntKind.u64.wrap ((j : Int) + 1) = (j : Int) + 1 := IntWalk.u64_in _ (by omega)
            have hstep := HF.out
            rw [show u - j = (u - (j + 1)) + 1 by omega, gsetsA_step] at hstep
            have hlt1 := gset1_lt (cs := cs) (bs := bs) (L := (l : Int)) (at_ := p)
            obtain ⟨g, hg⟩ : ∃ g, g = gset1 cs bs (l : Int) p := ⟨_, rfl⟩
            rw [← hg] at hstep hlt1
            have HC : Hid (∀ W, Ext w W → Calls Try.prog 72 #[.agg #[.slice A n c, .int .i64 keys], .int .i64 (l : Int), .slice B m d, .int .i64 p] W (GSetPost g W)) := Lib.hid (fun W hW => by
              rw [hg]; exact getSet_any A n c keys cs l B m d p bs W (hs.ext hW) hn12 hl12 (hx.ext hW) hu hm hcap hcm)
            clear hg hown htx hfl
            obtain ⟨col, nul, num, txt, next, err⟩ := g
            simp only at hstep hlt1
            obtain ⟨k0', k1', kz'⟩ := s0
            by_cases r0 : err = 0
            · subst r0
              obtain ⟨u', hu', hu1', hu2'⟩ := hlt1 rfl
              subst hu'
              rw [Hln.out] at hu2'
              have HN := Lib.hid (hstep.trans (if_neg (fun q => q rfl)))
              clear hstep hlt1
              go_wp2_with fail
              refine (HC.out _ hEw).mono ?_
              rintro e w3 ⟨A3, c3, rfl, hown3, he3⟩
              simp only at hown3 ⊢
              have hX3 : Ext w3 (w3.alloc (.cells #[.int .i64 (u' : Int), .bool nul, .int .i64 num, .slice A3 txt.length c3] 84)) := (Ext.refl w3).alloc _
              have hX4 : Ext (w3.alloc (.cells #[.int .i64 (u' : Int), .bool nul, .int .i64 num, .slice A3 txt.length c3] 84)) ((w3.alloc (.cells #[.int .i64 (u' : Int), .bool nul, .int .i64 num, .slice A3 txt.length c3] 84)).alloc (.cells #[.int .i64 (u' : Int), .bool nul, .int .i64 num, .slice A3 txt.length c3] 84)) := (Ext.refl _).alloc _
              have hE4 := (he3.trans hX3).trans hX4
              have ho4 := Hown.out.ext hE4
              have hz4 := hE4.size
              have hK5 : ((w3.alloc (.cells #[.int .i64 (u' : Int), .bool nul, .int .i64 num, .slice A3 txt.length c3] 84)).alloc (.cells #[.int .i64 (u' : Int), .bool nul, .int .i64 num, .slice A3 txt.length c3] 84)).heap[w3.heap.size]? = some (.cells #[.int .i64 (u' : Int), .bool nul, .int .i64 num, .slice A3 txt.length c3] 84) := Ext.kept hX4
              have HK5 := Lib.hid hK5
              clear hK5
              go_wp2_with (at_builtin; refine wpList_pushT (w0 := w1) ⟨(u' : Int), nul, num, A3, c3, txt⟩ rfl _ _ rfl ho4 j Hfl.out rfl rfl (heap_alloc_new2 _ _ _) (by omega) (hb.trans hE4) (Nat.le_trans hz hz4) ?_; intro A5 c5 w5 hown5 hgr hb5 hz5; have hk := ownT_keep Hown.out hgr HK5.out he3.size; have kc0 := cell_of_row w5 w3.heap.size 0 _ _ (0, 0) hk; simp only [List.getElem?_toArray, List.getElem?_cons_zero] at kc0; have Hk := Lib.hid hk; clear hk)
              have hlow : ∀ g ∈ fs, ∀ q, g.cell.A = some q → q.block < wr.heap.size := fun g hg q hq => ((Htx.out.1 g hg).block q hq).2
              have htx5 : TxtT w5 w1.heap.size (fs ++ [⟨(u' : Int), nul, num, A3, c3, txt⟩]) := TxtT.grown (base' := w1.heap.size) (TxtT.snoc (Htx.out.ext hE4) ((hown3.ext hX3).ext hX4) hz hlow) ho4 hgr
              go_roundw
              case rel => exact ⟨j + 1, u', next, A5, c5, _, by omega, by omega, by go_num, rfl, rfl, rfl, by simp [Hfl.out], hown5, htx5, hb5, by rw [List.map_append]; exact HN.out⟩
              case measure => simp [intOf]; omega
            · have HN := Lib.hid (hstep.trans (if_pos r0))
              have b2 : (err != 0) = true := by simp [r0]
              clear hstep r0 hlt1
              go_wp2_with fail
              refine (HC.out _ hEw).mono ?_
              rintro e w3 ⟨A3, c3, rfl, hown3, he3⟩
              simp only at hown3 ⊢
              have hX3 : Ext w3 (w3.alloc (.cells #[.int .i64 col, .bool nul, .int .i64 num, .slice A3 txt.length c3] 84)) := (Ext.refl w3).alloc _
              go_wp2
              go_ret3
              exact GSetsPost.none HN.out ((hEw.trans he3).trans hX3)
          · obtain rfl : j = u := by omega
            have hF := HF.out
            rw [Nat.sub_self] at hF
            have HN := Lib.hid (hF.trans (show gsetsA cs bs 0 (l : Int) p (fs.map Si.val) = (fs.map Si.val, p, 0) from rfl))
            clear hown htx hF
            go_wp2
            go_ret3
            exact ⟨fs, A', c', by rw [HN.out]; simp only [List.length_map, Hfl.out]; rfl, by rw [HN.out], Hown.out.mono hE1.size, Htx.out.mono hE1.size, hEw⟩
    · rw [if_pos r0] at hR
      have b2 : (er != 0) = true := by simp [r0]
      have HR := Lib.hid hR
      clear hR r0 hub
      go_enter Try.func42, Try.ntmps42
      go_wp2_with fail
      refine (scheck_any A n c keys cs _ h1.rd h1.nm h1.le).mono ?_
      rintro e w1 ⟨rfl, he1⟩
      rw [← HE.out]
      go_wp2_with fail
      refine (get_any B m d at_ bs _ ((hx.ext hE).ext he1) hu hm hcap hcm).mono ?_
      rintro e w2 ⟨rfl, rfl⟩
      rw [Hv.out]
      go_wp2
      go_ret3
      exact GSetsPost.none HR.out (hE.trans he1)
  · rw [if_pos e0] at hR
    have b1 : (E != 0) = true := by simp [e0]
    clear hEe e0
    have HR := Lib.hid hR
    clear hR
    go_enter Try.func42, Try.ntmps42
    go_wp2_with fail
    refine (scheck_any A n c keys cs _ h1.rd h1.nm h1.le).mono ?_
    rintro e w1 ⟨rfl, he1⟩
    rw [← HE.out]
    go_wp2
    go_ret3
    exact GSetsPost.none HR.out (hE.trans he1)

end Go.Proofs.Ytpjichclpnebjaa

-- part H30
/-
  Layer 6: sets read by the document.
-/
namespace Go.Proofs.Ytpjichclpnebjaa
open Go.RowKit

set_option maxHeartbeats 6400000 in
set_option maxRecDepth 100000 in
theorem refGetSets_any (A : Option Addr) (n c : Nat) (keys : Int) (cs : List Col) (B : Option Addr) (m d : Nat) (at_ : Int) (bs : List Nat) (w : World) (hs : SchIn w A n c cs) (hx : Rd .u8 w B m bs) (hu : U8 bs) (hm : m ≤ 140737488355328) :
    Calls Try.prog 43 #[.agg #[.slice A n c, .int .i64 keys], .slice B m d, .int .i64 at_] w (GSetsPost (gsetsS keys cs bs at_) w) := by
  have hE : Ext w (w.alloc (.cells #[.slice A n c, .int .i64 keys] 24)) := (Ext.refl w).alloc _
  have h1 := hs.ext hE
  have hln := hs.rd.1
  have sb := AtS.box w A n c keys
  obtain ⟨R, hR⟩ : ∃ R, R = gsetsS keys cs bs at_ := ⟨_, rfl⟩
  rw [← hR]
  unfold gsetsS at hR
  obtain ⟨E, hEe⟩ : ∃ E, E = schE keys cs := ⟨_, rfl⟩
  rw [← hEe] at hR
  have HE := Lib.hid hEe
  by_cases e0 : E = 0
  · rw [if_neg (fun q => q e0)] at hR
    have hinv := schE_inv (hEe.symm.trans e0)
    rw [hln] at hinv
    have hn12 : n ≤ 12 := hinv.2.1
    have hk1 : 1 ≤ keys := hinv.2.2.1
    have hk3 : keys ≤ 3 := hinv.2.2.2.1
    obtain ⟨l0, hl0⟩ := Int.eq_ofNat_of_zero_le (show 0 ≤ keys - 1 by omega)
    have hl0' : l0 ≤ 12 := by omega
    have Hl0 := Lib.hid hl0
    have Hln := Lib.hid hln
    have b1 : (E != 0) = false := by simp [e0]
    rcases hv : vget bs at_ with ⟨u, nx, er⟩
    rw [hv] at hR
    simp only at hR
    have hub := (vget_bounds (a := at_) hu (by rw [hx.len]; exact hm)).1
    rw [hv] at hub
    simp only at hub
    have Hv := Lib.hid hv
    have Hu := Lib.hid hub
    clear hEe e0 hinv hln hv hl0
    by_cases r0 : er = 0
    · subst r0
      rw [if_neg (fun q => q rfl)] at hR
      by_cases hbad : u < 1 ∨ 12 < u
      · rw [if_pos hbad] at hR
        have key : (decide (u < 1) = true ∧ decide ((u : Int) < 1) = true) ∨ ((decide (u < 1) = false ∧ decide ((u : Int) < 1) = false) ∧ decide (12 < u) = true ∧ decide ((12 : Int) < (u : Int)) = true) := by
          simp only [decide_eq_true_eq, decide_eq_false_iff_not]; omega
        have HR := Lib.hid hR
        clear hR hbad hub
        rcases key with ⟨q1, q1'⟩ | ⟨⟨q1, q1'⟩, q2, q2'⟩
        all_goals
          go_enter Try.func43, Try.ntmps43
          go_wp2_with fail
          refine (refScheck_any A n c keys cs _ h1.rd h1.nm h1.le).mono ?_
          rintro e w1 ⟨rfl, he1⟩
          rw [← HE.out]
          go_wp2_with fail
          refine (refGet_any B m d at_ bs _ ((hx.ext hE).ext he1) hu hm).mono ?_
          rintro e w2 ⟨rfl, rfl⟩
          rw [Hv.out]
          go_wp2
          go_ret3
          exact GSetsPost.none HR.out (hE.trans he1)
      · rw [if_neg hbad] at hR
        have hu1 : 1 ≤ u := by omega
        have hu12 : u ≤ 12 := by omega
        have q1 : decide (u < 1) = false := decide_eq_false (by omega)
        have q1' : decide ((u : Int) < 1) = false := decide_eq_false (by omega)
        have q2 : decide (12 < u) = false := decide_eq_false (by omega)
        have q2' : decide ((12 : Int) < (u : Int)) = false := decide_eq_false (by omega)
        rw [Hl0.out] at hR
        have HR := Lib.hid hR
        clear hR hbad hub
        go_enter Try.func43, Try.ntmps43
        go_wp2_with fail
        refine (refScheck_any A n c keys cs _ h1.rd h1.nm h1.le).mono ?_
        rintro e w1 ⟨rfl, he1⟩
        rw [← HE.out]
        have s1 := sb.ext he1
        have hE1 := hE.trans he1
        go_wp2_with fail
        refine (refGet_any B m d at_ bs _ ((hx.ext hE).ext he1) hu hm).mono ?_
        rintro e w2 ⟨rfl, rfl⟩
        rw [Hv.out]
        obtain ⟨k0, k1, kz⟩ := s1
        go_wp2_with fail
        go_loopw [11, 13, 14, 15] (fun a v b i wr => ∃ (j l : Nat) (p : Int) (A' : Option Addr) (c' : Nat) (fs : List Si), j ≤ u ∧ l ≤ 12 ∧ i = .int .u64 j ∧ b = .int .i64 l ∧ a = .int .i64 p ∧ v = .slice A' j c' ∧ fs.length = j ∧ OwnT wr w1.heap.size A' c' fs ∧ TxtT wr w1.heap.size fs ∧ Ext w1 wr ∧ Hid (R = gsetsA cs bs (u - j) (l : Int) p (fs.map Si.val))) (fun _ _ _ i _ => u - (intOf i).toNat)
        case atStart => exact ⟨0, l0, nx, _, _, [], Nat.zero_le _, hl0', rfl, by rw [← Hl0.out], rfl, rfl, rfl, OwnT.made _ (Nat.le_refl _), TxtT.nil _ _, (Ext.refl w1).alloc _, HR.out⟩
        case round =>
          obtain ⟨j, l, p, A', c', fs, hj, hl12, rfl, rfl, rfl, rfl, hfl, hown, htx, hb, HF⟩ := hrel
          have s0 := (AtS.mk k0 k1 kz).ext hb
          have hz := hb.size
          have hEw := hE1.trans hb
          have Hfl := Lib.hid hfl
          have Hown := Lib.hid hown
          have Htx := Lib.hid htx
          by_cases hlt : j < u
          · have hlt' : decide ((j : Int) < (u : Int)) = true := decide_eq_true (by omega)
            have hwj : IntKind.u64.wrap ((j : Int) + 1) = (j : Int) + 1 := IntWalk.u64_in _ (by omega)
            have hstep := HF.out
            rw [show u - j = (u - (j + 1)) + 1 by omega, gsetsA_step] at hstep
            unfold gset1 at hstep
            rw [Hln.out] at hstep
            rcases hv2 : vget bs p with ⟨u', nx', er'⟩
            rw [hv2] at hstep
            simp only at hstep
            have hub' := (vget_bounds (a := p) hu (by rw [hx.len]; exact hm)).1
            rw [hv2] at hub'
            simp only at hub'
            have Hv2 := Lib.hid hv2
            obtain ⟨k0', k1', kz'⟩ := s0
            have hwn : IntKind.u64.wrap (n : Int) = (n : Int) := IntWalk.u64_in _ (by omega)
            clear hv2 hown htx hfl
            by_cases e1 : er' = 0
            · subst e1
              rw [if_neg (show ¬ ((0 : Int) ≠ 0) by decide)] at hstep
              by_cases hbad : (u' : Int) ≤ (l : Int) ∨ (n : Int) ≤ (u' : Int)
              · rw [if_pos hbad] at hstep
                have HN := Lib.hid (hstep.trans (if_pos (show (crE 61).err ≠ 0 by decide)))
                have key : (decide ((n : Int) ≤ (u' : Int)) = true ∧ decide (n ≤ u') = true) ∨ ((decide ((n : Int) ≤ (u' : Int)) = false ∧ decide (n ≤ u') = false) ∧ decide ((u' : Int) ≤ (l : Int)) = true ∧ decide (u' ≤ l) = true ∧ IntKind.i64.wrap (u' : Int) = (u' : Int)) := by
                  by_cases q : (n : Int) ≤ (u' : Int)
                  · left; simp only [decide_eq_true_eq]; omega
                  · right
                    have : IntKind.i64.wrap (u' : Int) = (u' : Int) := IntWalk.i64_in _ (by omega)
                    exact ⟨⟨decide_eq_false q, decide_eq_false (by omega)⟩, decide_eq_true (by omega), decide_eq_true (by omega), this⟩
                clear hstep hbad hub'
                rcases key with ⟨p1, p1'⟩ | ⟨⟨p1, p1'⟩, p2, p2', p3⟩
                all_goals
                  go_wp2_with fail
                  refine (refGet_any B m d p bs _ (hx.ext hEw) hu hm).mono ?_
                  rintro e w3 ⟨rfl, rfl⟩
                  rw [Hv2.out]
                  go_wp2
                  go_ret3
                  exact GSetsPost.none HN.out hEw
              · rw [if_neg hbad] at hstep
                have hun : u' < n := by omega
                obtain ⟨b, o, dd, rfl, hbl, hd, c0, c1, c2'⟩ := (hs.rd.ext hEw).at_ hun
                rw [colAt_of hd] at hstep
                obtain ⟨nm, kd, nl⟩ := dd
                simp only at c0 c1 c2'
                obtain ⟨g, hg⟩ : ∃ g, g = gcell ⟨nm, kd, nl⟩ bs nx' := ⟨_, rfl⟩
                rw [← hg] at hstep
                have HC : Hid (∀ W, Ext w W → Calls Try.prog 70 #[.agg #[.string nm, .int .i64 kd, .bool nl], .slice B m d, .int .i64 nx'] W (CGetPost g W)) := Lib.hid (fun W hW => by
                  rw [hg]; exact refCell_any nm kd nl B m d nx' bs W (hx.ext hW) hu hm)
                clear hg hd
                obtain ⟨nul, num, txt, next, err⟩ := g
                simp only at hstep
                have p1 : decide ((u' : Int) ≤ (l : Int)) = false := decide_eq_false (by omega)
                have p2 : decide ((n : Int) ≤ (u' : Int)) = false := decide_eq_false (by omega)
                have p1' : decide (u' ≤ l) = false := decide_eq_false (by omega)
                have p2' : decide (n ≤ u') = false := decide_eq_false (by omega)
                have hwu : IntKind.i64.wrap (u' : Int) = (u' : Int) := IntWalk.i64_in _ (by omega)
                have i0 : (0 : Int) ≤ (u' : Int) := by omega
                have i1 : (u' : Int) < (n : Int) := by omega
                clear hbad
                by_cases r0 : err = 0
                · subst r0
                  rw [if_neg (show ¬ ((0 : Int) ≠ 0) by decide)] at hstep
                  have HN := Lib.hid (hstep.trans (if_neg (fun q => q rfl)))
                  clear hstep
                  go_wp2_with fail
                  refine (refGet_any B m d p bs _ (hx.ext hEw) hu hm).mono ?_
                  rintro e w3 ⟨rfl, rfl⟩
                  rw [Hv2.out]
                  go_wp2_with fail
                  refine (HC.out _ hEw).mono ?_
                  rintro e w3 ⟨A3, c3, rfl, hown3, he3⟩
                  simp only at hown3 ⊢
                  have hX3 : Ext w3 (w3.alloc (.cells #[.bool nul, .int .i64 num, .slice A3 txt.length c3] 82)) := (Ext.refl w3).alloc _
                  have hX4 : Ext (w3.alloc (.cells #[.bool nul, .int .i64 num, .slice A3 txt.length c3] 82)) ((w3.alloc (.cells #[.bool nul, .int .i64 num, .slice A3 txt.length c3] 82)).alloc (.cells #[.int .i64 (u' : Int), .bool nul, .int .i64 num, .slice A3 txt.length c3] 84)) := (Ext.refl _).alloc _
                  have hE4 := (he3.trans hX3).trans hX4
                  have ho4 := Hown.out.ext hE4
                  have hz4 := hE4.size
                  go_wp2_with (at_builtin; refine wpList_pushT (w0 := w1) ⟨(u' : Int), nul, num, A3, c3, txt⟩ rfl _ _ rfl ho4 j Hfl.out rfl rfl (heap_alloc_new2 _ _ _) (by omega) (hb.trans hE4) (Nat.le_trans hz hz4) ?_; intro A5 c5 w5 hown5 hgr hb5 hz5)
                  have hlow : ∀ g ∈ fs, ∀ q, g.cell.A = some q → q.block < wr.heap.size := fun g hg q hq => ((Htx.out.1 g hg).block q hq).2
                  have htx5 : TxtT w5 w1.heap.size (fs ++ [⟨(u' : Int), nul, num, A3, c3, txt⟩]) := TxtT.grown (base' := w1.heap.size) (TxtT.snoc (Htx.out.ext hE4) ((hown3.ext hX3).ext hX4) hz hlow) ho4 hgr
                  go_roundw
                  case rel => exact ⟨j + 1, u', next, A5, c5, _, by omega, by omega, by go_num, rfl, rfl, rfl, by simp [Hfl.out], hown5, htx5, hb5, by rw [List.map_append]; exact HN.out⟩
                  case measure => simp [intOf]; omega
                · rw [if_pos r0] at hstep
                  have HN := Lib.hid (hstep.trans (if_pos (show (crE err).err ≠ 0 from r0)))
                  have b2 : (err != 0) = true := by simp [r0]
                  clear hstep r0
                  go_wp2_with fail
                  refine (refGet_any B m d p bs _ (hx.ext hEw) hu hm).mono ?_
                  rintro e w3 ⟨rfl, rfl⟩
                  rw [Hv2.out]
                  go_wp2_with fail
                  refine (HC.out _ hEw).mono ?_
                  rintro e w3 ⟨A3, c3, rfl, hown3, he3⟩
                  simp only at hown3 ⊢
                  have hX3 : Ext w3 (w3.alloc (.cells #[.bool nul, .int .i64 num, .slice A3 txt.length c3] 82)) := (Ext.refl w3).alloc _
                  go_wp2
                  go_ret3
                  exact GSetsPost.none HN.out ((hEw.trans he3).trans hX3)
            · rw [if_pos e1] at hstep
              have HN := Lib.hid (hstep.trans (if_pos (show (crE er').err ≠ 0 from e1)))
              have b2 : (er' != 0) = true := by simp [e1]
              clear hstep e1
              go_wp2_with fail
              refine (refGet_any B m d p bs _ (hx.ext hEw) hu hm).mono ?_
              rintro e w3 ⟨rfl, rfl⟩
              rw [Hv2.out]
              go_wp2
              go_ret3
              exact GSetsPost.none HN.out hEw
          · obtain rfl : j = u := by omega
            have hF := HF.out
            rw [Nat.sub_self] at hF
            have HN := Lib.hid (hF.trans (show gsetsA cs bs 0 (l : Int) p (fs.map Si.val) = (fs.map Si.val, p, 0) from rfl))
            clear hown htx hF
            go_wp2
            go_ret3
            exact ⟨fs, A', c', by rw [HN.out]; simp only [List.length_map, Hfl.out]; rfl, by rw [HN.out], Hown.out.mono hE1.size, Htx.out.mono hE1.size, hEw⟩
    · rw [if_pos r0] at hR
      have b2 : (er != 0) = true := by simp [r0]
      have HR := Lib.hid hR
      clear hR r0 hub
      go_enter Try.func43, Try.ntmps43
      go_wp2_with fail
      refine (refScheck_any A n c keys cs _ h1.rd h1.nm h1.le).mono ?_
      rintro e w1 ⟨rfl, he1⟩
      rw [← HE.out]
      go_wp2_with fail
      refine (refGet_any B m d at_ bs _ ((hx.ext hE).ext he1) hu hm).mono ?_
      rintro e w2 ⟨rfl, rfl⟩
      rw [Hv.out]
      go_wp2
      go_ret3
      exact GSetsPost.none HR.out (hE.trans he1)
  · rw [if_pos e0] at hR
    have b1 : (E != 0) = true := by simp [e0]
    clear hEe e0
    have HR := Lib.hid hR
    clear hR
    go_enter Try.func43, Try.ntmps43
    go_wp2_with fail
    refine (refScheck_any A n c keys cs _ h1.rd h1.nm h1.le).mono ?_
    rintro e w1 ⟨rfl, he1⟩
    rw [← HE.out]
    go_wp2
    go_ret3
    exact GSetsPost.none HR.out (hE.trans he1)

end Go.Proofs.Ytpjichclpnebjaa
