/-
  Layer 14: a disk as a caller has it: its state behind each call.
-/
import Derived.Test.YtjckfbpdnpehcaaDKn
namespace Go.Proofs.Ytjckfbpdnpehcaa
open Go.RowKit Go.Maps Go.WideMaps
set_option maxRecDepth 100000

theorem Hist.sub {S S' : DS} (h : Hist S) (hs : S'.safe = S.safe) (hc : S'.chs = S.chs) (hf : S'.files = S.files) (hl : ∀ q, (∃ f, (q, f) ∈ S.fl) → ∃ f, (q, f) ∈ S'.fl) : Hist S' := by
  have e : ∀ j, preD S' j = preD S j := fun j => by unfold preD; rw [hs, hc]
  refine ⟨fun j hj => ?_, fun j x q hj hq => ?_, fun j g hg => ?_, ?_⟩
  · rw [e]; exact h.few j (by rw [← hc]; exact hj)
  · rw [e] at hq
    obtain ⟨h1, h2⟩ := h.id j x q (by rw [← hc]; exact hj) hq
    exact ⟨h1, hl q h2⟩
  · rw [e]; exact h.ok j g (by rw [← hc]; exact hg)
  · rw [e, hc, hf]; exact h.all
/-- What is sure of a state, whatever lies where. -/
structure Sure (S : DS) : Prop where
  hist : Hist S
  asc : AscD S.files
  few : S.files.length ≤ 400
  idF : ∀ x q, lkp S.files x = some q → x.length ≤ 40 ∧ ∃ f, (q, f) ∈ S.fl
theorem Sure.steps {S : DS} (h : Sure S) (n : Int) : Sure { S with steps := n } := ⟨h.hist.steps n, h.asc, h.few, h.idF⟩
theorem hist_fated {S : DS} {f : DS → Int × DS} {g : DS → Int → DS} (h : Sure S) (hf : ∀ S1, Sure S1 → Hist (f S1).2) (hg : ∀ S1 n, Sure S1 → Hist (g S1 n)) : Hist (fated S f g).2 := by
  have hs := h.steps (S.steps + 1)
  unfold fated
  split
  · exact h.hist
  split
  · exact hs.hist
  split
  · exact hg _ _ hs
  split
  · exact hs.hist.sub rfl rfl rfl (fun _ q => q)
  split
  · exact (hf _ hs).sub rfl rfl rfl (fun _ q => q)
  · exact hf _ hs
theorem hist_create {S : DS} (h : Sure S) (x : List UInt8) (q : Nat) : Hist (doCreate x q S).2 := by
  unfold doCreate
  split
  · rename_i hr
    obtain ⟨h1, h2, h3⟩ := refC_ok hr
    have hS : Hist { S with fl := S.fl ++ [(q, (⟨[], 0⟩ : FS))] } := h.hist.sub rfl rfl rfl (fun p hp => by obtain ⟨f, hf⟩ := hp; exact ⟨f, List.mem_append.2 (.inl hf)⟩)
    refine hS.snoc (.cr x q) (nm40 h1) ?_ ?_
    · have := len_put h.asc x q
      rw [h2] at this
      show (putD S.files x q).length ≤ 400
      rw [this]
      simp
      omega
    · intro y p hp
      have hp : lkp (putD S.files x q) y = some p := hp
      rw [lkp_put h.asc] at hp
      split at hp
      · rename_i e
        injection hp with hp
        subst hp
        rw [e]
        exact ⟨nm40 h1, _, List.mem_append.2 (.inr (List.mem_singleton.2 rfl))⟩
      · obtain ⟨k1, f, k2⟩ := h.idF y p hp
        exact ⟨k1, f, List.mem_append.2 (.inl k2)⟩
  · exact h.hist
theorem hist_remove {S : DS} (h : Sure S) (x : List UInt8) : Hist (doRemove x S).2 := by
  unfold doRemove
  split
  · rename_i hr
    obtain ⟨p, hp⟩ := Option.isSome_iff_exists.1 hr
    refine h.hist.snoc (.rm x) (h.idF x p hp).1 ?_ ?_
    · have := len_del h.asc x
      have := h.few
      show (delD S.files x).length ≤ 400
      omega
    · intro y r hy
      have hy : lkp (delD S.files x) y = some r := hy
      rw [lkp_del h.asc] at hy
      split at hy
      · cases hy
      · exact h.idF y r hy
  · exact h.hist
theorem hist_rename {S : DS} (h : Sure S) (x y : List UInt8) : Hist (doRename x y S).2 := by
  unfold doRename
  cases hl : lkp S.files x with
  | none => exact h.hist
  | some q =>
    simp only
    split
    · exact h.hist
    · rename_i hn
      split
      · exact h.hist
      · have hy : y.length ≤ 40 := nm40 (by simpa using hn)
        have e : apD S.files (.mv x y) = delD (putD S.files y q) x := by unfold apD; simp only [hl]
        have hS := h.hist.snoc (.mv x y) ⟨(h.idF x q hl).1, hy, by rw [hl]; rfl⟩
        rw [e] at hS
        refine hS ?_ ?_
        · have h1 := len_del (asc_put h.asc y q) x
          have h2 := len_put h.asc y q
          have h3 := h.few
          have h4 : (lkp (putD S.files y q) x).isSome = true := by
            rw [lkp_put h.asc]
            split
            · rfl
            · rw [hl]; rfl
          rw [h4, if_pos rfl] at h1
          split at h2 <;> omega
        · intro z r hr
          rw [lkp_del (asc_put h.asc y q)] at hr
          split at hr
          · cases hr
          · rw [lkp_put h.asc] at hr
            split at hr
            · rename_i e1
              injection hr with hr
              subst hr
              rw [e1]
              exact ⟨hy, (h.idF x q hl).2⟩
            · exact h.idF z r hr
theorem hist_sync {S : DS} (h : Sure S) (x : List UInt8) : Hist (doSync x S).2 := by
  unfold doSync
  split
  · rename_i q _
    exact h.hist.sub rfl rfl rfl (fun p hp => has_setF (q := q) (g := fun f => ⟨f.data, f.data.length⟩) hp)
  · exact h.hist
theorem hist_append {S : DS} (h : Sure S) (x : List UInt8) (ys : List Nat) : Hist (doAppend x ys S).2 := by
  unfold doAppend
  split
  · exact h.hist
  · split
    · exact h.hist
    · rename_i q _ _
      exact h.hist.sub rfl rfl rfl (fun p hp => has_setF (q := q) (g := fun f => ⟨f.data ++ ys, f.safe⟩) hp)
theorem hist_part {S : DS} (h : Sure S) (x : List UInt8) (ys : List Nat) (n : Int) : Hist (doPart x ys S n) := by
  unfold doPart
  split
  · exact h.hist
  · rename_i q _
    exact h.hist.sub rfl rfl rfl (fun p hp => has_setF (q := q) (g := fun f => ⟨f.data ++ ys.take (max (min (min n (ys.length : Int)) (S.room - (usedD S : Int))) 0).toNat, f.safe⟩) hp)
/-- SyncDir. -/
def doSyncDir (S : DS) : Int × DS := (0, { S with safe := S.files, chs := [] })
theorem hist_syncdir {S : DS} (h : Sure S) : Hist (doSyncDir S).2 := Hist.settled h.few h.idF
theorem hist_on {S : DS} (h : Hist0 S) (ks : List Int) : Hist (doOn ks S) := by
  have hk := keptC_le ks 0 S.chs.length
  have hj : (keptC ks 0 (S.chs.length : Int)).toNat ≤ S.chs.length := by omega
  have h1 := h.few _ hj
  have h2 := fun x q => h.id (keptC ks 0 (S.chs.length : Int)).toNat x q hj
  unfold doOn
  generalize preD S (keptC ks 0 (S.chs.length : Int)).toNat = D at h1 h2
  refine ⟨fun j _ => ?_, fun j x q _ hl => ?_, fun j g hg => ?_, ?_⟩
  · unfold preD; simpa using h1
  · unfold preD at hl
    obtain ⟨k1, k2⟩ := h2 x q (by simpa using hl)
    exact ⟨k1, onFl_has _ k2⟩
  · simp at hg
  · unfold preD; rfl

/-- The next world: the blocks P are as they were. -/
structure PFr (P : Nat → Prop) (w w' : World) : Prop where
  os : w'.os = w.os
  tape : w'.tape = w.tape
  output : w'.output = w.output
  size : w.heap.size ≤ w'.heap.size
  block : ∀ b, P b → w'.heap[b]? = w.heap[b]?
theorem PFr.trans {P : Nat → Prop} {a b c : World} (h : PFr P a b) (k : PFr P b c) : PFr P a c := ⟨k.os.trans h.os, k.tape.trans h.tape, k.output.trans h.output, Nat.le_trans h.size k.size, fun i hi => (k.block i hi).trans (h.block i hi)⟩
theorem PFr.less {P Q : Nat → Prop} {a b : World} (h : PFr P a b) (hq : ∀ i, Q i → P i) : PFr Q a b := ⟨h.os, h.tape, h.output, h.size, fun i hi => h.block i (hq i hi)⟩
theorem PFr.below {P : Nat → Prop} {a b c : World} {n : Nat} (h : PFr P b c) (k : Below n a b) (hp : ∀ i, i < n → P i) : Below n a c := ⟨h.os.trans k.os, h.tape.trans k.tape, h.output.trans k.output, Nat.le_trans k.size h.size, fun i hi => (h.block i (hp i hi)).trans (k.block i hi)⟩
/-- A disk as a caller has it: the blocks P are none of the disk's. -/
def DkR (w : World) (P : Nat → Prop) (dp : Nat) (S : DS) : Prop := ∃ lo X I, DK w X lo dp S I ∧ Hist S ∧ ∀ b, P b → b < w.heap.size ∧ ¬ X b
theorem DK.sure {w : World} {X : Nat → Prop} {lo dp : Nat} {S : DS} {I : DI} (h : DK w X lo dp S I) (hh : Hist S) : Sure S := ⟨hh, h.dF.asc, h.few, h.idF⟩
theorem Nx.pfr {w w' : World} {X X' P : Nat → Prop} (h : Nx X w X' w') (hP : ∀ b, P b → b < w.heap.size ∧ ¬ X b) : PFr P w w' ∧ ∀ b, P b → b < w'.heap.size ∧ ¬ X' b :=
  ⟨⟨h.fr.os, h.fr.tape, h.fr.output, h.fr.size, fun k hk => h.fr.block k (hP k hk).1 (hP k hk).2⟩, fun b hb => ⟨Nat.lt_of_lt_of_le (hP b hb).1 h.fr.size, fun hx => by
    rcases h.new b hx with q | q
    · exact (hP b hb).2 q
    · have := (hP b hb).1; omega⟩⟩

section
variable {w w1 w' : World} {P : Nat → Prop} {dp : Nat} {S : DS}
theorem DkR.ext (h : DkR w P dp S) (he : Ext w w') : DkR w' P dp S := by obtain ⟨lo, X, I, h1, h2, h3⟩ := h; exact ⟨lo, X, I, h1.ext he, h2, fun b hb => ⟨Nat.lt_of_lt_of_le (h3 b hb).1 he.size, (h3 b hb).2⟩⟩
/-- What is new in the next world is none of the disk's. -/
theorem DkR.more (h : DkR w P dp S) (he : Ext w w') : DkR w' (fun b => P b ∨ (w.heap.size ≤ b ∧ b < w'.heap.size)) dp S := by
  obtain ⟨lo, X, I, h1, h2, h3⟩ := h
  refine ⟨lo, X, I, h1.ext he, h2, fun b hb => ?_⟩
  rcases hb with hb | hb
  · exact ⟨Nat.lt_of_lt_of_le (h3 b hb).1 he.size, (h3 b hb).2⟩
  · exact ⟨hb.2, fun hx => by have := (h1.bd b hx).2; omega⟩
theorem DkR.less (h : DkR w P dp S) {Q : Nat → Prop} (hq : ∀ b, Q b → P b) : DkR w Q dp S := by obtain ⟨lo, X, I, h1, h2, h3⟩ := h; exact ⟨lo, X, I, h1, h2, fun b hb => h3 b (hq b hb)⟩
theorem DkR.pfr (h : DkR w P dp S) (he : Ext w w') : PFr P w w' := by obtain ⟨lo, X, I, h1, h2, h3⟩ := h; exact ⟨he.os, he.tape, he.output, he.size, fun b hb => he.block b (h3 b hb).1⟩
theorem DkR.sure (h : DkR w P dp S) : Sure S := by obtain ⟨lo, X, I, h1, h2, h3⟩ := h; exact h1.sure h2
theorem DkR.nd (h : DkR w P dp S) : S.fl.Pairwise fun (a b : Nat × FS) => a.1 ≠ b.1 := by obtain ⟨lo, X, I, h1, h2, h3⟩ := h; exact h1.nd
theorem DkR.lt (h : DkR w P dp S) {q : Nat} {f : FS} (hf : (q, f) ∈ S.fl) : q < w.heap.size := by obtain ⟨lo, X, I, h1, h2, h3⟩ := h; exact (h1.bd q (h1.fil q f hf).2.1).2
theorem DkR.le (h : DkR w P dp S) {q : Nat} {f : FS} (hf : (q, f) ∈ S.fl) : f.safe ≤ f.data.length ∧ U8 f.data := by obtain ⟨lo, X, I, h1, h2, h3⟩ := h; exact ⟨(h1.fil q f hf).1.le, (h1.fil q f hf).1.u8⟩
theorem DkR.ascS (h : DkR w P dp S) : AscD S.safe := by obtain ⟨lo, X, I, h1, h2, h3⟩ := h; exact h1.dS.asc

/-- What a step of a disk leaves. -/
def Leaves (w : World) (P : Nat → Prop) (dp : Nat) (S : DS) (f : Nat → DS → Int × DS) (g : DS → Int → DS) (e : Ending) (w' : World) : Prop :=
  ∃ r S' k, e = .returned (.int .i64 r) ∧ DkR w' P dp S' ∧ (r, S') = fated S (f k) g ∧ w.heap.size ≤ k ∧ PFr P w w'
theorem Leaves.of {lo : Nat} {X : Nat → Prop} {I : DI} {f : Nat → DS → Int × DS} {g : DS → Int → DS} {e : Ending} (d : DK w X lo dp S I) (hh : Hist S) (hP : ∀ b, P b → b < w.heap.size ∧ ¬ X b) (hf : ∀ k S1, Sure S1 → Hist (f k S1).2) (hg : ∀ S1 n, Sure S1 → Hist (g S1 n)) (h : ∃ r, e = .returned (.int .i64 r) ∧ Stepped w X lo dp S f g r w') : Leaves w P dp S f g e w' := by
  obtain ⟨r, rfl, X', S', I', k, h1, h2, h3, h4⟩ := h
  have hS := hist_fated (d.sure hh) (hf k) hg
  rw [← h3] at hS
  obtain ⟨k1, k2⟩ := h4.pfr hP
  exact ⟨r, S', k, rfl, ⟨lo, X', I', h1, hS, k2⟩, h3, h2, k1⟩

theorem create_Dk (h : DkR w P dp S) (hs : 0 ≤ S.steps ∧ S.steps < 1000000000000000) (hc : S.chs.length < 10000000000000) (x : List UInt8) (hx : x.length ≤ 140737488355328) : Calls Try.prog 10 #[.pointer (some ⟨dp, 0, none⟩), nm x] w (Leaves w P dp S (doCreate x) (fun S _ => S)) := by
  obtain ⟨lo, X, I, h1, h2, hP⟩ := h
  exact (create_any h1 hs x hx hc).mono fun e w' q => Leaves.of h1 h2 hP (fun k S1 hS => hist_create hS x k) (fun S1 _ hS => hS.hist) q
theorem remove_Dk (h : DkR w P dp S) (hs : 0 ≤ S.steps ∧ S.steps < 1000000000000000) (hc : S.chs.length < 10000000000000) (x : List UInt8) (hx : x.length ≤ 140737488355328) : Calls Try.prog 69 #[.pointer (some ⟨dp, 0, none⟩), nm x] w (Leaves w P dp S (fun _ => doRemove x) (fun S _ => S)) := by
  obtain ⟨lo, X, I, h1, h2, hP⟩ := h
  exact (remove_any h1 hs x hx hc).mono fun e w' q => Leaves.of h1 h2 hP (fun k S1 hS => hist_remove hS x) (fun S1 _ hS => hS.hist) q
theorem sync_Dk (h : DkR w P dp S) (hs : 0 ≤ S.steps ∧ S.steps < 1000000000000000) (hc : S.chs.length < 10000000000000) (x : List UInt8) (hx : x.length ≤ 140737488355328) : Calls Try.prog 13 #[.pointer (some ⟨dp, 0, none⟩), nm x] w (Leaves w P dp S (fun _ => doSync x) (fun S _ => S)) := by
  obtain ⟨lo, X, I, h1, h2, hP⟩ := h
  exact (sync_any h1 hs x hx hc).mono fun e w' q => Leaves.of h1 h2 hP (fun k S1 hS => hist_sync hS x) (fun S1 _ hS => hS.hist) q
theorem rename_Dk (h : DkR w P dp S) (hs : 0 ≤ S.steps ∧ S.steps < 1000000000000000) (hc : S.chs.length < 10000000000000) (x y : List UInt8) (hx : x.length ≤ 140737488355328) (hy : y.length ≤ 140737488355328) : Calls Try.prog 24 #[.pointer (some ⟨dp, 0, none⟩), nm x, nm y] w (Leaves w P dp S (fun _ => doRename x y) (fun S _ => S)) := by
  obtain ⟨lo, X, I, h1, h2, hP⟩ := h
  exact (rename_any h1 hs x y hx hy hc).mono fun e w' q => Leaves.of h1 h2 hP (fun k S1 hS => hist_rename hS x y) (fun S1 _ hS => hS.hist) q
theorem syncdir_Dk (h : DkR w P dp S) (hs : 0 ≤ S.steps ∧ S.steps < 1000000000000000) : Calls Try.prog 14 #[.pointer (some ⟨dp, 0, none⟩)] w (Leaves w P dp S (fun _ => doSyncDir) (fun S _ => S)) := by
  obtain ⟨lo, X, I, h1, h2, hP⟩ := h
  refine (syncdir_any h1 h2 hs).mono ?_
  rintro e w' ⟨r, W0, rfl, he, hr⟩
  refine Leaves.of h1 h2 hP (fun k S1 hS => hist_syncdir hS) (fun S1 _ hS => hS.hist) ⟨r, rfl, Stepped.ofStep (h1.ext he) he ?_⟩
  rcases hr with q | ⟨q0, w1, q1, q2, q3⟩
  · exact .inl q
  · refine .inr ⟨q0, w1, q1, q2, ?_⟩
    rcases q3 with q | q | q | ⟨q, q4, r0, X', S', I', w2, hd, ⟨rfl, rfl, rfl, hn⟩, q5⟩ | ⟨k1, k2, k3, k4, X', S', I', hd, ⟨rfl, rfl, rfl, hn⟩⟩
    · exact .inl q
    · exact .inr (.inl q)
    · exact .inr (.inr (.inl q))
    · exact .inr (.inr (.inr (.inl ⟨q, q4, _, _, _, _, w2, hd, ⟨_, Nat.le_refl _, rfl, Nx.of_fr hn⟩, q5⟩)))
    · exact .inr (.inr (.inr (.inr ⟨k1, k2, k3, k4, _, _, _, hd, ⟨_, Nat.le_refl _, rfl, Nx.of_fr hn⟩⟩)))
theorem append_Dk {A : Option Addr} {m c : Nat} {ys : List Nat} (h : DkR w P dp S) (hs : 0 ≤ S.steps ∧ S.steps < 1000000000000000) (x : List UInt8) (hx : x.length ≤ 140737488355328) (hf : Fit S 140737488355328) (hmc : m ≤ c) (hrd : Rd .u8 w A m ys) (hu : U8 ys) (hA : 0 < m → ∀ a, A = some a → P a.block) :
    Calls Try.prog 11 #[.pointer (some ⟨dp, 0, none⟩), nm x, .slice A m c] w (Leaves w P dp S (fun _ => doAppend x ys) (doPart x ys)) := by
  obtain ⟨lo, X, I, h1, h2, hP⟩ := h
  exact (append_any h1 hs x hx hmc hrd hu (fun h0 a ha => (hP _ (hA h0 a ha)).2) hf).mono fun e w' q => Leaves.of h1 h2 hP (fun k S1 hS => hist_append hS x ys) (fun S1 n hS => hist_part hS x ys n) q
theorem on_Dk {A : Option Addr} {m c : Nat} {ks : List Int} (h : DkR w P dp S) (hr : RdG shZ w A m ks) (hf : Fit S 140737488355328) (hm : m ≤ 140737488355328) (hA : 0 < m → ∀ a, A = some a → P a.block) :
    Calls Try.prog 15 #[.pointer (some ⟨dp, 0, none⟩), .slice A m c] w fun e w' => e = .returned (.tuple #[]) ∧ DkR w' P dp (doOn ks S) ∧ PFr P w w' := by
  obtain ⟨lo, X, I, h1, h2, hP⟩ := h
  refine (on_any (ck := c) h1 h2.zero hr (fun h0 a ha => (hP _ (hA h0 a ha)).2) hf hm).mono ?_
  rintro e w' ⟨rfl, X', I', h4, h5⟩
  obtain ⟨k1, k2⟩ := h5.pfr hP
  exact ⟨rfl, ⟨lo, X', I', h4, hist_on h2.zero ks, k2⟩, k1⟩
theorem new_Dk (room : Int) (w : World) : Calls Try.prog 9 #[.int .i64 room] w fun e w' => ∃ dp, e = .returned (.pointer (some ⟨dp, 0, none⟩)) ∧ DkR w' (fun b => b < w.heap.size) dp (newS room) ∧ Ext w w' :=
  (new_any room w).mono (by rintro e w' ⟨dp, I, X, rfl, h1, h2⟩; exact ⟨dp, rfl, ⟨_, X, I, h1, hist_new room, fun b hb => ⟨Nat.lt_of_lt_of_le hb h2.size, fun hx => by have := (h1.bd b hx).1; omega⟩⟩, h2⟩)
theorem steps_Dk (h : DkR w P dp S) : Calls Try.prog 31 #[.pointer (some ⟨dp, 0, none⟩)] w fun e w' => e = .returned (.int .i64 S.steps) ∧ w = w' := by obtain ⟨lo, X, I, h1, h2, hP⟩ := h; exact steps_any h1
theorem loose_Dk (h : DkR w P dp S) : Calls Try.prog 21 #[.pointer (some ⟨dp, 0, none⟩)] w fun e w' => e = .returned (.int .i64 (S.chs.length : Int)) ∧ w = w' := by obtain ⟨lo, X, I, h1, h2, hP⟩ := h; exact loose_any h1
theorem power_Dk (h : DkR w P dp S) : Calls Try.prog 29 #[.pointer (some ⟨dp, 0, none⟩)] w fun e w' => e = .returned (.bool S.on) ∧ w = w' := by obtain ⟨lo, X, I, h1, h2, hP⟩ := h; exact power_any h1
theorem size_Dk (h : DkR w P dp S) (x : List UInt8) (hx : x.length ≤ 140737488355328) : Calls Try.prog 16 #[.pointer (some ⟨dp, 0, none⟩), nm x] w fun e w' => e = .returned (.tuple #[.int .i64 ((sizeC S x).1 : Int), .int .i64 (sizeC S x).2]) ∧ w' = w := by obtain ⟨lo, X, I, h1, h2, hP⟩ := h; exact size_any h1 x hx
theorem read_Dk (h : DkR w P dp S) (x : List UInt8) (a n : Int) (hx : x.length ≤ 140737488355328) (hf : Fit S 140737488355328) : Calls Try.prog 17 #[.pointer (some ⟨dp, 0, none⟩), nm x, .int .i64 a, .int .i64 n] w fun e w' => ∃ A c, e = .returned (.tuple #[.slice A (readC S x a n).1.length c, .int .i64 (readC S x a n).2]) ∧ Own .u8 5 w' w.heap.size A c (readC S x a n).1 ∧ Ext w w' := by obtain ⟨lo, X, I, h1, h2, hP⟩ := h; exact read_any h1 x a n hx hf
theorem files_Dk (h : DkR w P dp S) (hf : Fit S 140737488355328) : Calls Try.prog 27 #[.pointer (some ⟨dp, 0, none⟩)] w (FilesPost (filesC S) w) := by obtain ⟨lo, X, I, h1, h2, hP⟩ := h; exact files_any h1 hf
theorem safe_Dk (h : DkR w P dp S) (hf : Fit S 140737488355328) : Calls Try.prog 38 #[.pointer (some ⟨dp, 0, none⟩)] w (FilesPost (safeC S) w) := by
  obtain ⟨lo, X, I, h1, h2, hP⟩ := h
  have hl := h2.few 0 (Nat.zero_le _)
  rw [preD_zero] at hl
  exact safe_any h1 hf (by omega)

/-- No fate, and the power is on. -/
structure Plain (S : DS) : Prop where
  on : S.on = true
  plan : ∀ k, S.plan k = (0, 0, 0)
theorem fated_plain {S : DS} (h : Plain S) (f : DS → Int × DS) (g : DS → Int → DS) : fated S f g = f { S with steps := S.steps + 1 } := by
  unfold fated
  rw [if_neg (by rw [h.on]; decide), if_neg (by rw [h.plan]; decide), if_neg (by rw [h.plan]; decide), if_neg (by rw [h.plan]; decide), if_neg (by rw [h.plan]; decide)]
end

end Go.Proofs.Ytjckfbpdnpehcaa
