/-
  Layer 18: Range.
-/
import Derived.Test.YtkmnhapeohlooaaSK10
namespace Go.Proofs.Ytkmnhapeohlooaa
open Go.RowKit
set_option maxRecDepth 100000

def stopB (hi k : List Nat) : Bool := decide (0 < hi.length) && decide (0 ≤ ordT k hi)
def rngK (L : List (List Nat)) (lo hi : List Nat) : List (List Nat) := (L.drop (skN lo L)).takeWhile fun k => !stopB hi k
def rngV (L : List (List Nat)) (V : List Int) (lo hi : List Nat) : List Int := (V.drop (skN lo L)).take (rngK L lo hi).length

section
variable {ns : List Nd} {L : List (List Nat)} {V : List Int}
theorem fromC_at {s : Nat} {ys : List (It ns L V)} (h : FromC s ys) {k : Nat} {x : It ns L V} (hx : ys[k]? = some x) : x.p = s + k := by
  have h1 : (ys.map It.p)[k]? = some x.p := by rw [List.getElem?_map, hx]; rfl
  have hk := (List.getElem?_eq_some_iff.1 hx).1
  rw [h, List.getElem?_range' hk] at h1
  injection h1 with h1
  omega
theorem fromC_keys {s : Nat} {ys : List (It ns L V)} (h : FromC s ys) : ys.map (fun x => kb ns x.i) = (L.drop s).take ys.length ∧ ys.map (fun x => vl ns x.i) = (V.drop s).take ys.length := by
  constructor
  · apply List.ext_getElem?
    intro k
    rw [List.getElem?_map, List.getElem?_take, List.getElem?_drop]
    cases hx : ys[k]? with
    | none => rw [if_neg (by have := List.getElem?_eq_none_iff.1 hx; omega)]; rfl
    | some x => rw [if_pos (List.getElem?_eq_some_iff.1 hx).1, ← fromC_at h hx, x.hL]; rfl
  · apply List.ext_getElem?
    intro k
    rw [List.getElem?_map, List.getElem?_take, List.getElem?_drop]
    cases hx : ys[k]? with
    | none => rw [if_neg (by have := List.getElem?_eq_none_iff.1 hx; omega)]; rfl
    | some x => rw [if_pos (List.getElem?_eq_some_iff.1 hx).1, ← fromC_at h hx, x.hV]; rfl
theorem tw_all {α : Type} {p : α → Bool} {l : List α} (h : ∀ x ∈ l, p x = true) : l.takeWhile p = l := by
  have := List.takeWhile_append_of_pos (l₂ := []) h
  simpa using this
theorem tw_stop {α : Type} {p : α → Bool} {a r : List α} {x : α} (h : ∀ y ∈ a, p y = true) (hx : p x = false) : (a ++ x :: r).takeWhile p = a := by
  rw [List.takeWhile_append_of_pos h, List.takeWhile_cons, if_neg (by rw [hx]; decide), List.append_nil]
theorem rng_done {lo hi : List Nat} {ys : List (It ns L V)} (h : FromC (skN lo L) ys) (he : skN lo L + ys.length = L.length) (hn : ∀ x ∈ ys, stopB hi (kb ns x.i) = false) : rngK L lo hi = ys.map (fun x => kb ns x.i) ∧ rngV L V lo hi = ys.map (fun x => vl ns x.i) := by
  obtain ⟨h1, h2⟩ := fromC_keys h
  have hd : (L.drop (skN lo L)).take ys.length = L.drop (skN lo L) := List.take_of_length_le (by rw [List.length_drop]; omega)
  have hk : rngK L lo hi = ys.map (fun x => kb ns x.i) := by
    unfold rngK
    rw [h1, hd]
    refine tw_all (fun k hk => ?_)
    rw [← hd, ← h1] at hk
    obtain ⟨x, hx, rfl⟩ := List.mem_map.1 hk
    rw [hn x hx]; rfl
  refine ⟨hk, ?_⟩
  unfold rngV
  rw [hk, List.length_map, h2]
theorem rng_stop {lo hi : List Nat} {q : List (It ns L V)} {x : It ns L V} (h : FromC (skN lo L) (q ++ [x])) (hn : ∀ y ∈ q, stopB hi (kb ns y.i) = false) (hx : stopB hi (kb ns x.i) = true) : rngK L lo hi = q.map (fun x => kb ns x.i) ∧ rngV L V lo hi = q.map (fun x => vl ns x.i) := by
  obtain ⟨h1, h2⟩ := fromC_keys h
  rw [List.length_append, List.length_singleton] at h1 h2
  have hk : rngK L lo hi = q.map (fun x => kb ns x.i) := by
    unfold rngK
    rw [← List.take_append_drop (q.length + 1) (L.drop (skN lo L)), ← h1, List.map_append, List.map_singleton, List.append_assoc]
    refine tw_stop (fun k hk => ?_) (by rw [hx]; rfl)
    obtain ⟨y, hy, rfl⟩ := List.mem_map.1 hk
    rw [hn y hy]; rfl
  refine ⟨hk, ?_⟩
  unfold rngV
  rw [hk, List.length_map]
  have h3 := congrArg (List.take q.length) h2
  rw [List.take_take, Nat.min_eq_left (Nat.le_succ _), List.map_append, List.take_append_of_le_length (by rw [List.length_map]; exact Nat.le_refl _), List.take_of_length_le (by rw [List.length_map]; exact Nat.le_refl _)] at h3
  exact h3.symm
end

def RngPost (L : List (List Nat)) (V : List Int) (lo hi : List Nat) (w : World) (e : Ending) (w' : World) : Prop :=
  ∃ A' c' ts Av cv, e = .returned (.tuple #[.slice A' ts.length c', .slice Av (rngV L V lo hi).length cv]) ∧ bodies ts = rngK L lo hi ∧ OwnT w' w.heap.size A' c' ts ∧ Txts w' w.heap.size ts ∧ OwnG shZ 3 w' w.heap.size Av cv (rngV L V lo hi) ∧ Ext w w'

def RI (w1 : World) (B : Nat) (hi : List Nat) {ns : List Nd} {L : List (List Nat)} {V : List Int} (pre : List (It ns L V)) (W : World) : Prop :=
  ∃ ts, RS w1 W B ts (pre.map fun x => vl ns x.i) ∧ bodies ts = (pre.map fun x => kb ns x.i) ∧ ∀ x ∈ pre, stopB hi (kb ns x.i) = false
def RX (w1 : World) (B : Nat) (hi : List Nat) {ns : List Nd} {L : List (List Nat)} {V : List Int} (c : Code) (pre : List (It ns L V)) (W : World) : Prop :=
  c = .exit 0 ∧ ∃ q x, pre = q ++ [x] ∧ stopB hi (kb ns x.i) = true ∧ RI w1 B hi q W

theorem gk {w w' : World} {A A' : Option Addr} (h : A' = A ∧ w.grownBy w' (A.map (·.block)) ∨ Ext w w' ∧ ∀ q, A' = some q → w.heap.size ≤ q.block) : w.grownBy w' (A.map (·.block)) := by
  rcases h with ⟨_, h⟩ | ⟨h, _⟩
  · exact h
  · exact ⟨h.os, h.tape, h.output, h.size, fun i hi _ => h.block i hi⟩
theorem run_mark {W : World} {q : Nat} : (W.drewN q).heap = W.heap := rfl

/-- How Range ends. -/
theorem rng_end {L : List (List Nat)} {V : List Int} {lo hi : List Nat} {w w1 W : World} {ts : List Sl} {Ak : Option Addr} {ck : Nat} {Av : Option Addr} {cv : Nat} {vs : List Int} (hE : Ext w w1) (h : RS w1 W w.heap.size ts vs) (hb : bodies ts = rngK L lo hi) (hv : vs = rngV L V lo hi) (hk : OwnT W w1.heap.size Ak ck ts) (hvo : OwnG shZ 3 W w1.heap.size Av cv vs) :
    RngPost L V lo hi w (.returned (.tuple #[.slice Ak ts.length ck, .slice Av vs.length cv])) W := by
  subst hv
  have hl := h.lt
  exact ⟨Ak, ck, ts, Av, cv, rfl, hb, hk.mono (by omega), h.tx.mono' (by omega), hvo.mono (by omega), ⟨h.sys.1.trans hE.os, h.sys.2.1.trans hE.tape, h.sys.2.2.trans hE.output, Nat.le_trans hE.size h.size, fun q hq => (h.kb q (by omega) (by omega) (by omega)).trans (hE.block q hq)⟩⟩

set_option maxHeartbeats 6400000 in
theorem srange_in {w : World} {X : Nat → Prop} {base sb H : Nat} {ns : List Nd} {hs : List Int} {L : List (List Nat)} {V : List Int} (hS : SL w X base sb ns hs H) (hR : Rep ns.length (kb ns) (vl ns) L V) (hb : L.length < 1099511627776) (A : Option Addr) (m c : Nat) (lo : List Nat) (ht : Rd .u8 w A m lo) (hu : U8 lo) (hm : m ≤ 140737488355328)
    (Ah : Option Addr) (mh ch : Nat) (hi : List Nat) (hth : Rd .u8 w Ah mh hi) (huh : U8 hi) :
    CallsIn Fence.wide 5 Try.prog 37 #[.pointer (some ⟨sb, 0, none⟩), .slice A m c, .slice Ah mh ch] w (RngPost L V lo hi w) := by
  have hnl := hR.len
  have hbl := hS.base_le
  have hmh := hth.len
  have hEa : Ext w (((w.alloc (.cells #[.slice Ah mh ch] 52)).alloc (.cells #[.slice none 0 0] 49)).alloc (.cells #[.slice none 0 0] 45)) := (((Ext.refl w).alloc _).alloc _).alloc _
  have CE := Lib.hid (seach_any sb A m c lo _ (ht.ext hEa) (by omega))
  have hx0 : (((w.alloc (.cells #[.slice Ah mh ch] 52)).alloc (.cells #[.slice none 0 0] 49)).alloc (.cells #[.slice none 0 0] 45)).heap[w.heap.size]? = some (.cells #[.slice Ah mh ch] 52 (0, 0)) :=
    (Below.heap_alloc _ _ _ (by simp <;> omega)).trans ((Below.heap_alloc _ _ _ (by simp)).trans (heap_alloc_new w _))
  have hx1 : (((w.alloc (.cells #[.slice Ah mh ch] 52)).alloc (.cells #[.slice none 0 0] 49)).alloc (.cells #[.slice none 0 0] 45)).heap[w.heap.size + 1]? = some (.cells #[.slice none 0 0] 49 (0, 0)) := by
    have := heap_alloc_new (w.alloc (.cells #[.slice Ah mh ch] 52)) (.cells #[.slice none 0 0] 49)
    rw [World.size_alloc] at this
    exact (Below.heap_alloc _ _ _ (by simp)).trans this
  have hx2 : (((w.alloc (.cells #[.slice Ah mh ch] 52)).alloc (.cells #[.slice none 0 0] 49)).alloc (.cells #[.slice none 0 0] 45)).heap[w.heap.size + 2]? = some (.cells #[.slice none 0 0] 45 (0, 0)) := by
    have := heap_alloc_new ((w.alloc (.cells #[.slice Ah mh ch] 52)).alloc (.cells #[.slice none 0 0] 49)) (.cells #[.slice none 0 0] 45)
    rw [World.size_alloc, World.size_alloc] at this
    exact this
  have HX0 := Lib.hid hx0
  have HX1 := Lib.hid hx1
  have HX2 := Lib.hid hx2
  have HEa := Lib.hid hEa
  have HS := Lib.hid hS
  have HR := Lib.hid hR
  have Hth := Lib.hid hth
  obtain ⟨B, hB⟩ : ∃ B, B = w.heap.size := ⟨_, rfl⟩
  have HB := Lib.hid hB
  have hza : (((w.alloc (.cells #[.slice Ah mh ch] 52)).alloc (.cells #[.slice none 0 0] 49)).alloc (.cells #[.slice none 0 0] 45)).heap.size = w.heap.size + 3 := by simp
  have Hza := Lib.hid hza
  clear ht hS hR hth hEa hx0 hx1 hx2 hza hB
  refine callsIn_of_wp_marks Try.func37 rfl trivial ?_ rfl
  simp only [Try.ntmps37, List.size_toArray, List.length_cons, List.length_nil, Nat.reduceAdd, Nat.reduceSub, Array.replicate_succ, Array.replicate_zero, List.push_toArray, List.append_toArray, List.nil_append, List.cons_append]
  gi_wp2_with (refine ⟨trivial, ?_⟩; gi_at_call 46; refine (callsIn_wide.2 CE.out).mono ?_; rintro e w1 ⟨Bl, Bw, Ac, cc, rfl, he1, l1, l2, m1, m2, b1, b2, hrd1⟩)
  have hz1 : w.heap.size + 3 ≤ w1.heap.size := by rw [← Hza.out]; exact he1.size
  have hl1 : w.heap.size + 3 ≤ Bl := by rw [← Hza.out]; exact l1
  have hE1 : Ext w w1 := HEa.out.trans he1
  have q0 := (he1.block w.heap.size (by rw [Hza.out]; omega)).trans HX0.out
  have q1 := (he1.block (w.heap.size + 1) (by rw [Hza.out]; omega)).trans HX1.out
  have q2 := (he1.block (w.heap.size + 2) (by rw [Hza.out]; omega)).trans HX2.out
  rw [← HB.out] at hz1 hl1 q0 q1 q2
  have hS1 := HS.out.ext hE1
  have HYb : Hid (∀ q, (X q ∨ q = Bl) → q < w1.heap.size ∧ q ≠ B + 1 ∧ q ≠ B + 2) := Lib.hid fun q hq => by
    rcases hq with hq | rfl
    · have := (HS.out.bd q hq).2
      have hB := HB.out
      omega
    · omega
  have hrs0 : RS w1 w1 B [] [] := ⟨hz1, Nat.le_refl _, ⟨rfl, rfl, rfl⟩, fun _ _ _ _ => rfl, ⟨none, 0, q1, OwnG.nil _ _ _ _⟩, Txts.nil _ _, ⟨none, 0, q2, OwnG.nil _ _ _ _⟩⟩
  have Hq0 := Lib.hid q0
  have HE1 := Lib.hid hE1
  have HS1 := Lib.hid hS1
  rw [show w.heap.size = B from HB.out.symm]
  refine wpIn_rangeFunc_ownG rfl (by decide) (gf := 83) (lb := #[.pointer (some ⟨Bl, 0, none⟩), .pointer (some ⟨Bw, 0, none⟩)]) rfl trivial (enters_of Try.func83 (by kernel_rfl) rfl)
    (seqK_any Bl Bw X base sb H ns hs L V HR.out (by omega) Ac m cc lo hu w1 hS1 m1 m2 b1 b2 hrd1) keepY_t (keepY_b (fun q hq => (HYb.out q hq).1)) (Below.refl _ _) (fun _ => rfl)
    (RI w1 B hi) (RX w1 B hi)
    (fun s A B row hs hg hr => by
      obtain ⟨ts, h1, h2, h3⟩ := hs
      exact ⟨ts, h1.turn hg hr, h2, h3⟩)
    (fun c s A B row hs hg hr => by
      obtain ⟨h0, q, x, h1, h2, ts, h3, h4, h5⟩ := hs
      exact ⟨h0, q, x, h1, h2, ts, h3.turn hg hr, h4, h5⟩)
    ⟨[], hrs0, rfl, fun x hx => (by cases hx)⟩
    (fun x => { tmps := #[.pointer (some ⟨sb, 0, none⟩), .slice A m c, .slice Ah mh ch, undef, undef, .pointer (some ⟨B, 0, none⟩), .slice none 0 0, .slice none 0 0, .pointer (some ⟨B + 1, 0, none⟩), .pointer (some ⟨B + 1 + 1, 0, none⟩), (nat_ ns x.i).key.v, .int .i64 (vl ns x.i), .pointer (some ⟨sb, 0, none⟩), .slice A m c, .func (.func 83) #[] #[.pointer (some ⟨Bl, 0, none⟩), .pointer (some ⟨Bw, 0, none⟩)], (nat_ ns x.i).key.v, .int .i64 (vl ns x.i), undef, undef, undef, undef, undef, undef, undef, undef, undef, undef, undef, undef, undef, undef, undef, undef, undef, undef, undef, undef], defers := [] }) ?assign ?body ?done ?stop
  case assign =>
    intro l x W K hK
    gi_wp2_with (rw [Oper.semAt_eq _ _ _ (fun c h => by cases h)]; go_simp; try go_bits)
    exact hK
  case body =>
    rintro l pre x W ⟨ts, hRS, hbd, hns⟩ hpl
    have hSW := HS1.out.kept (fun q hq => by have h1 := HYb.out q (.inl hq); exact hRS.kb q h1.1 h1.2.1 h1.2.2) hRS.size
    have hka := hSW.keys x.i (by have := x.i0; omega) x.lt
    have hBw := HB.out
    have hEW : Ext w W := ⟨hRS.sys.1.trans HE1.out.os, hRS.sys.2.1.trans HE1.out.tape, hRS.sys.2.2.trans HE1.out.output, Nat.le_trans HE1.out.size hRS.size, fun q hq => (hRS.kb q (by omega) (by have := HB.out; omega) (by have := HB.out; omega)).trans (HE1.out.block q hq)⟩
    have qW := (hRS.kb B (by omega) (by omega) (by omega)).trans Hq0.out
    have b5 := cell_of_row W B 0 _ _ (0, 0) qW
    have Hrk := Lib.hid hka.rd
    have CCmp := Lib.hid (compareT_any (nat_ ns x.i).key.A Ah (nat_ ns x.i).key.body.length (nat_ ns x.i).key.c mh ch (nat_ ns x.i).key.body hi W hka.rd (Hth.out.ext hEW) hka.u8 huh)
    have hkl := hka.len
    have Hkb : Hid ((nat_ ns x.i).key.body = kb ns x.i) := Lib.hid rfl
    have hlen : ts.length = pre.length := by have := congrArg List.length hbd; simpa [bodies] using this
    have Htl := Lib.hid hlen
    obtain ⟨key, hkey⟩ : ∃ key, key = (nat_ ns x.i).key.body := ⟨_, rfl⟩
    obtain ⟨xv, hxv⟩ : ∃ xv, xv = vl ns x.i := ⟨_, rfl⟩
    unfold Sl.v
    rw [← hkey] at Hrk CCmp hkl Hkb ⊢
    rw [← hxv]
    obtain ⟨kA, hkA⟩ : ∃ kA, kA = (nat_ ns x.i).key.A := ⟨_, rfl⟩
    obtain ⟨kn, hkn⟩ : ∃ kn, kn = key.length := ⟨_, rfl⟩
    obtain ⟨kc, hkc⟩ : ∃ kc, kc = (nat_ ns x.i).key.c := ⟨_, rfl⟩
    rw [← hkA, ← hkn, ← hkc] at CCmp ⊢
    rw [← hkA, ← hkn] at Hrk
    rw [← hkn] at hkl
    have Hrl := Lib.hid hkn.symm
    obtain ⟨O, hOO⟩ : ∃ O, O = ordT key hi := ⟨_, rfl⟩
    rw [← hOO] at CCmp
    have HOO := Lib.hid hOO
    have Hhl := Lib.hid hmh
    have HRS := Lib.hid hRS
    have Hbd := Lib.hid hbd
    have Hns := Lib.hid hns
    have Hxv := Lib.hid hxv
    clear hBw hRS hbd hns hSW hka hEW qW hkey hxv hkA hkn hkc hOO hlen hS1 q0 q1 q2 b1 b2 hrd1 hrs0 he1 l1 l2 hE1
    by_cases h0 : mh = 0
    · have Hst : Hid (stopB hi key = false) := Lib.hid (by unfold stopB; rw [Hhl.out, h0]; rfl)
      have hmI : ¬ (0 : Int) < (mh : Int) := by omega
      gi_wp2_with (first | (rw [Oper.semAt_eq _ _ _ (fun c h => by cases h)]; go_simp; try go_bits) | (refine ⟨trivial, ?_⟩))
      obtain ⟨Ak, ck, hkb, hko⟩ := HRS.out.ks
      have k1 := cell_of_row W (B + 1) 0 _ _ (0, 0) hkb
      obtain ⟨n, hn⟩ : ∃ n, n = ts.length := ⟨_, rfl⟩
      rw [← hn] at hkb k1
      have hn2 : n ≤ 1099511627776 := by rw [hn, Htl.out]; exact Nat.le_of_lt (Nat.lt_trans hpl hb)
      have Hn := Lib.hid hn
      clear hn
      have k1d : W.drew.cell? ⟨B + 1, 0, none⟩ = some (.slice Ak n ck) := k1
      have CC := Lib.hid (clone_any kA kn kc key W.drew (Hrk.out.ext (Ext.refl W).drew) (by omega))
      refine wpIn_region_round (by kernel_rfl) (by kernel_rfl) (wpAny_of_T (S := fun W9 => W9.cell? ⟨B + 1, 0, none⟩ = some (.slice Ak n ck)) (late := fun j => j == 5) _ _ _ _ ?_)
      refine wpAnyT_take (i := 0) (v := ?_) rfl (by kernel_rfl) (by kernel_rfl) (by kernel_rfl) (by kernel_rfl) (fun _ _ _ h => h) (Or.inl ⟨by rfl, ?_⟩) (by exact k1d) ?_
      rotate_left
      · (intro w hSw; (try dsimp only at hSw); go_simp; (try with_reducible rfl))
      (try (simp only [Act.put, List.getElem_toArray, List.getElem_cons_zero, List.setIfInBounds_toArray, List.set_cons_zero, List.set_cons_succ]))
      refine wpAnyT_take (i := 1) (v := ?_) rfl (by kernel_rfl) (by kernel_rfl) (by kernel_rfl) (by kernel_rfl) (fun _ _ _ h => h) (Or.inl ⟨by rfl, ?_⟩) (by exact k1d) ?_
      rotate_left
      · (intro w hSw; (try dsimp only at hSw); go_simp; (try with_reducible rfl))
      (try (simp only [Act.put, List.getElem_toArray, List.getElem_cons_zero, List.getElem_cons_succ, List.setIfInBounds_toArray, List.set_cons_zero, List.set_cons_succ]))
      refine wpAnyT_step (i := 2) (by kernel_rfl) rfl rfl ?_
      go_simp
      refine CC.out.mono ?_
      rintro e W2 ⟨A2, c2, rfl, ho2, he2⟩
      have hE2 : Ext W W2 := (Ext.refl W).drew.trans he2
      have k12 : W2.heap[B + 1]? = some (.cells #[.slice Ak n ck] 49 (0, 0)) := (hE2.block _ (Array.getElem?_eq_some_iff.1 hkb).1).trans hkb
      (try dsimp only)
      refine ⟨by first | exact fun _ => (cell_of_row W2 (B + 1) 0 _ _ (0, 0) k12).trans rfl | exact (cell_of_row W2 (B + 1) 0 _ _ (0, 0) k12).trans rfl, ?_⟩
      (try (simp only [Act.put, List.getElem_toArray, List.getElem_cons_zero, List.getElem_cons_succ, List.setIfInBounds_toArray, List.set_cons_zero, List.set_cons_succ]))
      refine wpAnyT_step (i := 3) (by kernel_rfl) rfl rfl ?_
      go_simp
      have hE3 : Ext W (W2.alloc (.cells #[.slice A2 kn c2] 52)) := hE2.alloc _
      have k13 := (Below.heap_alloc W2 (.cells #[.slice A2 kn c2] 52) (B + 1) (Array.getElem?_eq_some_iff.1 k12).1).trans k12
      have hRS3 := HRS.out.ext hE3
      have hko3 := hko.ext hE3
      refine ⟨by first | exact fun _ => (cell_of_row _ (B + 1) 0 _ _ (0, 0) k13).trans rfl | exact (cell_of_row _ (B + 1) 0 _ _ (0, 0) k13).trans rfl, ?_⟩
      (try (simp only [Act.put, List.getElem_toArray, List.getElem_cons_zero, List.getElem_cons_succ, List.setIfInBounds_toArray, List.set_cons_zero, List.set_cons_succ]))
      refine wpAnyT_step (i := 4) (by kernel_rfl) rfl rfl ?_
      refine wp_pushK shS ⟨A2, c2, key⟩ 52 _ _ 49 rfl _ 24 Try.underlying49 Try.infoS rfl hko3 n Hn.out.symm rfl rfl (by rw [← Hrl.out]; exact heap_alloc_new _ _) (by omega) (by decide) hRS3.size ?_
      intro A5 c5 W5 ho5 hg5 _
      have hg5 := gk hg5
      have hts : ∀ s ∈ ts, ∀ p, s.A = some p → p.block < W.heap.size := HRS.out.tx.lt
      obtain ⟨hRS6, hKO, hk6⟩ := hRS3.pushK hko3 (by rw [← Hn.out]; exact k13) (s := ⟨A2, c2, key⟩) (ho2.ext ((Ext.refl W2).alloc _)) HRS.out.size hts ho5 hg5
      rw [← Hn.out] at hRS6 hKO hk6
      have k16 := cell_of_row W5 (B + 1) 0 _ _ (0, 0) hk6
      have f16 : W5.frozen? ⟨B + 1, 0, none⟩ = false := by simp [World.frozen?, hk6]
      refine ⟨by first | exact fun _ => k16.trans rfl | exact k16.trans rfl, ?_⟩
      (try (simp only [Act.put, List.getElem_toArray, List.getElem_cons_zero, List.getElem_cons_succ, List.setIfInBounds_toArray, List.set_cons_zero, List.set_cons_succ]))
      refine wpAnyT_step (i := 5) (by kernel_rfl) rfl rfl ?_
      go_simp
      refine wpAnyT_done (by kernel_rfl) ?_ _
      simp only [tight]
      obtain ⟨W6, hW6⟩ : ∃ W6, W6 = W5.setCell ⟨B + 1, 0, none⟩ (.slice A5 (n + 1) c5) := ⟨_, rfl⟩
      rw [← hW6] at hRS6 hKO ⊢
      have HK6 := Lib.hid ((keeps_ext hE3).trans hKO)
      have HRS6 := Lib.hid hRS6
      obtain ⟨Av, cv, hvb, hvo⟩ := hRS6.vs
      have hvl : (pre.map fun x => vl ns x.i).length = pre.length := List.length_map ..
      rw [hvl] at hvb
      have v1 := cell_of_row W6 (B + 2) 0 _ _ (0, 0) hvb
      have hRS7 := HRS6.out.ext ((Ext.refl W6).alloc (.cells #[.int .i64 xv] 3))
      have hvo7 := hvo.ext ((Ext.refl W6).alloc (.cells #[.int .i64 xv] 3))
      have v17 := (Below.heap_alloc W6 (.cells #[.int .i64 xv] 3) (B + 2) (Array.getElem?_eq_some_iff.1 hvb).1).trans hvb
      have hpn : pre.length ≤ 1099511627776 := by omega
      obtain ⟨pn, hpn2⟩ : ∃ pn, pn = pre.length := ⟨_, rfl⟩
      have Hpn := Lib.hid hpn2
      rw [← hpn2] at hvb v1 v17 hpn hvl
      clear hg5 ho5 hko3 hRS3 k13 hE3 ho2 he2 hE2 k12 hk6 k16 f16 hKO hRS6 hW6 k1 k1d hkb hko hn2 hpn2 hts hvb
      gi_wp2_with (first
        | (rw [Oper.semAt_eq _ _ _ (fun c h => by cases h)]; refine upon_round (fun _ _ h => h) ?_; refine wp_pushK shZ xv 3 _ _ 45 rfl _ 8 Try.underlying45 Try.infoInt18 rfl hvo7 pn hvl rfl rfl (heap_alloc_new _ _) (by omega) (by decide) hRS7.size ?_; intro A8 c8 W8 ho8 hg8 _; have hg8 := gk hg8; obtain ⟨hRS9, hKO9, hk9⟩ := hRS7.pushV hvo7 (by rw [hvl]; exact v17) ho8 hg8; rw [hvl] at hRS9 hKO9 hk9; have v18 := cell_of_row W8 (B + 2) 0 _ _ (0, 0) hk9; have f18 : W8.frozen? ⟨B + 2, 0, none⟩ = false := (by simp [World.frozen?, hk9]))
        | (rw [Oper.semAt_eq _ _ _ (fun c h => by cases h)]; go_simp; try go_bits))
      refine ⟨(HK6.out.trans ((keeps_ext ((Ext.refl W6).alloc _)).trans hKO9)).from _, ⟨fun q hq => ?_, ?_⟩, ts ++ [⟨A2, c2, key⟩], ?_, ?_, ?_⟩
      · have h1 := HYb.out q hq
        exact (hRS9.kb q h1.1 h1.2.1 h1.2.2).trans (HRS.out.kb q h1.1 h1.2.1 h1.2.2).symm
      · exact Nat.le_trans HK6.out.size (Nat.le_trans (keeps_ext ((Ext.refl W6).alloc _)).size hKO9.size)
      · rw [List.map_append, List.map_singleton, ← Hxv.out]; exact hRS9
      · unfold bodies at Hbd ⊢
        rw [List.map_append, List.map_append, Hbd.out, List.map_singleton, List.map_singleton, ← Hkb.out]
      · intro y hy
        rcases List.mem_append.1 hy with hy | hy
        · exact Hns.out y hy
        · rw [List.mem_singleton.1 hy, ← Hkb.out]; exact Hst.out
    · have hmI : (0 : Int) < (mh : Int) := by omega
      by_cases hO : 0 ≤ O
      · have Hst : Hid (stopB hi key = true) := Lib.hid (by unfold stopB; rw [Hhl.out, ← HOO.out, decide_eq_true (by omega), decide_eq_true hO]; rfl)
        gi_wp2_with (first | (refine ⟨trivial, ?_⟩; gi_at_call 74; refine (CallsIn.inRound l (callsIn_wide.2 CCmp.out)).mono ?_; rintro e W1 ⟨rfl, rfl⟩) | (rw [Oper.semAt_eq _ _ _ (fun c h => by cases h)]; go_simp; try go_bits))
        exact ⟨(KeepsOthers.refl _).from _, rfl, pre, x, rfl, by rw [← Hkb.out]; exact Hst.out, ts, HRS.out, Hbd.out, Hns.out⟩
      · have Hst : Hid (stopB hi key = false) := Lib.hid (by unfold stopB; rw [← HOO.out, decide_eq_false hO, Bool.and_false])
        have hOI : ¬ (0 : Int) ≤ O := hO
        gi_wp2_with (first | (refine ⟨trivial, ?_⟩; gi_at_call 74; refine (CallsIn.inRound l (callsIn_wide.2 CCmp.out)).mono ?_; rintro e W1 ⟨rfl, rfl⟩) | (rw [Oper.semAt_eq _ _ _ (fun c h => by cases h)]; go_simp; try go_bits))
        obtain ⟨Ak, ck, hkb, hko⟩ := HRS.out.ks
        have k1 := cell_of_row W (B + 1) 0 _ _ (0, 0) hkb
        obtain ⟨n, hn⟩ : ∃ n, n = ts.length := ⟨_, rfl⟩
        rw [← hn] at hkb k1
        have hn2 : n ≤ 1099511627776 := by rw [hn, Htl.out]; exact Nat.le_of_lt (Nat.lt_trans hpl hb)
        have Hn := Lib.hid hn
        clear hn
        have k1d : W.drew.cell? ⟨B + 1, 0, none⟩ = some (.slice Ak n ck) := k1
        have CC := Lib.hid (clone_any kA kn kc key W.drew (Hrk.out.ext (Ext.refl W).drew) (by omega))
        refine wpIn_region_round (by kernel_rfl) (by kernel_rfl) (wpAny_of_T (S := fun W9 => W9.cell? ⟨B + 1, 0, none⟩ = some (.slice Ak n ck)) (late := fun j => j == 5) _ _ _ _ ?_)
        refine wpAnyT_take (i := 0) (v := ?_) rfl (by kernel_rfl) (by kernel_rfl) (by kernel_rfl) (by kernel_rfl) (fun _ _ _ h => h) (Or.inl ⟨by rfl, ?_⟩) (by exact k1d) ?_
        rotate_left
        · (intro w hSw; (try dsimp only at hSw); go_simp; (try with_reducible rfl))
        (try (simp only [Act.put, List.getElem_toArray, List.getElem_cons_zero, List.setIfInBounds_toArray, List.set_cons_zero, List.set_cons_succ]))
        refine wpAnyT_take (i := 1) (v := ?_) rfl (by kernel_rfl) (by kernel_rfl) (by kernel_rfl) (by kernel_rfl) (fun _ _ _ h => h) (Or.inl ⟨by rfl, ?_⟩) (by exact k1d) ?_
        rotate_left
        · (intro w hSw; (try dsimp only at hSw); go_simp; (try with_reducible rfl))
        (try (simp only [Act.put, List.getElem_toArray, List.getElem_cons_zero, List.getElem_cons_succ, List.setIfInBounds_toArray, List.set_cons_zero, List.set_cons_succ]))
        refine wpAnyT_step (i := 2) (by kernel_rfl) rfl rfl ?_
        go_simp
        refine CC.out.mono ?_
        rintro e W2 ⟨A2, c2, rfl, ho2, he2⟩
        have hE2 : Ext W W2 := (Ext.refl W).drew.trans he2
        have k12 : W2.heap[B + 1]? = some (.cells #[.slice Ak n ck] 49 (0, 0)) := (hE2.block _ (Array.getElem?_eq_some_iff.1 hkb).1).trans hkb
        (try dsimp only)
        refine ⟨by first | exact fun _ => (cell_of_row W2 (B + 1) 0 _ _ (0, 0) k12).trans rfl | exact (cell_of_row W2 (B + 1) 0 _ _ (0, 0) k12).trans rfl, ?_⟩
        (try (simp only [Act.put, List.getElem_toArray, List.getElem_cons_zero, List.getElem_cons_succ, List.setIfInBounds_toArray, List.set_cons_zero, List.set_cons_succ]))
        refine wpAnyT_step (i := 3) (by kernel_rfl) rfl rfl ?_
        go_simp
        have hE3 : Ext W (W2.alloc (.cells #[.slice A2 kn c2] 52)) := hE2.alloc _
        have k13 := (Below.heap_alloc W2 (.cells #[.slice A2 kn c2] 52) (B + 1) (Array.getElem?_eq_some_iff.1 k12).1).trans k12
        have hRS3 := HRS.out.ext hE3
        have hko3 := hko.ext hE3
        refine ⟨by first | exact fun _ => (cell_of_row _ (B + 1) 0 _ _ (0, 0) k13).trans rfl | exact (cell_of_row _ (B + 1) 0 _ _ (0, 0) k13).trans rfl, ?_⟩
        (try (simp only [Act.put, List.getElem_toArray, List.getElem_cons_zero, List.getElem_cons_succ, List.setIfInBounds_toArray, List.set_cons_zero, List.set_cons_succ]))
        refine wpAnyT_step (i := 4) (by kernel_rfl) rfl rfl ?_
        refine wp_pushK shS ⟨A2, c2, key⟩ 52 _ _ 49 rfl _ 24 Try.underlying49 Try.infoS rfl hko3 n Hn.out.symm rfl rfl (by rw [← Hrl.out]; exact heap_alloc_new _ _) (by omega) (by decide) hRS3.size ?_
        intro A5 c5 W5 ho5 hg5 _
        have hg5 := gk hg5
        have hts : ∀ s ∈ ts, ∀ p, s.A = some p → p.block < W.heap.size := HRS.out.tx.lt
        obtain ⟨hRS6, hKO, hk6⟩ := hRS3.pushK hko3 (by rw [← Hn.out]; exact k13) (s := ⟨A2, c2, key⟩) (ho2.ext ((Ext.refl W2).alloc _)) HRS.out.size hts ho5 hg5
        rw [← Hn.out] at hRS6 hKO hk6
        have k16 := cell_of_row W5 (B + 1) 0 _ _ (0, 0) hk6
        have f16 : W5.frozen? ⟨B + 1, 0, none⟩ = false := by simp [World.frozen?, hk6]
        refine ⟨by first | exact fun _ => k16.trans rfl | exact k16.trans rfl, ?_⟩
        (try (simp only [Act.put, List.getElem_toArray, List.getElem_cons_zero, List.getElem_cons_succ, List.setIfInBounds_toArray, List.set_cons_zero, List.set_cons_succ]))
        refine wpAnyT_step (i := 5) (by kernel_rfl) rfl rfl ?_
        go_simp
        refine wpAnyT_done (by kernel_rfl) ?_ _
        simp only [tight]
        obtain ⟨W6, hW6⟩ : ∃ W6, W6 = W5.setCell ⟨B + 1, 0, none⟩ (.slice A5 (n + 1) c5) := ⟨_, rfl⟩
        rw [← hW6] at hRS6 hKO ⊢
        have HK6 := Lib.hid ((keeps_ext hE3).trans hKO)
        have HRS6 := Lib.hid hRS6
        obtain ⟨Av, cv, hvb, hvo⟩ := hRS6.vs
        have hvl : (pre.map fun x => vl ns x.i).length = pre.length := List.length_map ..
        rw [hvl] at hvb
        have v1 := cell_of_row W6 (B + 2) 0 _ _ (0, 0) hvb
        have hRS7 := HRS6.out.ext ((Ext.refl W6).alloc (.cells #[.int .i64 xv] 3))
        have hvo7 := hvo.ext ((Ext.refl W6).alloc (.cells #[.int .i64 xv] 3))
        have v17 := (Below.heap_alloc W6 (.cells #[.int .i64 xv] 3) (B + 2) (Array.getElem?_eq_some_iff.1 hvb).1).trans hvb
        have hpn : pre.length ≤ 1099511627776 := by omega
        obtain ⟨pn, hpn2⟩ : ∃ pn, pn = pre.length := ⟨_, rfl⟩
        have Hpn := Lib.hid hpn2
        rw [← hpn2] at hvb v1 v17 hpn hvl
        clear hg5 ho5 hko3 hRS3 k13 hE3 ho2 he2 hE2 k12 hk6 k16 f16 hKO hRS6 hW6 k1 k1d hkb hko hn2 hpn2 hts hvb
        gi_wp2_with (first
          | (rw [Oper.semAt_eq _ _ _ (fun c h => by cases h)]; refine upon_round (fun _ _ h => h) ?_; refine wp_pushK shZ xv 3 _ _ 45 rfl _ 8 Try.underlying45 Try.infoInt18 rfl hvo7 pn hvl rfl rfl (heap_alloc_new _ _) (by omega) (by decide) hRS7.size ?_; intro A8 c8 W8 ho8 hg8 _; have hg8 := gk hg8; obtain ⟨hRS9, hKO9, hk9⟩ := hRS7.pushV hvo7 (by rw [hvl]; exact v17) ho8 hg8; rw [hvl] at hRS9 hKO9 hk9; have v18 := cell_of_row W8 (B + 2) 0 _ _ (0, 0) hk9; have f18 : W8.frozen? ⟨B + 2, 0, none⟩ = false := (by simp [World.frozen?, hk9]))
          | (rw [Oper.semAt_eq _ _ _ (fun c h => by cases h)]; go_simp; try go_bits))
        refine ⟨(HK6.out.trans ((keeps_ext ((Ext.refl W6).alloc _)).trans hKO9)).from _, ⟨fun q hq => ?_, ?_⟩, ts ++ [⟨A2, c2, key⟩], ?_, ?_, ?_⟩
        · have h1 := HYb.out q hq
          exact (hRS9.kb q h1.1 h1.2.1 h1.2.2).trans (HRS.out.kb q h1.1 h1.2.1 h1.2.2).symm
        · exact Nat.le_trans HK6.out.size (Nat.le_trans (keeps_ext ((Ext.refl W6).alloc _)).size hKO9.size)
        · rw [List.map_append, List.map_singleton, ← Hxv.out]; exact hRS9
        · unfold bodies at Hbd ⊢
          rw [List.map_append, List.map_append, Hbd.out, List.map_singleton, List.map_singleton, ← Hkb.out]
        · intro y hy
          rcases List.mem_append.1 hy with hy | hy
          · exact Hns.out y hy
          · rw [List.mem_singleton.1 hy, ← Hkb.out]; exact Hst.out
  case done =>
    rintro D ys W hD ⟨hF, hle⟩ ⟨ts, hRS, hbd, hns⟩ hKd
    obtain ⟨r1, r2⟩ := rng_done hF hle hns
    obtain ⟨Ak, ck, hkb, hko⟩ := hRS.ks
    obtain ⟨Av, cv, hvb, hvo⟩ := hRS.vs
    have k1 := cell_of_row W (B + 1) 0 _ _ (0, 0) hkb
    have v1 := cell_of_row W (B + 2) 0 _ _ (0, 0) hvb
    have Hbd := Lib.hid (hbd.trans r1.symm)
    have Hr2 := Lib.hid r2.symm
    have HRS := Lib.hid hRS
    have Hko := Lib.hid hko
    have Hvo := Lib.hid hvo
    clear hRS hbd hns r1 r2 hko hvo hkb hvb
    gi_wp2
    refine wpIn_wide.2 ?_
    go_quiet (fail)
    gi_wp2
    have hKq : (W.drewN nq).heap[D]? = some (.deferred (some [])) := hKd
    refine ⟨by simp, .inl ⟨_, _, rfl, run_takeDeferred hKq, ?_⟩⟩
    have hg := grownBy_putObj' (W.drewN nq) D (.deferred none)
    have hr : ∀ r, some D = some r → w1.heap.size ≤ r ∧ ∃ o : Obj, (W.drewN nq).heap[r]? = some o ∧ o.isCells = false := fun r e => by injection e with e; subst e; exact ⟨hD, _, hKq, rfl⟩
    have hr2 := fun r e => (hr r e).2
    have hRSd := (HRS.out.ext ((Ext.refl W).drewN nq)).turn hg hr
    have hkd := (Hko.out.ext ((Ext.refl W).drewN nq)).owned hg hr2
    have hvd := (Hvo.out.ext ((Ext.refl W).drewN nq)).owned hg hr2
    rw [HB.out] at hRSd
    have hfin := rng_end HE1.out hRSd Hbd.out Hr2.out hkd hvd
    rw [List.length_map] at hfin
    refine ⟨_, ?_, hfin⟩
    simp [results, Try.results37, go_sem]
  case stop =>
    rintro D cx pre W hD hF ⟨rfl, q, x, rfl, hst, ts, hRS, hbd, hns⟩ hKd
    obtain ⟨r1, r2⟩ := rng_stop hF hns hst
    obtain ⟨Ak, ck, hkb, hko⟩ := hRS.ks
    obtain ⟨Av, cv, hvb, hvo⟩ := hRS.vs
    have k1 := cell_of_row W (B + 1) 0 _ _ (0, 0) hkb
    have v1 := cell_of_row W (B + 2) 0 _ _ (0, 0) hvb
    have Hbd := Lib.hid (hbd.trans r1.symm)
    have Hr2 := Lib.hid r2.symm
    have HRS := Lib.hid hRS
    have Hko := Lib.hid hko
    have Hvo := Lib.hid hvo
    clear hRS hbd hns r1 r2 hko hvo hkb hvb
    gi_wp2
    refine wpIn_wide.2 ?_
    go_quiet (fail)
    gi_wp2
    have hKq : (W.drewN nq).heap[D]? = some (.deferred (some [])) := hKd
    refine ⟨by simp, .inl ⟨_, _, rfl, run_takeDeferred hKq, ?_⟩⟩
    have hg := grownBy_putObj' (W.drewN nq) D (.deferred none)
    have hr : ∀ r, some D = some r → w1.heap.size ≤ r ∧ ∃ o : Obj, (W.drewN nq).heap[r]? = some o ∧ o.isCells = false := fun r e => by injection e with e; subst e; exact ⟨hD, _, hKq, rfl⟩
    have hr2 := fun r e => (hr r e).2
    have hRSd := (HRS.out.ext ((Ext.refl W).drewN nq)).turn hg hr
    have hkd := (Hko.out.ext ((Ext.refl W).drewN nq)).owned hg hr2
    have hvd := (Hvo.out.ext ((Ext.refl W).drewN nq)).owned hg hr2
    rw [HB.out] at hRSd
    have hfin := rng_end HE1.out hRSd Hbd.out Hr2.out hkd hvd
    rw [List.length_map] at hfin
    refine ⟨_, ?_, hfin⟩
    simp [results, Try.results37, go_sem]

theorem srange_any {w : World} {X : Nat → Prop} {base sb : Nat} {hs : List Int} {L : List (List Nat)} {V : List Int} (h : LS w X base sb hs L V) (hb : L.length < 1099511627776) (A : Option Addr) (m c : Nat) (lo : List Nat) (ht : Rd .u8 w A m lo) (hu : U8 lo) (hm : m ≤ 140737488355328) (Ah : Option Addr) (mh ch : Nat) (hi : List Nat) (hth : Rd .u8 w Ah mh hi) (huh : U8 hi) :
    Calls Try.prog 37 #[.pointer (some ⟨sb, 0, none⟩), .slice A m c, .slice Ah mh ch] w (RngPost L V lo hi w) := by
  obtain ⟨ns, hS, hR⟩ := h
  exact callsIn_wide.1 (srange_in hS hR hb A m c lo ht hu hm Ah mh ch hi hth huh)

end Go.Proofs.Ytkmnhapeohlooaa
