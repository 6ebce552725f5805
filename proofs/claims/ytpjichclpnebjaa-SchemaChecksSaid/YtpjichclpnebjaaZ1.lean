import Derived.Test.YtpjichclpnebjaaH5
import Derived.Test.YtpjichclpnebjaaE14s

-- part H6
/-
  Layer 6: cells by columns, the program's and the document's.
-/
namespace Go.Proofs.Ytpjichclpnebjaa
open Go.RowKit

theorem Ci.In.ext {w w' : World} {x : Ci} (h : x.In w) (he : Ext w w') : x.In w' := ⟨h.rd.ext he, h.u8, h.lo, h.hi, h.len⟩

/-- The slice of cells (A, n) reads, in w, as xs. -/
def RdX (w : World) (A : Option Addr) (n : Nat) (xs : List Ci) : Prop :=
  xs.length = n ∧ (0 < n → ∃ b o, A = some ⟨b, o, none⟩ ∧ b < w.heap.size ∧ ∀ j x, xs[j]? = some x →
    w.cell? ⟨b, o + j * 3, none⟩ = some (.bool x.nul) ∧ w.cell? ⟨b, o + j * 3 + 1, none⟩ = some (.int .i64 x.num) ∧ w.cell? ⟨b, o + j * 3 + 2, none⟩ = some (.slice x.A x.txt.length x.c) ∧ x.In w)

theorem RdX.ext {w w' : World} {A : Option Addr} {n : Nat} {xs : List Ci} (h : RdX w A n xs) (hb : Ext w w') : RdX w' A n xs :=
  ⟨h.1, fun hn => by
    obtain ⟨b, o, e, hlt, hc⟩ := h.2 hn
    refine ⟨b, o, e, Nat.lt_of_lt_of_le hlt hb.size, fun j f hj => ?_⟩
    obtain ⟨h1, h2, h3, h4⟩ := hc j f hj
    exact ⟨(hb.cells b _ hlt).trans h1, (hb.cells b _ hlt).trans h2, (hb.cells b _ hlt).trans h3, h4.ext hb⟩⟩

theorem RdX.at_ {w : World} {A : Option Addr} {n : Nat} {xs : List Ci} (h : RdX w A n xs) {j : Nat} (hj : j < n) :
    ∃ b o x, A = some ⟨b, o, none⟩ ∧ b < w.heap.size ∧ xs[j]? = some x ∧ w.cell? ⟨b, o + j * 3, none⟩ = some (.bool x.nul) ∧ w.cell? ⟨b, o + j * 3 + 1, none⟩ = some (.int .i64 x.num) ∧ w.cell? ⟨b, o + j * 3 + 2, none⟩ = some (.slice x.A x.txt.length x.c) ∧ x.In w := by
  obtain ⟨b, o, e, hlt, hc⟩ := h.2 (by omega)
  have hjl : j < xs.length := by rw [h.1]; exact hj
  have hf : xs[j]? = some xs[j] := List.getElem?_eq_getElem hjl
  obtain ⟨h1, h2, h3, h4⟩ := hc j _ hf
  exact ⟨b, o, _, e, hlt, hf, h1, h2, h3, h4⟩

/-- The first error of cells by columns. -/
def chkC (c : Col) (x : Ci) : Int := chk c.kind c.null x.nul x.num x.txt
def rowF : List Col → List Ci → Int
  | c :: r, x :: s => if chkC c x ≠ 0 then chkC c x else rowF r s
  | _, _ => 0
def rowE (cs : List Col) (xs : List Ci) : Int := if xs.length ≠ cs.length then 61 else rowF cs xs

theorem rowF_at {cs : List Col} {xs : List Ci} {j : Nat} {c : Col} {x : Ci} (hc : cs[j]? = some c) (hx : xs[j]? = some x) : rowF (cs.drop j) (xs.drop j) = if chkC c x ≠ 0 then chkC c x else rowF (cs.drop (j + 1)) (xs.drop (j + 1)) := by
  obtain ⟨h1, rfl⟩ := List.getElem?_eq_some_iff.1 hc
  obtain ⟨h2, rfl⟩ := List.getElem?_eq_some_iff.1 hx
  rw [List.drop_eq_getElem_cons h1, List.drop_eq_getElem_cons h2]
  rfl
theorem rowF_end {cs : List Col} {xs : List Ci} {j : Nat} (h : xs.length ≤ j) : rowF (cs.drop j) (xs.drop j) = 0 := by
  rw [List.drop_of_length_le h]
  cases cs.drop j <;> rfl

set_option maxHeartbeats 3200000 in
set_option maxRecDepth 100000 in
theorem checkCells_any (A : Option Addr) (n c : Nat) (cs : List Col) (A2 : Option Addr) (n2 c2 : Nat) (xs : List Ci) (w : World) (hc : RdC w A n cs) (hx : RdX w A2 n2 xs) (hn : n ≤ 140737488355328) (hn2 : n2 ≤ 140737488355328) :
    Calls Try.prog 55 #[.slice A n c, .slice A2 n2 c2] w fun e w' => e = .returned (.int .i64 (rowE cs xs)) ∧ Ext w w' := by
  have hl := hc.1
  have hl2 := hx.1
  obtain ⟨R, hR⟩ : ∃ R, R = rowE cs xs := ⟨_, rfl⟩
  rw [← hR]
  unfold rowE at hR
  rw [hl, hl2] at hR
  by_cases heq : n2 = n
  · subst heq
    rw [if_neg (fun q => q rfl)] at hR
    have HR := Lib.hid hR
    have Hl := Lib.hid hl
    have Hl2 := Lib.hid hl2
    have b1 : ((n2 : Int) != (n2 : Int)) = false := by simp
    clear hR hl hl2
    go_enter Try.func55, Try.ntmps55
    go_wp2
    go_loopw [15] (fun i wr => ∃ j : Nat, j ≤ n2 ∧ i = .int .i64 j ∧ Ext w wr ∧ Hid (R = rowF (cs.drop j) (xs.drop j))) (fun i _ => n2 - (intOf i).toNat)
    case atStart => exact ⟨0, Nat.zero_le _, rfl, Ext.refl w, HR.out⟩
    case round =>
      obtain ⟨j, hj, rfl, hE, HF⟩ := hrel
      by_cases hlt : j < n2
      · obtain ⟨b, o, d, rfl, hb, hd, c0, c1, c2'⟩ := (hc.ext hE).at_ hlt
        obtain ⟨b2, o2, x, rfl, hb2, hx2, e0, e1, e2, hin⟩ := (hx.ext hE).at_ hlt
        have hrow := HF.out.trans (rowF_at hd hx2)
        obtain ⟨nm, kd, nl⟩ := d
        obtain ⟨xn, xi, xA, xc, xt⟩ := x
        simp only at c0 c1 c2' e0 e1 e2
        obtain ⟨xr, xu, x0, x1, xl⟩ := hin
        simp only at xr xu x0 x1 xl
        obtain ⟨n3, hn3⟩ : ∃ n3, n3 = xt.length := ⟨_, rfl⟩
        rw [← hn3] at e2 xr xl
        obtain ⟨q, hq⟩ : ∃ q, q = chk kd nl xn xi xt := ⟨_, rfl⟩
        have hqq : chkC ⟨nm, kd, nl⟩ ⟨xn, xi, xA, xc, xt⟩ = q := hq.symm
        rw [hqq] at hrow
        obtain ⟨W8, hW8⟩ : ∃ W8, W8 = wr.alloc (.cells #[.bool xn, .int .i64 xi, .slice xA n3 xc] 82) := ⟨_, rfl⟩
        have hX : Ext wr W8 := by rw [hW8]; exact (Ext.refl wr).alloc _
        have HC : Hid (∀ W, Ext W8 W → Calls Try.prog 75 #[.int .i64 kd, .bool nl, .agg #[.bool xn, .int .i64 xi, .slice xA n3 xc]] W fun e w' => e = .returned (.int .i64 q) ∧ Ext W w') := Lib.hid (fun W hW => by
          rw [hq]; exact check_any kd nl xn xi xA n3 xc xt W ((xr.ext hX).ext hW) xu x0 x1 (by omega))
        have K : Hid (∀ w', Ext W8 w' → w'.cell? ⟨b, o + j * 3 + 1, none⟩ = some (.int .i64 kd) ∧ w'.cell? ⟨b, o + j * 3 + 2, none⟩ = some (.bool nl) ∧ w'.cell? ⟨wr.heap.size, 0, none⟩ = some (.bool xn) ∧ w'.cell? ⟨wr.heap.size, 1, none⟩ = some (.int .i64 xi) ∧ w'.cell? ⟨wr.heap.size, 2, none⟩ = some (.slice xA n3 xc)) := Lib.hid (fun w' he => by
          have hE2 := hX.trans he
          have a := (AtC.box wr xn xi xA n3 xc)
          rw [← hW8] at a
          have a2 := a.ext he
          exact ⟨(hE2.cells b _ hb).trans c1, (hE2.cells b _ hb).trans c2', a2.c0, a2.c1, a2.c2⟩)
        have Hrow := Lib.hid hrow
        have i0 : (0 : Int) ≤ (j : Int) := by omega
        have i1 : (j : Int) < (n2 : Int) := by omega
        clear hrow hqq hq hn3 hd hx2 xr xu x0 x1 xl
        go_wp2_with fail
        rw [← hW8]
        have g8 := K.out _ (Ext.refl W8)
        clear hW8 c0 c1 c2' e0 e1 e2
        go_region_held3 (fun w' => w'.cell? ⟨b, o + j * 3 + 1, none⟩ = some (.int .i64 kd) ∧ w'.cell? ⟨b, o + j * 3 + 2, none⟩ = some (.bool nl) ∧ w'.cell? ⟨wr.heap.size, 0, none⟩ = some (.bool xn) ∧ w'.cell? ⟨wr.heap.size, 1, none⟩ = some (.int .i64 xi) ∧ w'.cell? ⟨wr.heap.size, 2, none⟩ = some (.slice xA n3 xc))
          (first | exact g8 | (refine K.out _ ?_; (repeat (first | exact Ext.refl _ | (with_reducible refine Ext.trans ?_ he3) | apply Ext.drew | apply Ext.alloc | fail))) | fail)
          (first
            | (go_at_call 75; (with_reducible refine (HC.out _ ?_).mono ?_); (focus ((repeat (first | exact Ext.refl _ | (with_reducible refine Ext.trans ?_ he3) | apply Ext.drew | apply Ext.alloc | fail)); done)); rintro e w3 ⟨rfl, he3⟩)
            | fail)
        have hE3 : Ext w w3 := (hE.trans hX).trans (by (repeat (first | exact Ext.refl _ | (with_reducible refine Ext.trans ?_ he3) | apply Ext.drew | apply Ext.alloc | fail)))
        by_cases q0 : q = 0
        · have HN := Lib.hid (Hrow.out.trans (if_neg (fun r => r q0)))
          have b2 : (q != 0) = false := by simp [q0]
          clear q0
          go_wp2
          go_roundw
          case rel => exact ⟨j + 1, by omega, by go_num, hE3, HN.out⟩
          case measure => simp [intOf]; omega
        · have HN := Lib.hid (Hrow.out.trans (if_pos q0))
          have b2 : (q != 0) = true := by simp [q0]
          clear q0
          go_wp2
          go_ret
          exact ⟨by rw [HN.out]; rfl, hE3⟩
      · obtain rfl : j = n2 := by omega
        have HN := Lib.hid (HF.out.trans (rowF_end (Nat.le_of_eq Hl2.out)))
        go_wp2
        go_ret
        exact ⟨by rw [HN.out]; rfl, hE⟩
  · rw [if_pos heq] at hR
    have b1 : ((n2 : Int) != (n : Int)) = true := by rw [bne_iff_ne]; omega
    clear heq hl hl2
    subst hR
    go_enter Try.func55, Try.ntmps55
    go_wp2
    go_ret
    exact ⟨rfl, Ext.refl w⟩

end Go.Proofs.Ytpjichclpnebjaa

-- part H7
/-
  Layer 6: rows and keys, the program's and the document's.
-/
namespace Go.Proofs.Ytpjichclpnebjaa
open Go.RowKit

/-- A schema lies at block g. -/
structure AtS (w : World) (g : Nat) (A : Option Addr) (n c : Nat) (keys : Int) : Prop where
  c0 : w.cell? ⟨g, 0, none⟩ = some (.slice A n c)
  c1 : w.cell? ⟨g, 1, none⟩ = some (.int .i64 keys)
  lt : g < w.heap.size
theorem AtS.ext {w w' : World} {g : Nat} {A : Option Addr} {n c : Nat} {keys : Int} (h : AtS w g A n c keys) (he : Ext w w') : AtS w' g A n c keys :=
  ⟨(he.cells g 0 h.lt).trans h.c0, (he.cells g 1 h.lt).trans h.c1, Nat.lt_of_lt_of_le h.lt he.size⟩
theorem AtS.box (w : World) (A : Option Addr) (n c : Nat) (keys : Int) : AtS (w.alloc (.cells #[.slice A n c, .int .i64 keys] 24)) w.heap.size A n c keys :=
  ⟨cell_of_row _ w.heap.size 0 _ _ (0, 0) (heap_alloc_new w _), cell_of_row _ w.heap.size 1 _ _ (0, 0) (heap_alloc_new w _), by simp⟩

set_option maxHeartbeats 3200000 in
set_option maxRecDepth 100000 in
theorem refCells_any (A : Option Addr) (n c : Nat) (keys : Int) (cs : List Col) (m : Nat) (A2 : Option Addr) (n2 c2 : Nat) (xs : List Ci) (w : World) (hc : RdC w A n cs) (hx : RdX w A2 n2 xs) (hm : m ≤ n) (hn : n ≤ 140737488355328) (hn2 : n2 ≤ 140737488355328) :
    Calls Try.prog 57 #[.agg #[.slice A n c, .int .i64 keys], .int .i64 (m : Int), .slice A2 n2 c2] w fun e w' => e = .returned (.int .i64 (rowE (cs.take m) xs)) ∧ Ext w w' := by
  have hl := hc.1
  have hl2 := hx.1
  have hlt0 : (cs.take m).length = m := by rw [List.length_take]; omega
  obtain ⟨R, hR⟩ : ∃ R, R = rowE (cs.take m) xs := ⟨_, rfl⟩
  rw [← hR]
  unfold rowE at hR
  rw [hlt0, hl2] at hR
  have hE0 : Ext w (w.alloc (.cells #[.slice A n c, .int .i64 keys] 24)) := (Ext.refl w).alloc _
  by_cases heq : n2 = m
  · subst heq
    rw [if_neg (fun q => q rfl)] at hR
    have HR := Lib.hid hR
    have Hl := Lib.hid hl
    have Hl2 := Lib.hid hl2
    have b1 : ((n2 : Int) != (n2 : Int)) = false := by simp
    have s0 := AtS.box w A n c keys
    clear hR hl hl2 hlt0
    go_enter Try.func57, Try.ntmps57
    go_wp2
    go_loopw [7] (fun i wr => ∃ j : Nat, j ≤ n2 ∧ i = .int .i64 j ∧ Ext w wr ∧ Hid (R = rowF ((cs.take n2).drop j) (xs.drop j)) ∧ AtS wr w.heap.size A n c keys) (fun i _ => n2 - (intOf i).toNat)
    case atStart => exact ⟨0, Nat.zero_le _, rfl, hE0, HR.out, s0⟩
    case round =>
      clear s0 hE0
      obtain ⟨j, hj, rfl, hE, HF, s0⟩ := hrel
      by_cases hlt : j < n2
      · obtain ⟨b, o, d, rfl, hb, hd, c0, c1, c2'⟩ := (hc.ext hE).at_ (show j < n by omega)
        obtain ⟨b2, o2, x, rfl, hb2, hx2, e0, e1, e2, hin⟩ := (hx.ext hE).at_ hlt
        have hd' : (cs.take n2)[j]? = some d := by rw [List.getElem?_take, if_pos hlt]; exact hd
        have hrow := HF.out.trans (rowF_at hd' hx2)
        obtain ⟨nm, kd, nl⟩ := d
        obtain ⟨xn, xi, xA, xc, xt⟩ := x
        simp only at c0 c1 c2' e0 e1 e2
        obtain ⟨xr, xu, x0, x1, xl⟩ := hin
        simp only at xr xu x0 x1 xl
        obtain ⟨n3, hn3⟩ : ∃ n3, n3 = xt.length := ⟨_, rfl⟩
        rw [← hn3] at e2 xr xl
        obtain ⟨q, hq⟩ : ∃ q, q = chk kd nl xn xi xt := ⟨_, rfl⟩
        have hqq : chkC ⟨nm, kd, nl⟩ ⟨xn, xi, xA, xc, xt⟩ = q := hq.symm
        rw [hqq] at hrow
        have HC : Hid (∀ W, Ext wr W → Calls Try.prog 58 #[.int .i64 kd, .bool nl, .agg #[.bool xn, .int .i64 xi, .slice xA n3 xc]] W fun e w' => e = .returned (.int .i64 q) ∧ Ext W w') := Lib.hid (fun W hW => by
          rw [hq]; exact refCheck_any kd nl xn xi xA n3 xc xt W (xr.ext hW) x0 x1 (by omega))
        have K : Hid (∀ w', Ext wr w' → w'.cell? ⟨w.heap.size, 0, none⟩ = some (.slice (some ⟨b, o, none⟩) n c) ∧ w'.cell? ⟨b, o + j * 3 + 1, none⟩ = some (.int .i64 kd) ∧ w'.cell? ⟨b, o + j * 3 + 2, none⟩ = some (.bool nl) ∧ w'.cell? ⟨b2, o2 + j * 3, none⟩ = some (.bool xn) ∧ w'.cell? ⟨b2, o2 + j * 3 + 1, none⟩ = some (.int .i64 xi) ∧ w'.cell? ⟨b2, o2 + j * 3 + 2, none⟩ = some (.slice xA n3 xc)) := Lib.hid (fun w' he =>
          ⟨(s0.ext he).c0, (he.cells b _ hb).trans c1, (he.cells b _ hb).trans c2', (he.cells b2 _ hb2).trans e0, (he.cells b2 _ hb2).trans e1, (he.cells b2 _ hb2).trans e2⟩)
        have Hrow := Lib.hid hrow
        have i0 : (0 : Int) ≤ (j : Int) := by omega
        have i1 : (j : Int) < (n2 : Int) := by omega
        have i2 : (j : Int) < (n : Int) := by omega
        have g8 := K.out _ (Ext.refl wr)
        clear hrow hqq hq hn3 hd hd' hx2 xr xu x0 x1 xl c0 c1 c2' e0 e1 e2
        go_wp2_with fail
        go_region_held3 (fun w' => w'.cell? ⟨w.heap.size, 0, none⟩ = some (.slice (some ⟨b, o, none⟩) n c) ∧ w'.cell? ⟨b, o + j * 3 + 1, none⟩ = some (.int .i64 kd) ∧ w'.cell? ⟨b, o + j * 3 + 2, none⟩ = some (.bool nl) ∧ w'.cell? ⟨b2, o2 + j * 3, none⟩ = some (.bool xn) ∧ w'.cell? ⟨b2, o2 + j * 3 + 1, none⟩ = some (.int .i64 xi) ∧ w'.cell? ⟨b2, o2 + j * 3 + 2, none⟩ = some (.slice xA n3 xc))
          (first | exact g8 | (refine K.out _ ?_; (repeat (first | exact Ext.refl _ | (with_reducible refine Ext.trans ?_ he3) | apply Ext.drew | apply Ext.alloc | fail))) | fail)
          (first
            | (go_at_call 58; (with_reducible refine (HC.out _ ?_).mono ?_); (focus ((repeat (first | exact Ext.refl _ | (with_reducible refine Ext.trans ?_ he3) | apply Ext.drew | apply Ext.alloc | fail)); done)); rintro e w3 ⟨rfl, he3⟩)
            | fail)
        have hE3' : Ext wr w3 := by (repeat (first | exact Ext.refl _ | (with_reducible refine Ext.trans ?_ he3) | apply Ext.drew | apply Ext.alloc | fail))
        have hE3 : Ext w w3 := hE.trans hE3'
        have s3 := s0.ext hE3'
        by_cases q0 : q = 0
        · have HN := Lib.hid (Hrow.out.trans (if_neg (fun r => r q0)))
          have b2 : (q != 0) = false := by simp [q0]
          clear q0
          go_wp2
          go_roundw
          case rel => exact ⟨j + 1, by omega, by go_num, hE3, HN.out, s3⟩
          case measure => simp [intOf]; omega
        · have HN := Lib.hid (Hrow.out.trans (if_pos q0))
          have b2 : (q != 0) = true := by simp [q0]
          clear q0
          go_wp2
          go_ret
          exact ⟨by rw [HN.out]; rfl, hE3⟩
      · obtain rfl : j = n2 := by omega
        have HN := Lib.hid (HF.out.trans (rowF_end (Nat.le_of_eq Hl2.out)))
        go_wp2
        go_ret
        exact ⟨by rw [HN.out]; rfl, hE⟩
  · rw [if_pos heq] at hR
    have b1 : ((n2 : Int) != (m : Int)) = true := by rw [bne_iff_ne]; omega
    clear heq hl hl2 hlt0
    subst hR
    go_enter Try.func57, Try.ntmps57
    go_wp2
    go_ret
    exact ⟨rfl, hE0⟩

/-- A whole row's first error, a key's. -/
def rowS (keys : Int) (cs : List Col) (xs : List Ci) : Int := if schE keys cs ≠ 0 then schE keys cs else rowE cs xs
def keyS (keys : Int) (cs : List Col) (xs : List Ci) : Int := if schE keys cs ≠ 0 then schE keys cs else rowE (cs.take keys.toNat) xs

theorem schE_inv {keys : Int} {cs : List Col} (h : schE keys cs = 0) : 1 ≤ cs.length ∧ cs.length ≤ 12 ∧ 1 ≤ keys ∧ keys ≤ 3 ∧ keys ≤ cs.length := by
  by_cases q : 1 ≤ cs.length ∧ cs.length ≤ 12 ∧ 1 ≤ keys ∧ keys ≤ 3 ∧ keys ≤ cs.length
  · exact q
  · rw [schE_shape q] at h; exact absurd h (by decide)

/-- A schema that was handed in. -/
structure SchIn (w : World) (A : Option Addr) (n c : Nat) (cs : List Col) : Prop where
  rd : RdC w A n cs
  nm : ∀ d ∈ cs, d.name.size ≤ 140737488355328
  le : n ≤ 140737488355328
  cap : n ≤ c
  max : c ≤ 9223372036854775807
theorem SchIn.ext {w w' : World} {A : Option Addr} {n c : Nat} {cs : List Col} (h : SchIn w A n c cs) (he : Ext w w') : SchIn w' A n c cs := ⟨h.rd.ext he, h.nm, h.le, h.cap, h.max⟩

theorem RdC.take {w : World} {A : Option Addr} {n : Nat} {cs : List Col} (h : RdC w A n cs) {m : Nat} (hm : m ≤ n) : RdC w A m (cs.take m) :=
  ⟨by rw [List.length_take, h.1]; omega, fun h0 => by
    obtain ⟨b, o, e, hb, hc⟩ := h.2 (by omega)
    refine ⟨b, o, e, hb, fun j c hj => ?_⟩
    rw [List.getElem?_take] at hj
    split at hj
    · exact hc j c hj
    · cases hj⟩

set_option maxHeartbeats 1600000 in
theorem srow_any (A : Option Addr) (n c : Nat) (keys : Int) (cs : List Col) (A2 : Option Addr) (n2 c2 : Nat) (xs : List Ci) (w : World) (hs : SchIn w A n c cs) (hx : RdX w A2 n2 xs) (hn2 : n2 ≤ 140737488355328) :
    Calls Try.prog 16 #[.agg #[.slice A n c, .int .i64 keys], .slice A2 n2 c2] w fun e w' => e = .returned (.int .i64 (rowS keys cs xs)) ∧ Ext w w' := by
  have hE : Ext w (w.alloc (.cells #[.slice A n c, .int .i64 keys] 24)) := (Ext.refl w).alloc _
  have h1 := hs.ext hE
  have h2 := hx.ext hE
  obtain ⟨R, hR⟩ : ∃ R, R = rowS keys cs xs := ⟨_, rfl⟩
  rw [← hR]
  unfold rowS at hR
  obtain ⟨E, hEe⟩ : ∃ E, E = schE keys cs := ⟨_, rfl⟩
  rw [← hEe] at hR
  have HE := Lib.hid hEe
  by_cases e0 : E = 0
  · rw [if_neg (fun q => q e0)] at hR
    have HR := Lib.hid hR
    have b1 : (E != 0) = false := by simp [e0]
    clear hR hEe e0
    go_enter Try.func16, Try.ntmps16
    go_wp2_with fail
    refine (scheck_any A n c keys cs _ h1.rd h1.nm h1.le).mono ?_
    rintro e w1 ⟨rfl, he1⟩
    rw [← HE.out]
    have hc1 := he1.cells
    go_wp2_with fail
    refine (checkCells_any A n c cs A2 n2 c2 xs _ (h1.rd.ext he1) (h2.ext he1) h1.le hn2).mono ?_
    rintro e w2 ⟨rfl, he2⟩
    rw [← HR.out]
    go_wp2
    go_ret
    exact ⟨rfl, (hE.trans he1).trans he2⟩
  · rw [if_pos e0] at hR
    have b1 : (E != 0) = true := by simp [e0]
    clear hEe e0
    subst hR
    go_enter Try.func16, Try.ntmps16
    go_wp2_with fail
    refine (scheck_any A n c keys cs _ h1.rd h1.nm h1.le).mono ?_
    rintro e w1 ⟨rfl, he1⟩
    rw [← HE.out]
    go_wp2
    go_ret
    exact ⟨rfl, hE.trans he1⟩

set_option maxHeartbeats 1600000 in
theorem refSrow_any (A : Option Addr) (n c : Nat) (keys : Int) (cs : List Col) (A2 : Option Addr) (n2 c2 : Nat) (xs : List Ci) (w : World) (hs : SchIn w A n c cs) (hx : RdX w A2 n2 xs) (hn2 : n2 ≤ 140737488355328) :
    Calls Try.prog 17 #[.agg #[.slice A n c, .int .i64 keys], .slice A2 n2 c2] w fun e w' => e = .returned (.int .i64 (rowS keys cs xs)) ∧ Ext w w' := by
  have hE : Ext w (w.alloc (.cells #[.slice A n c, .int .i64 keys] 24)) := (Ext.refl w).alloc _
  have h1 := hs.ext hE
  have h2 := hx.ext hE
  have htake : cs.take n = cs := List.take_of_length_le (Nat.le_of_eq hs.rd.1)
  obtain ⟨R, hR⟩ : ∃ R, R = rowS keys cs xs := ⟨_, rfl⟩
  rw [← hR]
  unfold rowS at hR
  obtain ⟨E, hEe⟩ : ∃ E, E = schE keys cs := ⟨_, rfl⟩
  rw [← hEe] at hR
  have HE := Lib.hid hEe
  have Ht := Lib.hid htake
  clear htake
  by_cases e0 : E = 0
  · rw [if_neg (fun q => q e0)] at hR
    have HR := Lib.hid hR
    have b1 : (E != 0) = false := by simp [e0]
    clear hR hEe e0
    go_enter Try.func17, Try.ntmps17
    go_wp2_with fail
    refine (refScheck_any A n c keys cs _ h1.rd h1.nm h1.le).mono ?_
    rintro e w1 ⟨rfl, he1⟩
    rw [← HE.out]
    have hc1 := he1.cells
    go_wp2_with fail
    refine (refCells_any A n c keys cs n A2 n2 c2 xs _ (h1.rd.ext he1) (h2.ext he1) (Nat.le_refl _) h1.le hn2).mono ?_
    rintro e w2 ⟨rfl, he2⟩
    rw [Ht.out, ← HR.out]
    go_wp2
    go_ret
    exact ⟨rfl, (hE.trans he1).trans he2⟩
  · rw [if_pos e0] at hR
    have b1 : (E != 0) = true := by simp [e0]
    clear hEe e0
    subst hR
    go_enter Try.func17, Try.ntmps17
    go_wp2_with fail
    refine (refScheck_any A n c keys cs _ h1.rd h1.nm h1.le).mono ?_
    rintro e w1 ⟨rfl, he1⟩
    rw [← HE.out]
    go_wp2
    go_ret
    exact ⟨rfl, hE.trans he1⟩

set_option maxHeartbeats 1600000 in
theorem skey_any (A : Option Addr) (n c : Nat) (keys : Int) (cs : List Col) (A2 : Option Addr) (n2 c2 : Nat) (xs : List Ci) (w : World) (hs : SchIn w A n c cs) (hx : RdX w A2 n2 xs) (hn2 : n2 ≤ 140737488355328) :
    Calls Try.prog 18 #[.agg #[.slice A n c, .int .i64 keys], .slice A2 n2 c2] w fun e w' => e = .returned (.int .i64 (keyS keys cs xs)) ∧ Ext w w' := by
  have hE : Ext w (w.alloc (.cells #[.slice A n c, .int .i64 keys] 24)) := (Ext.refl w).alloc _
  have h1 := hs.ext hE
  have h2 := hx.ext hE
  have hcap := hs.cap
  have hnle := hs.le
  have hmax := hs.max
  have hln := hs.rd.1
  obtain ⟨R, hR⟩ : ∃ R, R = keyS keys cs xs := ⟨_, rfl⟩
  rw [← hR]
  unfold keyS at hR
  obtain ⟨E, hEe⟩ : ∃ E, E = schE keys cs := ⟨_, rfl⟩
  rw [← hEe] at hR
  have HE := Lib.hid hEe
  by_cases e0 : E = 0
  · rw [if_neg (fun q => q e0)] at hR
    have hinv := schE_inv (hEe.symm.trans e0)
    rw [hln] at hinv
    obtain ⟨kk, rfl⟩ := Int.eq_ofNat_of_zero_le (show 0 ≤ keys by omega)
    rw [Int.toNat_natCast] at hR
    have hkn : kk ≤ n := by omega
    have HR := Lib.hid hR
    have b1 : (E != 0) = false := by simp [e0]
    obtain ⟨b, o, hA, _⟩ := hs.rd.2 (show 0 < n by omega)
    clear hR hEe e0 hinv hln
    subst hA
    go_enter Try.func18, Try.ntmps18
    go_wp2_with fail
    refine (scheck_any _ n c (kk : Int) cs _ h1.rd h1.nm h1.le).mono ?_
    rintro e w1 ⟨rfl, he1⟩
    rw [← HE.out]
    have hc1 := he1.cells
    go_wp2_with fail
    refine (checkCells_any _ kk c (cs.take kk) A2 n2 c2 xs _ ((h1.rd.ext he1).take hkn) (h2.ext he1) (by omega) hn2).mono ?_
    rintro e w2 ⟨rfl, he2⟩
    rw [← HR.out]
    go_wp2
    go_ret
    exact ⟨rfl, (hE.trans he1).trans he2⟩
  · rw [if_pos e0] at hR
    have b1 : (E != 0) = true := by simp [e0]
    clear hEe e0
    subst hR
    go_enter Try.func18, Try.ntmps18
    go_wp2_with fail
    refine (scheck_any A n c keys cs _ h1.rd h1.nm h1.le).mono ?_
    rintro e w1 ⟨rfl, he1⟩
    rw [← HE.out]
    go_wp2
    go_ret
    exact ⟨rfl, hE.trans he1⟩

set_option maxHeartbeats 1600000 in
theorem refSkey_any (A : Option Addr) (n c : Nat) (keys : Int) (cs : List Col) (A2 : Option Addr) (n2 c2 : Nat) (xs : List Ci) (w : World) (hs : SchIn w A n c cs) (hx : RdX w A2 n2 xs) (hn2 : n2 ≤ 140737488355328) :
    Calls Try.prog 19 #[.agg #[.slice A n c, .int .i64 keys], .slice A2 n2 c2] w fun e w' => e = .returned (.int .i64 (keyS keys cs xs)) ∧ Ext w w' := by
  have hE : Ext w (w.alloc (.cells #[.slice A n c, .int .i64 keys] 24)) := (Ext.refl w).alloc _
  have h1 := hs.ext hE
  have h2 := hx.ext hE
  have hln := hs.rd.1
  obtain ⟨R, hR⟩ : ∃ R, R = keyS keys cs xs := ⟨_, rfl⟩
  rw [← hR]
  unfold keyS at hR
  obtain ⟨E, hEe⟩ : ∃ E, E = schE keys cs := ⟨_, rfl⟩
  rw [← hEe] at hR
  have HE := Lib.hid hEe
  by_cases e0 : E = 0
  · rw [if_neg (fun q => q e0)] at hR
    have hinv := schE_inv (hEe.symm.trans e0)
    rw [hln] at hinv
    obtain ⟨kk, rfl⟩ := Int.eq_ofNat_of_zero_le (show 0 ≤ keys by omega)
    rw [Int.toNat_natCast] at hR
    have hkn : kk ≤ n := by omega
    have HR := Lib.hid hR
    have b1 : (E != 0) = false := by simp [e0]
    clear hR hEe e0 hinv hln
    go_enter Try.func19, Try.ntmps19
    go_wp2_with fail
    refine (refScheck_any _ n c (kk : Int) cs _ h1.rd h1.nm h1.le).mono ?_
    rintro e w1 ⟨rfl, he1⟩
    rw [← HE.out]
    have hc1 := he1.cells
    go_wp2_with fail
    refine (refCells_any A n c (kk : Int) cs kk A2 n2 c2 xs _ (h1.rd.ext he1) (h2.ext he1) hkn h1.le hn2).mono ?_
    rintro e w2 ⟨rfl, he2⟩
    rw [← HR.out]
    go_wp2
    go_ret
    exact ⟨rfl, (hE.trans he1).trans he2⟩
  · rw [if_pos e0] at hR
    have b1 : (E != 0) = true := by simp [e0]
    clear hEe e0
    subst hR
    go_enter Try.func19, Try.ntmps19
    go_wp2_with fail
    refine (refScheck_any A n c keys cs _ h1.rd h1.nm h1.le).mono ?_
    rintro e w1 ⟨rfl, he1⟩
    rw [← HE.out]
    go_wp2
    go_ret
    exact ⟨rfl, hE.trans he1⟩

end Go.Proofs.Ytpjichclpnebjaa

-- part H8
/-
  Layer 6: sets, the program's and the document's.
-/
namespace Go.Proofs.Ytpjichclpnebjaa
open Go.RowKit

/-- A set that was handed in. -/
structure Si where
  col : Int
  cell : Ci

/-- The slice of sets (A, n) reads, in w, as ts. -/
def RdT (w : World) (A : Option Addr) (n : Nat) (ts : List Si) : Prop :=
  ts.length = n ∧ (0 < n → ∃ b o, A = some ⟨b, o, none⟩ ∧ b < w.heap.size ∧ ∀ j t, ts[j]? = some t →
    w.cell? ⟨b, o + j * 4, none⟩ = some (.int .i64 t.col) ∧ w.cell? ⟨b, o + j * 4 + 1, none⟩ = some (.bool t.cell.nul) ∧ w.cell? ⟨b, o + j * 4 + 2, none⟩ = some (.int .i64 t.cell.num) ∧ w.cell? ⟨b, o + j * 4 + 3, none⟩ = some (.slice t.cell.A t.cell.txt.length t.cell.c) ∧ t.cell.In w)

theorem RdT.ext {w w' : World} {A : Option Addr} {n : Nat} {ts : List Si} (h : RdT w A n ts) (hb : Ext w w') : RdT w' A n ts :=
  ⟨h.1, fun hn => by
    obtain ⟨b, o, e, hlt, hc⟩ := h.2 hn
    refine ⟨b, o, e, Nat.lt_of_lt_of_le hlt hb.size, fun j f hj => ?_⟩
    obtain ⟨h1, h2, h3, h4, h5⟩ := hc j f hj
    exact ⟨(hb.cells b _ hlt).trans h1, (hb.cells b _ hlt).trans h2, (hb.cells b _ hlt).trans h3, (hb.cells b _ hlt).trans h4, h5.ext hb⟩⟩

theorem RdT.at_ {w : World} {A : Option Addr} {n : Nat} {ts : List Si} (h : RdT w A n ts) {j : Nat} (hj : j < n) :
    ∃ b o t, A = some ⟨b, o, none⟩ ∧ b < w.heap.size ∧ ts[j]? = some t ∧ w.cell? ⟨b, o + j * 4, none⟩ = some (.int .i64 t.col) ∧ w.cell? ⟨b, o + j * 4 + 1, none⟩ = some (.bool t.cell.nul) ∧ w.cell? ⟨b, o + j * 4 + 2, none⟩ = some (.int .i64 t.cell.num) ∧ w.cell? ⟨b, o + j * 4 + 3, none⟩ = some (.slice t.cell.A t.cell.txt.length t.cell.c) ∧ t.cell.In w := by
  obtain ⟨b, o, e, hlt, hc⟩ := h.2 (by omega)
  have hjl : j < ts.length := by rw [h.1]; exact hj
  have hf : ts[j]? = some ts[j] := List.getElem?_eq_getElem hjl
  obtain ⟨h1, h2, h3, h4, h5⟩ := hc j _ hf
  exact ⟨b, o, _, e, hlt, hf, h1, h2, h3, h4, h5⟩

def colAt (cs : List Col) (i : Nat) : Col := cs.getD i ⟨ByteArray.empty, 0, false⟩
theorem colAt_of {cs : List Col} {i : Nat} {c : Col} (h : cs[i]? = some c) : colAt cs i = c := by unfold colAt; rw [List.getD, h]; rfl

/-- The first error of sets, behind a column. -/
def setF (cs : List Col) : Int → List Si → Int
  | _, [] => 0
  | L, t :: r => if t.col ≤ L ∨ (cs.length : Int) ≤ t.col then 61 else if chkC (colAt cs t.col.toNat) t.cell ≠ 0 then chkC (colAt cs t.col.toNat) t.cell else setF cs t.col r
def setsE (keys : Int) (cs : List Col) (ts : List Si) : Int := if ts.length = 0 then 61 else setF cs (keys - 1) ts
def setsS (keys : Int) (cs : List Col) (ts : List Si) : Int := if schE keys cs ≠ 0 then schE keys cs else setsE keys cs ts

theorem setF_at {cs : List Col} {ts : List Si} {j : Nat} {t : Si} {L : Int} (h : ts[j]? = some t) : setF cs L (ts.drop j) = if t.col ≤ L ∨ (cs.length : Int) ≤ t.col then 61 else if chkC (colAt cs t.col.toNat) t.cell ≠ 0 then chkC (colAt cs t.col.toNat) t.cell else setF cs t.col (ts.drop (j + 1)) := by
  obtain ⟨h1, rfl⟩ := List.getElem?_eq_some_iff.1 h
  rw [List.drop_eq_getElem_cons h1]
  rfl
theorem setF_end {cs : List Col} {ts : List Si} {j : Nat} {L : Int} (h : ts.length ≤ j) : setF cs L (ts.drop j) = 0 := by
  rw [List.drop_of_length_le h]; rfl

set_option maxHeartbeats 3200000 in
set_option maxRecDepth 100000 in
theorem checkSets_any (A : Option Addr) (n c : Nat) (keys : Int) (cs : List Col) (A2 : Option Addr) (n2 c2 : Nat) (ts : List Si) (w : World) (hs : SchIn w A n c cs) (hx : RdT w A2 n2 ts) (hk1 : 1 ≤ keys) (hk2 : keys ≤ 3) (hn2 : n2 ≤ 140737488355328) :
    Calls Try.prog 56 #[.agg #[.slice A n c, .int .i64 keys], .slice A2 n2 c2] w fun e w' => e = .returned (.int .i64 (setsE keys cs ts)) ∧ Ext w w' := by
  have hl := hs.rd.1
  have hl2 := hx.1
  have hnle := hs.le
  have hE0 : Ext w (w.alloc (.cells #[.slice A n c, .int .i64 keys] 24)) := (Ext.refl w).alloc _
  obtain ⟨R, hR⟩ : ∃ R, R = setsE keys cs ts := ⟨_, rfl⟩
  rw [← hR]
  unfold setsE at hR
  rw [hl2] at hR
  by_cases h0 : n2 = 0
  · rw [if_pos h0] at hR
    subst h0 hR
    go_enter Try.func56, Try.ntmps56
    go_wp2
    go_ret
    exact ⟨rfl, hE0⟩
  · rw [if_neg h0] at hR
    have HR := Lib.hid hR
    have Hl := Lib.hid hl
    have Hl2 := Lib.hid hl2
    have b0 : ((n2 : Int) == 0) = false := by rw [beq_eq_false_iff_ne]; omega
    have s0 := AtS.box w A n c keys
    clear hR hl hl2 h0
    go_enter Try.func56, Try.ntmps56
    go_wp2
    go_loopw [5, 18] (fun l i wr => ∃ (j : Nat) (L : Int), j ≤ n2 ∧ i = .int .i64 j ∧ l = .int .i64 L ∧ 0 ≤ L ∧ Ext w wr ∧ Hid (R = setF cs L (ts.drop j)) ∧ AtS wr w.heap.size A n c keys) (fun _ i _ => n2 - (intOf i).toNat)
    case atStart => exact ⟨0, keys - 1, Nat.zero_le _, rfl, rfl, by omega, hE0, HR.out, s0⟩
    case round =>
      clear s0 hE0
      obtain ⟨j, L, hj, rfl, rfl, hL, hE, HF, s0⟩ := hrel
      obtain ⟨k0, k1, z0⟩ := s0
      by_cases hlt : j < n2
      · obtain ⟨b2, o2, t, rfl, hb2, ht, e0, e1, e2, e3, hin⟩ := (hx.ext hE).at_ hlt
        have hrow := HF.out.trans (setF_at ht)
        rw [Hl.out] at hrow
        obtain ⟨q, xn, xi, xA, xc, xt⟩ := t
        simp only at e0 e1 e2 e3 hrow
        obtain ⟨xr, xu, x0, x1, xl⟩ := hin
        simp only at xr xu x0 x1 xl
        obtain ⟨n3, hn3⟩ : ∃ n3, n3 = xt.length := ⟨_, rfl⟩
        rw [← hn3] at e3 xr xl
        have hX : Ext wr (wr.alloc (.cells #[.int .i64 q, .bool xn, .int .i64 xi, .slice xA n3 xc] 84)) := (Ext.refl wr).alloc _
        by_cases hbad : q ≤ L ∨ (n : Int) ≤ q
        · have HN := Lib.hid (hrow.trans (if_pos hbad))
          have key : decide (q ≤ L) = true ∨ (decide (q ≤ L) = false ∧ decide ((n : Int) ≤ q) = true) := by
            simp only [decide_eq_true_eq, decide_eq_false_iff_not]; omega
          clear hrow hbad hn3 ht
          rcases key with q1 | ⟨q1, q2⟩
          all_goals
            go_wp2
            go_ret
            exact ⟨by rw [HN.out]; rfl, hE.trans hX⟩
        · rw [if_neg hbad] at hrow
          obtain ⟨qq, rfl⟩ := Int.eq_ofNat_of_zero_le (show 0 ≤ q by omega)
          have q1 : decide ((qq : Int) ≤ L) = false := decide_eq_false (by omega)
          have q2 : decide ((n : Int) ≤ (qq : Int)) = false := decide_eq_false (by omega)
          have q2' : decide (n ≤ qq) = false := decide_eq_false (by omega)
          have i1 : (qq : Int) < (n : Int) := by omega
          obtain ⟨b, o, d, rfl, hb, hd, c0, c1, c2'⟩ := (hs.rd.ext hE).at_ (show qq < n by omega)
          rw [Int.toNat_natCast, colAt_of hd] at hrow
          obtain ⟨nm, kd, nl⟩ := d
          simp only at c0 c1 c2'
          obtain ⟨v, hv⟩ : ∃ v, v = chk kd nl xn xi xt := ⟨_, rfl⟩
          have hvv : chkC ⟨nm, kd, nl⟩ ⟨xn, xi, xA, xc, xt⟩ = v := hv.symm
          rw [hvv] at hrow
          have Hrow := Lib.hid hrow
          have Hv := Lib.hid hv
          have hX2 : Ext wr ((wr.alloc (.cells #[.int .i64 (qq : Int), .bool xn, .int .i64 xi, .slice xA n3 xc] 84)).alloc (.cells #[.string nm, .int .i64 kd, .bool nl] 89)) := hX.alloc _
          have hzl : wr.heap.size < wr.heap.size + 1 := Nat.lt_succ_self _
          clear hrow hvv hv hn3 ht hd hbad
          go_wp2_with fail
          refine (check_any kd nl xn xi xA n3 xc xt _ (xr.ext hX2) xu x0 x1 (by omega)).mono ?_
          rintro e w3 ⟨rfl, he3⟩
          rw [← Hv.out]
          have hc3 := he3.cells
          have hE3 := (hE.trans hX2).trans he3
          have s3 := (AtS.mk k0 k1 z0).ext (hX2.trans he3)
          by_cases v0 : v = 0
          · have HN := Lib.hid (Hrow.out.trans (if_neg (fun r => r v0)))
            have b2 : (v != 0) = false := by simp [v0]
            clear v0
            go_wp2
            go_roundw
            case rel => exact ⟨j + 1, (qq : Int), by omega, by go_num, rfl, by omega, hE3, HN.out, s3⟩
            case measure => simp [intOf]; omega
          · have HN := Lib.hid (Hrow.out.trans (if_pos v0))
            have b2 : (v != 0) = true := by simp [v0]
            clear v0
            go_wp2
            go_ret
            exact ⟨by rw [HN.out]; rfl, hE3⟩
      · obtain rfl : j = n2 := by omega
        have HN := Lib.hid (HF.out.trans (setF_end (Nat.le_of_eq Hl2.out)))
        go_wp2
        go_ret
        exact ⟨by rw [HN.out]; rfl, hE⟩

set_option maxHeartbeats 1600000 in
theorem ssets_any (A : Option Addr) (n c : Nat) (keys : Int) (cs : List Col) (A2 : Option Addr) (n2 c2 : Nat) (ts : List Si) (w : World) (hs : SchIn w A n c cs) (hx : RdT w A2 n2 ts) (hn2 : n2 ≤ 140737488355328) :
    Calls Try.prog 20 #[.agg #[.slice A n c, .int .i64 keys], .slice A2 n2 c2] w fun e w' => e = .returned (.int .i64 (setsS keys cs ts)) ∧ Ext w w' := by
  have hE : Ext w (w.alloc (.cells #[.slice A n c, .int .i64 keys] 24)) := (Ext.refl w).alloc _
  have h1 := hs.ext hE
  have h2 := hx.ext hE
  obtain ⟨R, hR⟩ : ∃ R, R = setsS keys cs ts := ⟨_, rfl⟩
  rw [← hR]
  unfold setsS at hR
  obtain ⟨E, hEe⟩ : ∃ E, E = schE keys cs := ⟨_, rfl⟩
  rw [← hEe] at hR
  have HE := Lib.hid hEe
  by_cases e0 : E = 0
  · rw [if_neg (fun q => q e0)] at hR
    have hinv := schE_inv (hEe.symm.trans e0)
    have HR := Lib.hid hR
    have b1 : (E != 0) = false := by simp [e0]
    have hk1 := hinv.2.2.1
    have hk2 := hinv.2.2.2.1
    clear hR hEe e0 hinv
    go_enter Try.func20, Try.ntmps20
    go_wp2_with fail
    refine (scheck_any A n c keys cs _ h1.rd h1.nm h1.le).mono ?_
    rintro e w1 ⟨rfl, he1⟩
    rw [← HE.out]
    have hc1 := he1.cells
    go_wp2_with fail
    refine (checkSets_any A n c keys cs A2 n2 c2 ts _ (h1.ext he1) (h2.ext he1) hk1 hk2 hn2).mono ?_
    rintro e w2 ⟨rfl, he2⟩
    rw [← HR.out]
    go_wp2
    go_ret
    exact ⟨rfl, (hE.trans he1).trans he2⟩
  · rw [if_pos e0] at hR
    have b1 : (E != 0) = true := by simp [e0]
    clear hEe e0
    subst hR
    go_enter Try.func20, Try.ntmps20
    go_wp2_with fail
    refine (scheck_any A n c keys cs _ h1.rd h1.nm h1.le).mono ?_
    rintro e w1 ⟨rfl, he1⟩
    rw [← HE.out]
    go_wp2
    go_ret
    exact ⟨rfl, hE.trans he1⟩

end Go.Proofs.Ytpjichclpnebjaa
