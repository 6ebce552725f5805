import Derived.Test.YtjckfbpdnpehcaaKM

/-
  Layer 14: the document's power that goes and comes back, nothing kept.
-/
namespace Go.Proofs.Ytjckfbpdnpehcaa
open Go.RowKit Go.Maps Go.WideMaps
set_option maxRecDepth 100000

theorem rkeep_nil (i : Int) (hi : 0 ≤ i) (w : World) : Calls Try.prog 74 #[.slice none 0 0, .int .i64 i] w fun e w' => e = .returned (.int .i64 0) ∧ w = w' := by
  have a1 : ¬ i < 0 := by omega
  go_enter Try.func74, Try.ntmps74
  go_wp2_with fail
  go_ret
  exact ⟨rfl, rfl⟩

/-- What is safe of each file: the bytes, how many. -/
def safeE (M : List (List Nat × Int)) (d : List (List UInt8 × Int)) : List (List UInt8 × List Nat) := d.map fun e => (e.1, (M.getD e.2.toNat ([], 0)).1.take (M.getD e.2.toNat ([], 0)).2.toNat)
/-- The bodies behind a loss of power. -/
def onB (M : List (List Nat × Int)) (d : List (List UInt8 × Int)) : List (List Nat × Int) := d.map fun e => ((M.getD e.2.toNat ([], 0)).1.take (M.getD e.2.toNat ([], 0)).2.toNat, (M.getD e.2.toNat ([], 0)).2)
/-- The directory behind it. -/
def onD : Nat → List (List UInt8 × Int) → List (List UInt8 × Int)
  | _, [] => []
  | j, e :: r => (e.1, (j : Int)) :: onD (j + 1) r
theorem onD_len : ∀ (j : Nat) (d : List (List UInt8 × Int)), (onD j d).length = d.length
  | _, [] => rfl
  | j, _ :: r => by rw [onD, List.length_cons, List.length_cons, onD_len (j + 1) r]
theorem onD_snoc : ∀ (j : Nat) (d : List (List UInt8 × Int)) (e : List UInt8 × Int), onD j (d ++ [e]) = onD j d ++ [(e.1, ((j + d.length : Nat) : Int))]
  | j, [], e => rfl
  | j, a :: r, e => by
    rw [List.cons_append, onD, onD_snoc (j + 1) r e, onD, List.cons_append, List.length_cons]
    rw [show j + 1 + r.length = j + (r.length + 1) by omega]
theorem files_on (M : List (List Nat × Int)) (d : List (List UInt8 × Int)) : filesE (onB M d) (onD 0 d) = safeE M d := by
  have : ∀ (r p : List (List UInt8 × Int)), filesE (onB M (p ++ r)) (onD p.length r) = safeE M r := by
    intro r
    induction r with
    | nil => intro p; rfl
    | cons e r ih =>
      intro p
      have h := ih (p ++ [e])
      rw [List.append_assoc, List.length_append] at h
      unfold filesE at h ⊢
      rw [onD, List.map_cons, safeE, List.map_cons]
      refine congr (congrArg List.cons ?_) h
      simp only [Int.toNat_natCast, onB, List.map_append, List.map_cons, List.getD_eq_getElem?_getD]
      rw [List.getElem?_append_right (by simp)]
      simp
  exact this d []

theorem ne_row {T : Type} {sh : Shape T} {ty : TypeId} {V : World} {j base c' : Nat} {A' : Option Addr} {R : List T} (ho : OwnG sh ty V base A' c' R) {p : Nat} {cs : Array Value} {t : TypeId} {fr : Nat × Nat} (hr : V.heap[p]? = some (.cells cs t fr)) (hT : t ≠ ty) : some p ≠ (Value.slice A' j c').ownBlock := fun e => by
  cases A' with
  | none => simp [Value.ownBlock] at e
  | some a =>
    simp only [Value.ownBlock] at e
    exact ownG_ne ho hr hT a rfl e.symm
theorem BdO.pushed {T : Type} {sh : Shape T} {ty : TypeId} {V w5 : World} {j b0 base c' : Nat} {A' : Option Addr} {R : List T} {bs : List (Sl × Int)} (h : BdO V b0 bs) (ho : OwnG sh ty V base A' c' R) (hT : 5 ≠ ty) (hg : V.grownBy w5 (Value.slice A' j c').ownBlock) : BdO w5 b0 bs :=
  ⟨fun p hp => ⟨(h.own p hp).1.grown hg (fun a ha => by
    obtain ⟨cur, hc⟩ := (h.own p hp).1.ty a ha
    exact ne_row ho hc hT), (h.own p hp).2⟩⟩
theorem OwnG.pushed {T U : Type} {sh : Shape T} {sh2 : Shape U} {ty ty2 : TypeId} {V w5 : World} {j b0 base c' c2 : Nat} {A' A2 : Option Addr} {R : List T} {R2 : List U} (h : OwnG sh2 ty2 V b0 A2 c2 R2) (ho : OwnG sh ty V base A' c' R) (hT : ty2 ≠ ty) (hg : V.grownBy w5 (Value.slice A' j c').ownBlock) : OwnG sh2 ty2 w5 b0 A2 c2 R2 :=
  h.grown hg (fun a ha => by
    obtain ⟨cur, hc⟩ := h.ty a ha
    exact ne_row ho hc hT)
/-- The memory of the loop. -/
structure OnI (w V : World) (g : Nat) (A1 : Option Addr) (c1 n1 : Nat) (bs1 : List (Sl × Int)) (A2 : Option Addr) (c2 n2 : Nat) (D : List (List UInt8 × Int)) (B0 D0 : Value) (room st : Int) : Prop where
  hr : RdAt V g (.slice A1 n1 c1) (.slice A2 n2 c2) room st
  o1 : OwnG shBd 77 V w.heap.size A1 c1 bs1
  b1 : BdO V w.heap.size bs1
  o2 : OwnG shE 114 V w.heap.size A2 c2 D
  h0 : RdAt V w.heap.size B0 D0 room st
  hz : V.heap[w.heap.size + 1]? = some (.cells #[.slice none 0 0, .slice none 0 0, .slice none 0 0, .int .i64 0, .slice none 0 0, .int .i64 0, .bool false] 59 (0, 0))
  ex : Ext w V
section
variable {w V V' : World} {g c1 c2 n1 n2 : Nat} {A1 A2 : Option Addr} {bs1 : List (Sl × Int)} {D : List (List UInt8 × Int)} {B0 D0 : Value} {room st : Int}
theorem OnI.to (h : OnI w V g A1 c1 n1 bs1 A2 c2 n2 D B0 D0 room st) (he : Ext V V') : OnI w V' g A1 c1 n1 bs1 A2 c2 n2 D B0 D0 room st :=
  ⟨h.hr.to he, h.o1.ext he, h.b1.ext he, h.o2.ext he, h.h0.to he, (he.block _ (Array.getElem?_eq_some_iff.1 h.hz).1).trans h.hz, h.ex.trans he⟩
theorem OnI.cell0 {A5 : Option Addr} {c5 k : Nat} {p : Sl × Int} (h : RdAt V g (.slice A1 n1 c1) (.slice A2 n2 c2) room st ∧ BdO V w.heap.size (bs1 ++ [p]) ∧ OwnG shE 114 V w.heap.size A2 c2 D ∧ RdAt V w.heap.size B0 D0 room st ∧ V.heap[w.heap.size + 1]? = some (.cells #[.slice none 0 0, .slice none 0 0, .slice none 0 0, .int .i64 0, .slice none 0 0, .int .i64 0, .bool false] 59 (0, 0)) ∧ Ext w V) (hg : w.heap.size + 1 < g) (ho : OwnG shBd 77 V w.heap.size A5 c5 (bs1 ++ [p])) : OnI w (V.setCell ⟨g, 0, none⟩ (.slice A5 k c5)) g A5 c5 k (bs1 ++ [p]) A2 c2 n2 D B0 D0 room st := by
  obtain ⟨hr, hb, o2, h0, hz, ex⟩ := h
  have hG := setCell_grown V ⟨g, 0, none⟩ (.slice A5 k c5)
  refine ⟨.of ?_, ho.grown hG (ownG_ne ho hr.row (by decide)), hb.grown hG hr.row (by decide), o2.grown hG (ownG_ne o2 hr.row (by decide)), .of ((hG.block _ h0.lt (fun e => by have := Option.some.inj e; simp only at this; omega)).trans h0.row), (hG.block _ (Array.getElem?_eq_some_iff.1 hz).1 (fun e => by have := Option.some.inj e; simp only at this; omega)).trans hz, ex.setCell (by simp only; omega) _⟩
  rw [heap_setCell_same _ g 0 _ _ _ hr.row]
  rfl
theorem OnI.cell1 {A5 : Option Addr} {c5 k : Nat} {D' : List (List UInt8 × Int)} (h : RdAt V g (.slice A1 n1 c1) (.slice A2 n2 c2) room st ∧ OwnG shBd 77 V w.heap.size A1 c1 bs1 ∧ BdO V w.heap.size bs1 ∧ RdAt V w.heap.size B0 D0 room st ∧ V.heap[w.heap.size + 1]? = some (.cells #[.slice none 0 0, .slice none 0 0, .slice none 0 0, .int .i64 0, .slice none 0 0, .int .i64 0, .bool false] 59 (0, 0)) ∧ Ext w V) (hg : w.heap.size + 1 < g) (ho : OwnG shE 114 V w.heap.size A5 c5 D') : OnI w (V.setCell ⟨g, 1, none⟩ (.slice A5 k c5)) g A1 c1 n1 bs1 A5 c5 k D' B0 D0 room st := by
  obtain ⟨hr, o1, b1, h0, hz, ex⟩ := h
  have hG := setCell_grown V ⟨g, 1, none⟩ (.slice A5 k c5)
  refine ⟨.of ?_, o1.grown hG (ownG_ne o1 hr.row (by decide)), b1.grown hG hr.row (by decide), ho.grown hG (ownG_ne ho hr.row (by decide)), .of ((hG.block _ h0.lt (fun e => by have := Option.some.inj e; simp only at this; omega)).trans h0.row), (hG.block _ (Array.getElem?_eq_some_iff.1 hz).1 (fun e => by have := Option.some.inj e; simp only at this; omega)).trans hz, ex.setCell (by simp only; omega) _⟩
  rw [heap_setCell_same _ g 1 _ _ _ hr.row]
  rfl
/-- Behind an append to the bodies (ahead of its store). -/
theorem OnI.push1 (h : OnI w V g A1 c1 n1 bs1 A2 c2 n2 D B0 D0 room st) (hg : V.grownBy V' (Value.slice A1 n1 c1).ownBlock) (hx : Ext w V') {A5 : Option Addr} {c5 : Nat} {p : Sl × Int} (_ho : OwnG shBd 77 V' w.heap.size A5 c5 (bs1 ++ [p])) (hp : BdO V w.heap.size [p]) :
    RdAt V' g (.slice A1 n1 c1) (.slice A2 n2 c2) room st ∧ BdO V' w.heap.size (bs1 ++ [p]) ∧ OwnG shE 114 V' w.heap.size A2 c2 D ∧ RdAt V' w.heap.size B0 D0 room st ∧ V'.heap[w.heap.size + 1]? = some (.cells #[.slice none 0 0, .slice none 0 0, .slice none 0 0, .int .i64 0, .slice none 0 0, .int .i64 0, .bool false] 59 (0, 0)) ∧ Ext w V' :=
  ⟨h.hr.pushed h.o1 (by decide) hg, ⟨fun q hq => by
    rcases List.mem_append.1 hq with hq | hq
    · exact (h.b1.pushed h.o1 (by decide) hg).own q hq
    · exact (hp.pushed h.o1 (by decide) hg).own q hq⟩, h.o2.pushed h.o1 (by decide) hg, h.h0.pushed h.o1 (by decide) hg, (hg.block _ (Array.getElem?_eq_some_iff.1 h.hz).1 (ne_row h.o1 h.hz (by decide))).trans h.hz, hx⟩
/-- Behind an append to the directory. -/
theorem OnI.push2 (h : OnI w V g A1 c1 n1 bs1 A2 c2 n2 D B0 D0 room st) (hg : V.grownBy V' (Value.slice A2 n2 c2).ownBlock) (hx : Ext w V') :
    RdAt V' g (.slice A1 n1 c1) (.slice A2 n2 c2) room st ∧ OwnG shBd 77 V' w.heap.size A1 c1 bs1 ∧ BdO V' w.heap.size bs1 ∧ RdAt V' w.heap.size B0 D0 room st ∧ V'.heap[w.heap.size + 1]? = some (.cells #[.slice none 0 0, .slice none 0 0, .slice none 0 0, .int .i64 0, .slice none 0 0, .int .i64 0, .bool false] 59 (0, 0)) ∧ Ext w V' :=
  ⟨h.hr.pushed h.o2 (by decide) hg, h.o1.pushed h.o2 (by decide) hg, h.b1.pushed h.o2 (by decide) hg, h.h0.pushed h.o2 (by decide) hg, (hg.block _ (Array.getElem?_eq_some_iff.1 h.hz).1 (ne_row h.o2 h.hz (by decide))).trans h.hz, hx⟩
end

theorem bdM_snoc (bs : List (Sl × Int)) (p : Sl × Int) : bdM (bs ++ [p]) = bdM bs ++ [(p.1.body, p.2)] := by unfold bdM; rw [List.map_append]; rfl
theorem onB_snoc (M : List (List Nat × Int)) (d : List (List UInt8 × Int)) (e : List UInt8 × Int) : onB M (d ++ [e]) = onB M d ++ [((M.getD e.2.toNat ([], 0)).1.take (M.getD e.2.toNat ([], 0)).2.toNat, (M.getD e.2.toNat ([], 0)).2)] := by unfold onB; rw [List.map_append]; rfl

set_option maxHeartbeats 25600000 in
theorem ron_any {w : World} {Ab : Option Addr} {nb : Nat} {bs : List (Sl × Int)} {Ad : Option Addr} {n : Nat} {d : List (List UInt8 × Int)} (h : RdD w Ab nb bs Ad n d) (hsf : ∀ p ∈ bs, U8 p.1.body ∧ ∃ s : Nat, p.2 = (s : Int) ∧ s ≤ p.1.body.length) (cb cd : Nat) (room st : Int) (hn : n ≤ 1000000) :
    Calls Try.prog 37 #[rdV (.slice Ab nb cb) (.slice Ad n cd) room st, .slice none 0 0] w fun e w' => ∃ A1 c1 bs1 A2 c2, e = .returned (rdV (.slice A1 n c1) (.slice A2 n c2) room st) ∧ OwnG shBd 77 w' w.heap.size A1 c1 bs1 ∧ BdO w' w.heap.size bs1 ∧ bdM bs1 = onB (bdM bs) d ∧ OwnG shE 114 w' w.heap.size A2 c2 (onD 0 d) ∧ Ext w w' := by
  have HD := Lib.hid h
  have Hl := Lib.hid h.rd.len
  have HS := Lib.hid hsf
  clear h hsf
  unfold rdV rdC
  obtain ⟨W0, hW0⟩ : ∃ W0, W0 = (w.alloc (.cells #[.slice Ab nb cb, (.slice Ad n cd), .slice none 0 0, .int .i64 room, .slice none 0 0, .int .i64 st, .bool false] 59)).alloc (.cells #[.slice none 0 0, .slice none 0 0, .slice none 0 0, .int .i64 0, .slice none 0 0, .int .i64 0, .bool false] 59) := ⟨_, rfl⟩
  have hat0 := (RdAt.new w (.slice Ab nb cb) (.slice Ad n cd) room st).to ((Ext.refl _).alloc (.cells #[.slice none 0 0, .slice none 0 0, .slice none 0 0, .int .i64 0, .slice none 0 0, .int .i64 0, .bool false] 59))
  rw [← hW0] at hat0
  have hat := Lib.hid hat0
  have HZ0 : Hid (W0.heap[w.heap.size + 1]? = some (.cells #[.slice none 0 0, .slice none 0 0, .slice none 0 0, .int .i64 0, .slice none 0 0, .int .i64 0, .bool false] 59 (0, 0))) := Lib.hid (by
    rw [hW0]
    have q := heap_alloc_new (w.alloc (.cells #[.slice Ab nb cb, (.slice Ad n cd), .slice none 0 0, .int .i64 room, .slice none 0 0, .int .i64 st, .bool false] 59)) (.cells #[.slice none 0 0, .slice none 0 0, .slice none 0 0, .int .i64 0, .slice none 0 0, .int .i64 0, .bool false] 59)
    simpa using q)
  have HE0 : Hid (Ext w W0) := Lib.hid (by rw [hW0]; exact ((Ext.refl w).alloc _).alloc _)
  have CA : Hid (∀ W k, Calls Try.prog 73 #[.agg #[.slice Ab nb cb, .slice Ad n cd, .slice none 0 0, .int .i64 room, .slice none 0 0, .int .i64 st, .bool false], .int .i64 k] W fun e w' => e = .returned (.slice Ad n cd) ∧ Ext W w') := Lib.hid (fun W k => rafter_any W (.slice Ab nb cb) (.slice Ad n cd) room st k)
  have HW0 := Lib.hid hW0
  clear hat0 hW0
  go_enter Try.func37, Try.ntmps37
  go_wp2_with fail
  rw [← HW0.out]
  have HC7 : Hid (∀ W, Ext W0 W → W.cell? ⟨w.heap.size, 0, none⟩ = some (.slice Ab nb cb) ∧ W.cell? ⟨w.heap.size, 1, none⟩ = some (.slice Ad n cd) ∧ W.cell? ⟨w.heap.size, 2, none⟩ = some (.slice none 0 0) ∧ W.cell? ⟨w.heap.size, 3, none⟩ = some (.int .i64 room) ∧ W.cell? ⟨w.heap.size, 4, none⟩ = some (.slice none 0 0) ∧ W.cell? ⟨w.heap.size, 5, none⟩ = some (.int .i64 st) ∧ W.cell? ⟨w.heap.size, 6, none⟩ = some (.bool false)) := Lib.hid (fun W hW => by
    have hh := (hat.out.to hW).row
    exact ⟨cell_of_row W _ 0 _ _ (0, 0) hh, cell_of_row W _ 1 _ _ (0, 0) hh, cell_of_row W _ 2 _ _ (0, 0) hh, cell_of_row W _ 3 _ _ (0, 0) hh, cell_of_row W _ 4 _ _ (0, 0) hh, cell_of_row W _ 5 _ _ (0, 0) hh, cell_of_row W _ 6 _ _ (0, 0) hh⟩)
  go_region_held3 (fun W => W.cell? ⟨w.heap.size, 0, none⟩ = some (.slice Ab nb cb) ∧ W.cell? ⟨w.heap.size, 1, none⟩ = some (.slice Ad n cd) ∧ W.cell? ⟨w.heap.size, 2, none⟩ = some (.slice none 0 0) ∧ W.cell? ⟨w.heap.size, 3, none⟩ = some (.int .i64 room) ∧ W.cell? ⟨w.heap.size, 4, none⟩ = some (.slice none 0 0) ∧ W.cell? ⟨w.heap.size, 5, none⟩ = some (.int .i64 st) ∧ W.cell? ⟨w.heap.size, 6, none⟩ = some (.bool false))
    (first | exact HC7.out _ (Ext.refl _).drew | exact HC7.out _ HX1.out | fail)
    (first
      | (go_at_call 74; refine (rkeep_nil 0 (by decide) _).mono ?_; rintro e v0 ⟨rfl, rfl⟩)
      | (go_at_call 73; refine (CA.out _ _).mono ?_; rintro e v1 ⟨rfl, he⟩; have HX1 : Hid (Ext W0 v1) := Lib.hid ((Ext.refl W0).drew.trans he); clear he)
      | fail)
  obtain ⟨c0, c1, c2, c3, c4, c5, c6⟩ := HC7.out _ HX1.out
  obtain ⟨g, hg⟩ : ∃ g, g = v1.heap.size := ⟨_, rfl⟩
  have HZ1 : Hid (v1.heap[w.heap.size + 1]? = some (.cells #[.slice none 0 0, .slice none 0 0, .slice none 0 0, .int .i64 0, .slice none 0 0, .int .i64 0, .bool false] 59 (0, 0))) := Lib.hid ((HX1.out.block _ (Array.getElem?_eq_some_iff.1 HZ0.out).1).trans HZ0.out)
  have HN := Lib.hid (heap_alloc_new v1 (.cells #[.slice none 0 0, .slice none 0 0, .slice none 0 0, .int .i64 0, .slice none 0 0, .int .i64 0, .bool false] 59))
  go_wp2_with (first
    | (refine wpList_store_row rfl 59 _ _ rfl v1.heap.size #[.slice none 0 0, .slice none 0 0, .slice none 0 0, .int .i64 room, .slice none 0 0, .int .i64 st, .bool false] rfl rfl 59 _ HN.out (by kernel_rfl) rfl (by simp [Value.oneCell']) ?_)
    | fail)
  obtain ⟨W1, hW1⟩ : ∃ W1, W1 = (v1.alloc (.cells #[.slice none 0 0, .slice none 0 0, .slice none 0 0, .int .i64 0, .slice none 0 0, .int .i64 0, .bool false] 59)).setRow v1.heap.size #[.slice none 0 0, .slice none 0 0, .slice none 0 0, .int .i64 room, .slice none 0 0, .int .i64 st, .bool false] := ⟨_, rfl⟩
  have hz1 : w.heap.size + 1 < v1.heap.size := (Array.getElem?_eq_some_iff.1 HZ1.out).1
  have HE1 : Hid (Ext v1 W1) := Lib.hid (by rw [hW1]; exact ((Ext.refl v1).alloc _).setRow (Nat.le_refl _) _)
  have HR1 : Hid (RdAt W1 g (.slice none 0 0) (.slice none 0 0) room st) := Lib.hid (.of (by rw [hW1, hg]; exact setRow_heap _ _ _ _ 59 (0, 0) HN.out))
  have HR0 : Hid (RdAt W1 w.heap.size (.slice Ab nb cb) (.slice Ad n cd) room st) := Lib.hid ((hat.out.to HX1.out).to HE1.out)
  have HZw : Hid (W1.heap[w.heap.size + 1]? = some (.cells #[.slice none 0 0, .slice none 0 0, .slice none 0 0, .int .i64 0, .slice none 0 0, .int .i64 0, .bool false] 59 (0, 0))) := Lib.hid ((HE1.out.block _ hz1).trans HZ1.out)
  have HEw : Hid (Ext w W1) := Lib.hid ((HE0.out.trans HX1.out).trans HE1.out)
  have Hg : Hid (w.heap.size + 1 < g) := Lib.hid (by rw [hg]; exact hz1)
  rw [← hW1, ← hg]
  clear hW1 hz1 HE1 HN hg c0 c1 c2 c3 c4 c5 c6 HX1 HZ1 HC7 hat HZ0 HE0 HW0 CA
  have HI1 : Hid (OnI w W1 g none 0 0 [] none 0 0 [] (.slice Ab nb cb) (.slice Ad n cd) room st) := Lib.hid ⟨HR1.out, OwnG.nil _ _ _ _, ⟨fun p hp => by cases hp⟩, OwnG.nil _ _ _ _, HR0.out, HZw.out, HEw.out⟩
  go_loopw [7, 8, 9] (fun i _ _ wr => ∃ (j : Nat) (A1 : Option Addr) (c1 : Nat) (bs1 : List (Sl × Int)) (A2 : Option Addr) (c2 : Nat), j ≤ n ∧ i = .int .i64 (j : Int) ∧ Hid (bdM bs1 = onB (bdM bs) (d.take j)) ∧ Hid (OnI w wr g A1 c1 j bs1 A2 c2 j (onD 0 (d.take j)) (.slice Ab nb cb) (.slice Ad n cd) room st)) (fun i _ _ _ => n - (intOf i).toNat)
  case atStart => exact ⟨0, none, 0, [], none, 0, Nat.zero_le _, rfl, Lib.hid rfl, HI1⟩
  case round =>
    obtain ⟨j, A1, c1, bs1, A2, c2, hj, rfl, HM1, HI⟩ := hrel
    have HE := Lib.hid HI.out.ex
    have HA := Lib.hid HI.out.h0
    by_cases hlt : j < n
    · obtain ⟨b, o, r, hA, hbl, hx, hcx⟩ := HD.out.rd.at_ hlt
      obtain ⟨k, hk, hkn⟩ := HD.out.rid r (List.mem_of_getElem? hx)
      have q0 : w.cell? ⟨b, o + j * 2, none⟩ = some (nm r.1) := by simpa [shE] using hcx 0 _ rfl
      have q1 : w.cell? ⟨b, o + j * 2 + 1, none⟩ = some (.int .i64 (k : Int)) := by rw [← hk]; simpa [shE] using hcx 1 _ rfl
      obtain ⟨b2, o2, s, hA2, hbl2, hx2, hcx2⟩ := HD.out.rb.at_ hkn
      obtain ⟨hu, sf, hsf, hsl⟩ := HS.out s (List.mem_of_getElem? hx2)
      have q2 : w.cell? ⟨b2, o2 + k * 2, none⟩ = some (.slice s.1.A s.1.body.length s.1.c) := by simpa [shBd, Sl.v] using hcx2 0 _ rfl
      have q3 : w.cell? ⟨b2, o2 + k * 2 + 1, none⟩ = some (.int .i64 (sf : Int)) := by rw [← hsf]; simpa [shBd] using hcx2 1 _ rfl
      rw [hA]
      obtain ⟨hb2, hb4⟩ := HD.out.rbd s (List.mem_of_getElem? hx2)
      have HMk : Hid ((bdM bs).getD r.2.toNat ([], 0) = (s.1.body, (sf : Int))) := Lib.hid (by
        rw [hk, Int.toNat_natCast, List.getD_eq_getElem?_getD]
        unfold bdM
        rw [List.getElem?_map, hx2, ← hsf]
        rfl)
      obtain ⟨mb, hmb⟩ : ∃ m, m = s.1.body.length := ⟨_, rfl⟩
      rw [← hmb] at q2 hb2 hb4 hsl
      have HF9 : Hid (∀ W, Ext w W → W.cell? ⟨b, o + j * 2, none⟩ = some (nm r.1) ∧ W.cell? ⟨b, o + j * 2 + 1, none⟩ = some (.int .i64 (k : Int)) ∧ W.cell? ⟨b2, o2 + k * 2, none⟩ = some (.slice s.1.A mb s.1.c) ∧ W.cell? ⟨b2, o2 + k * 2 + 1, none⟩ = some (.int .i64 (sf : Int))) := Lib.hid (fun W hW => ⟨(Below.cell hW (p := ⟨b, o + j * 2, none⟩) hbl).trans q0, (Below.cell hW (p := ⟨b, o + j * 2 + 1, none⟩) hbl).trans q1, (Below.cell hW (p := ⟨b2, o2 + k * 2, none⟩) hbl2).trans q2, (Below.cell hW (p := ⟨b2, o2 + k * 2 + 1, none⟩) hbl2).trans q3⟩)
      have HC9 : Hid (∀ W, Ext wr W → W.cell? ⟨w.heap.size, 0, none⟩ = some (.slice (some ⟨b2, o2, none⟩) nb cb)) := Lib.hid (fun W hW => by rw [← hA2]; exact (HA.out.to hW).c0)
      have Hmb := Lib.hid hmb
      have Hlt := Lib.hid hlt
      have HAd := Lib.hid hA
      have Hx := Lib.hid hx
      clear hA hA2 hbl hx hcx q0 q1 q2 q3 hmb hlt hbl2 hx2 hcx2 hk hsf
      go_wp2_with fail
      go_region_held3 (fun W => W.cell? ⟨b, o + j * 2 + 1, none⟩ = some (.int .i64 (k : Int)) ∧ W.cell? ⟨b2, o2 + k * 2, none⟩ = some (.slice s.1.A mb s.1.c) ∧ W.cell? ⟨b2, o2 + k * 2 + 1, none⟩ = some (.int .i64 (sf : Int)) ∧ W.cell? ⟨w.heap.size, 0, none⟩ = some (.slice (some ⟨b2, o2, none⟩) nb cb))
        (first
          | exact ⟨(HF9.out _ HE.out.drew).2.1, (HF9.out _ HE.out.drew).2.2.1, (HF9.out _ HE.out.drew).2.2.2, HC9.out _ (Ext.refl _).drew⟩
          | exact ⟨(HF9.out _ (HE.out.drew.alloc _)).2.1, (HF9.out _ (HE.out.drew.alloc _)).2.2.1, (HF9.out _ (HE.out.drew.alloc _)).2.2.2, HC9.out _ ((Ext.refl _).drew.alloc _)⟩
          | fail)
        (fail)
      obtain ⟨W6, hW6⟩ : ∃ W6, W6 = (wr.alloc (.cells #[.slice s.1.A mb s.1.c, .int .i64 (sf : Int)] 77)).drew := ⟨_, rfl⟩
      have HX6 : Hid (Ext (wr.alloc (.cells #[.slice s.1.A mb s.1.c, .int .i64 (sf : Int)] 77)) W6) := Lib.hid (by rw [hW6]; exact (Ext.refl _).drew)
      have HXr : Hid (Ext wr W6) := Lib.hid (((Ext.refl wr).alloc _).trans HX6.out)
      have HDt : Hid (d.take (j + 1) = d.take j ++ [r]) := Lib.hid (by rw [List.take_add_one, Hx.out]; rfl)
      have HL1 : Hid (bs1.length = j) := Lib.hid (by
        have q := congrArg List.length HM1.out
        unfold bdM onB at q
        rw [List.length_map, List.length_map, List.length_take, Hl.out] at q
        omega)
      have HL2 : Hid ((onD 0 (d.take j)).length = j) := Lib.hid (by rw [onD_len, List.length_take, Hl.out]; omega)
      have hbd1 : ((j + 1) + (j + 1) / 4 + 192) * 32 ≤ 281474976710656 := bd32 (by omega)
      have hbd2 : ((j + 1) + (j + 1) / 4 + 192) * 24 ≤ 281474976710656 := bd24 (by omega)
      have HPl : Hid ((piece s.1.body 0 (sf : Int)).length = sf) := Lib.hid (by unfold piece; rw [Int.toNat_natCast, Int.toNat_zero, List.drop_zero, List.length_take, ← Hmb.out]; omega)
      have HPe : Hid (piece s.1.body 0 (sf : Int) = s.1.body.take sf) := Lib.hid (by unfold piece; rw [Int.toNat_natCast, Int.toNat_zero, List.drop_zero])
      have HB2 := Lib.hid hb2
      have CP : Hid (∀ W, Ext w W → Calls Try.prog 19 #[.slice s.1.A mb s.1.c, .int .i64 0, .int .i64 (sf : Int)] W fun e w' => ∃ A' c', e = .returned (.slice A' sf c') ∧ Own .u8 5 w' W.heap.size A' c' (s.1.body.take sf) ∧ Ext W w') := Lib.hid (fun W hW => (piece_any s.1.A mb s.1.c 0 (sf : Int) s.1.body W (HB2.out.ext hW) hb4 (by decide)).mono (by rintro e w' ⟨A', c', rfl, h1, h2⟩; rw [HPl.out]; rw [HPe.out] at h1; exact ⟨A', c', rfl, h1, h2⟩))
      have HU2 : Hid (U8 (s.1.body.take sf)) := Lib.hid (fun v hv => hu v (List.mem_of_mem_take hv))
      have HF0 : Hid (∀ W, Ext (wr.alloc (Obj.cells #[.slice s.1.A mb s.1.c, .int .i64 (sf : Int)] 77)) W → W.cell? ⟨wr.heap.size, 0, none⟩ = some (.slice s.1.A mb s.1.c) ∧ W.cell? ⟨wr.heap.size, 1, none⟩ = some (.int .i64 (sf : Int))) := Lib.hid (fun W hW => by
        have hh := (hW.block _ (by simp)).trans (heap_alloc_new wr (.cells #[.slice s.1.A mb s.1.c, .int .i64 (sf : Int)] 77))
        exact ⟨cell_of_row W _ 0 _ _ (0, 0) hh, cell_of_row W _ 1 _ _ (0, 0) hh⟩)
      rw [← hW6]
      clear hW6 hb2
      obtain ⟨f0, f1⟩ := HF0.out W6 HX6.out
      have hw1 : IntKind.i64.wrap ((mb : Int) - (sf : Int)) = (mb : Int) - (sf : Int) := IntWalk.i64_in _ (by omega)
      have hw2 : IntKind.i64.wrap ((j : Int) + 1) = (j : Int) + 1 := IntWalk.i64_in _ (by omega)
      have hw3 : IntKind.i64.wrap ((sf : Int) + 0) = (sf : Int) := IntWalk.i64_in _ (by omega)
      have hw4 : IntKind.i64.wrap (sf : Int) = (sf : Int) := IntWalk.i64_in _ (by omega)
      have CK : Hid (∀ W, Calls Try.prog 74 #[.slice none 0 0, .int .i64 ((j : Int) + 1)] W fun e w' => e = .returned (.int .i64 0) ∧ W = w') := Lib.hid (fun W => rkeep_nil _ (by omega) W)
      go_wp2_with fail
      go_region_held3 (fun W => W.cell? ⟨wr.heap.size, 1, none⟩ = some (.int .i64 (sf : Int)))
        (first | exact (HF0.out _ HX6.out).2 | exact (HF0.out _ HX6.out.drew).2 | fail)
        (first
          | (go_at_call 74; refine (CK.out _).mono ?_; rintro e v0 ⟨rfl, rfl⟩)
          | fail)
      by_cases hs : sf < mb
      · go_wp2_with fail
        go_region_held3 (fun W => W.cell? ⟨wr.heap.size, 1, none⟩ = some (.int .i64 (sf : Int)))
          (first | exact (HF0.out _ HX6.out).2 | exact (HF0.out _ HX6.out.drew).2 | exact (HF0.out _ HX6.out.drew.drew).2 | fail)
          (first
            | (go_at_call 74; refine (CK.out _).mono ?_; rintro e v0 ⟨rfl, rfl⟩)
            | fail)
        obtain ⟨V, hV⟩ : ∃ V, V = W6.drew.drew := ⟨_, rfl⟩
        have HX7 : Hid (Ext W6 V) := Lib.hid (by rw [hV]; exact (Ext.refl W6).drew.drew)
        rw [← hV]
        clear hV
        have HIV := Lib.hid (HI.out.to (HXr.out.trans HX7.out))
        obtain ⟨f0, f1⟩ := HF0.out V.drew (HX6.out.trans HX7.out.drew)
        have g0 := (HIV.out.hr.to (Ext.refl V).drew).c0
        clear hw1 hw2 hw3 hw4 CK
        go_wp2_with fail
        go_region_law
          (first
            | (go_simp; go_at_call 19; refine (CP.out _ HIV.out.ex.drew).mono ?_; rintro e v8 ⟨A8, c8, rfl, ho8, he8⟩; have HO8 := Lib.hid ho8; have HX8 : Hid (Ext V v8) := Lib.hid ((Ext.refl V).drew.trans he8); have g0 := (HIV.out.to HX8.out).hr.c0; have g1 := ((HIV.out.to HX8.out).to ((Ext.refl _).alloc (.cells #[.slice A8 sf c8, .int .i64 (sf : Int)] 77))).hr.c0; clear ho8 he8)
            | (refine step_pushG (w0 := w) (base := w.heap.size) shBd (⟨A8, c8, s.1.body.take sf⟩, (sf : Int)) 77 (by rfl) _ _ 55 (by rfl) _ 32 Try.underlying55 Try.infoBd rfl (by decide) ((HIV.out.o1.ext HX8.out).ext ((Ext.refl _).alloc _)) j HL1.out (by rfl) (by rfl) (by rw [show (shBd.cells (⟨A8, c8, s.1.body.take sf⟩, (sf : Int))).toArray = #[.slice A8 sf c8, .int .i64 (sf : Int)] from by rw [← HPe.out] at *; exact (congrArg (fun z : Nat => (#[Value.slice A8 z c8, Value.int .i64 (sf : Int)] : Array Value)) HPl.out)]; exact heap_alloc_new _ _) hbd1 (by omega) ((HIV.out.to HX8.out).ex.alloc _) (by simp; have := (HIV.out.to HX8.out).ex.size; omega) ?_; intro A9 c9 w9 ho9 hg9 hb9 _; have HP9 := Lib.hid (((HIV.out.to HX8.out).to ((Ext.refl _).alloc _)).push1 hg9 hb9 ho9 ⟨fun q hq => by rw [List.mem_singleton] at hq; rw [hq]; exact ⟨((HO8.out.ext ((Ext.refl _).alloc _)).mono (HIV.out.ex.size)), HU2.out, by simp only [List.length_take]; rw [← Hmb.out]; omega⟩⟩); have g0 := HP9.out.1.c0; have z0 : w9.frozen? ⟨g, 0, none⟩ = false := (by simp [World.frozen?, HP9.out.1.row]); have HO9 := Lib.hid ho9; clear ho9 hg9 hb9)
            | fail)
        all_goals
          have HI9 := Lib.hid (OnI.cell0 (k := j + 1) HP9.out Hg.out HO9.out)
          obtain ⟨V9, hV9⟩ : ∃ V9, V9 = w9.setCell ⟨g, 0, none⟩ (.slice A9 (j + 1) c9) := ⟨_, rfl⟩
          rw [← hV9] at HI9
          rw [← hV9]
          clear hV9 g0 g1 z0 f0 f1 HP9 HO9
          have g0 := (HI9.out.to (Ext.refl V9).drew).hr.c1
          have n0 := (HF9.out _ HI9.out.ex.drew).1
          have g1 := ((HI9.out.to ((Ext.refl V9).alloc (.cells #[nm r.1, .int .i64 (j : Int)] 114))).to (Ext.refl _).drew).hr.c1
          go_wp2_with fail
          go_region_law
            (first
              | (refine step_pushG (w0 := w) (base := w.heap.size) shE (r.1, (j : Int)) 114 (by rfl) _ _ 56 (by rfl) _ 24 Try.underlying56 Try.infoE rfl (by decide) ((HI9.out.o2.ext (Ext.refl V9).drew).ext ((Ext.refl _).alloc _)) j HL2.out (by rfl) (by rfl) (heap_alloc_new _ _) hbd2 (by omega) ((HI9.out.to (Ext.refl V9).drew).ex.alloc _) (by simp; have := HI9.out.ex.size; omega) ?_; intro Aa ca wa hoa hga hba _; have HPa := Lib.hid (((HI9.out.to (Ext.refl V9).drew).to ((Ext.refl _).alloc _)).push2 hga hba); have g0 := HPa.out.1.c1; have z0 : wa.frozen? ⟨g, 1, none⟩ = false := (by simp [World.frozen?, HPa.out.1.row]); have HOa := Lib.hid hoa; clear hoa hga hba)
              | fail)
          all_goals
            have HIa := Lib.hid (OnI.cell1 (k := j + 1) HPa.out Hg.out HOa.out)
            obtain ⟨Va, hVa⟩ : ∃ Va, Va = wa.setCell ⟨g, 1, none⟩ (.slice Aa (j + 1) ca) := ⟨_, rfl⟩
            rw [← hVa] at HIa
            rw [← hVa]
            clear hVa g0 g1 n0 z0 HPa HOa
            go_wp2_with fail
            go_roundw
            case rel =>
              refine ⟨j + 1, A9, c9, bs1 ++ [(⟨A8, c8, s.1.body.take sf⟩, (sf : Int))], Aa, ca, by have := Hlt.out; omega, by go_num, Lib.hid ?_, Lib.hid ?_⟩
              rotate_left
              · have q := HIa.out
                have e : onD 0 (d.take j) ++ [(r.1, (j : Int))] = onD 0 (d.take (j + 1)) := by
                  rw [HDt.out, onD_snoc, List.length_take, Hl.out, Nat.zero_add, Nat.min_eq_left hj]
                rw [e, HAd.out] at q
                exact q
              · rw [bdM_snoc, HM1.out, HDt.out, onB_snoc, HMk.out]
                simp only [Int.toNat_natCast]
            case measure => simp [intOf]; have := Hlt.out; omega
      · have e : (mb : Int) = (sf : Int) := by omega
        go_wp2_with fail
        rw [e]
        obtain ⟨V, hV⟩ : ∃ V, V = W6.drew := ⟨_, rfl⟩
        have HX7 : Hid (Ext W6 V) := Lib.hid (by rw [hV]; exact (Ext.refl W6).drew)
        rw [← hV]
        clear hV
        have HIV := Lib.hid (HI.out.to (HXr.out.trans HX7.out))
        obtain ⟨f0, f1⟩ := HF0.out V.drew (HX6.out.trans HX7.out.drew)
        have g0 := (HIV.out.hr.to (Ext.refl V).drew).c0
        clear hw1 hw2 hw3 hw4 CK
        go_wp2_with fail
        go_region_law
          (first
            | (go_simp; go_at_call 19; refine (CP.out _ HIV.out.ex.drew).mono ?_; rintro e v8 ⟨A8, c8, rfl, ho8, he8⟩; have HO8 := Lib.hid ho8; have HX8 : Hid (Ext V v8) := Lib.hid ((Ext.refl V).drew.trans he8); have g0 := (HIV.out.to HX8.out).hr.c0; have g1 := ((HIV.out.to HX8.out).to ((Ext.refl _).alloc (.cells #[.slice A8 sf c8, .int .i64 (sf : Int)] 77))).hr.c0; clear ho8 he8)
            | (refine step_pushG (w0 := w) (base := w.heap.size) shBd (⟨A8, c8, s.1.body.take sf⟩, (sf : Int)) 77 (by rfl) _ _ 55 (by rfl) _ 32 Try.underlying55 Try.infoBd rfl (by decide) ((HIV.out.o1.ext HX8.out).ext ((Ext.refl _).alloc _)) j HL1.out (by rfl) (by rfl) (by rw [show (shBd.cells (⟨A8, c8, s.1.body.take sf⟩, (sf : Int))).toArray = #[.slice A8 sf c8, .int .i64 (sf : Int)] from by rw [← HPe.out] at *; exact (congrArg (fun z : Nat => (#[Value.slice A8 z c8, Value.int .i64 (sf : Int)] : Array Value)) HPl.out)]; exact heap_alloc_new _ _) hbd1 (by omega) ((HIV.out.to HX8.out).ex.alloc _) (by simp; have := (HIV.out.to HX8.out).ex.size; omega) ?_; intro A9 c9 w9 ho9 hg9 hb9 _; have HP9 := Lib.hid (((HIV.out.to HX8.out).to ((Ext.refl _).alloc _)).push1 hg9 hb9 ho9 ⟨fun q hq => by rw [List.mem_singleton] at hq; rw [hq]; exact ⟨((HO8.out.ext ((Ext.refl _).alloc _)).mono (HIV.out.ex.size)), HU2.out, by simp only [List.length_take]; rw [← Hmb.out]; omega⟩⟩); have g0 := HP9.out.1.c0; have z0 : w9.frozen? ⟨g, 0, none⟩ = false := (by simp [World.frozen?, HP9.out.1.row]); have HO9 := Lib.hid ho9; clear ho9 hg9 hb9)
            | fail)
        all_goals
          have HI9 := Lib.hid (OnI.cell0 (k := j + 1) HP9.out Hg.out HO9.out)
          obtain ⟨V9, hV9⟩ : ∃ V9, V9 = w9.setCell ⟨g, 0, none⟩ (.slice A9 (j + 1) c9) := ⟨_, rfl⟩
          rw [← hV9] at HI9
          rw [← hV9]
          clear hV9 g0 g1 z0 f0 f1 HP9 HO9
          have g0 := (HI9.out.to (Ext.refl V9).drew).hr.c1
          have n0 := (HF9.out _ HI9.out.ex.drew).1
          have g1 := ((HI9.out.to ((Ext.refl V9).alloc (.cells #[nm r.1, .int .i64 (j : Int)] 114))).to (Ext.refl _).drew).hr.c1
          go_wp2_with fail
          go_region_law
            (first
              | (refine step_pushG (w0 := w) (base := w.heap.size) shE (r.1, (j : Int)) 114 (by rfl) _ _ 56 (by rfl) _ 24 Try.underlying56 Try.infoE rfl (by decide) ((HI9.out.o2.ext (Ext.refl V9).drew).ext ((Ext.refl _).alloc _)) j HL2.out (by rfl) (by rfl) (heap_alloc_new _ _) hbd2 (by omega) ((HI9.out.to (Ext.refl V9).drew).ex.alloc _) (by simp; have := HI9.out.ex.size; omega) ?_; intro Aa ca wa hoa hga hba _; have HPa := Lib.hid (((HI9.out.to (Ext.refl V9).drew).to ((Ext.refl _).alloc _)).push2 hga hba); have g0 := HPa.out.1.c1; have z0 : wa.frozen? ⟨g, 1, none⟩ = false := (by simp [World.frozen?, HPa.out.1.row]); have HOa := Lib.hid hoa; clear hoa hga hba)
              | fail)
          all_goals
            have HIa := Lib.hid (OnI.cell1 (k := j + 1) HPa.out Hg.out HOa.out)
            obtain ⟨Va, hVa⟩ : ∃ Va, Va = wa.setCell ⟨g, 1, none⟩ (.slice Aa (j + 1) ca) := ⟨_, rfl⟩
            rw [← hVa] at HIa
            rw [← hVa]
            clear hVa g0 g1 n0 z0 HPa HOa
            go_wp2_with fail
            go_roundw
            case rel =>
              refine ⟨j + 1, A9, c9, bs1 ++ [(⟨A8, c8, s.1.body.take sf⟩, (sf : Int))], Aa, ca, by have := Hlt.out; omega, by go_num, Lib.hid ?_, Lib.hid ?_⟩
              rotate_left
              · have q := HIa.out
                have e : onD 0 (d.take j) ++ [(r.1, (j : Int))] = onD 0 (d.take (j + 1)) := by
                  rw [HDt.out, onD_snoc, List.length_take, Hl.out, Nat.zero_add, Nat.min_eq_left hj]
                rw [e, HAd.out] at q
                exact q
              · rw [bdM_snoc, HM1.out, HDt.out, onB_snoc, HMk.out]
                simp only [Int.toNat_natCast]
            case measure => simp [intOf]; have := Hlt.out; omega
    · obtain rfl : j = n := by omega
      have hfull : d.take j = d := List.take_of_length_le (by rw [Hl.out]; exact Nat.le_refl _)
      clear hlt
      go_wp2_with (first
        | (refine wpList_load_row rfl 59 _ rfl g rfl 59 (rdC (.slice A1 j c1) (.slice A2 j c2) room st) (0, 0) _ HI.out.hr.row Try.underlying59 rfl (by kernel_rfl) ?_)
        | (refine wpList_store_row rfl 59 _ _ rfl (w.heap.size + 1) (rdC (.slice A1 j c1) (.slice A2 j c2) room st) rfl rfl 59 _ HI.out.hz (by kernel_rfl) rfl (by simp [rdC, Value.oneCell']) ?_)
        | fail)
      refine bodyPost_ret (results_cell_row rfl _ _ (w.heap.size + 1) 59 (rdC (.slice A1 j c1) (.slice A2 j c2) room st) (0, 0) _ rfl (setRow_heap _ _ _ _ 59 (0, 0) HI.out.hz) Try.underlying59 rfl (by kernel_rfl)) rfl ?_
      have hG := grown_setRow wr (w.heap.size + 1) (rdC (.slice A1 j c1) (.slice A2 j c2) room st)
      have hM := HM1.out
      have hO2 := HI.out.o2
      rw [hfull] at hM hO2
      exact ⟨A1, c1, bs1, A2, c2, rfl, HI.out.o1.grown hG (ownG_ne HI.out.o1 HI.out.hz (by decide)), HI.out.b1.grown hG HI.out.hz (by decide), hM, hO2.grown hG (ownG_ne hO2 HI.out.hz (by decide)), HI.out.ex.setRow (Nat.le_succ _) _⟩

end Go.Proofs.Ytjckfbpdnpehcaa
