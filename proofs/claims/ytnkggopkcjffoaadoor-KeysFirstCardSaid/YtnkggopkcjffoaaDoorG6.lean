import Derived.Test.YtnkggopkcjffoaaDoorG5
import Derived.Deep.RegionLaw
import Derived.Deep.RegionHeld3
import Derived.Lib.BytesEntry
import Derived.Shelf.Bytes.SlCountOne
import Derived.Test.YtnkggopkcjffoaaDoorG2
import Derived.Laws.CopyOwn

/-
  Layer 7: the program's getBytes.
-/
namespace Go.Proofs.YtnkggopkcjffoaaDoor
open Go.RowKit

theorem readB_step : ∀ (l : List Nat), readB l = if ¬ 0 ∈ l ∨ zpos l + 1 = l.length then none else if l.getD (zpos l + 1) 0 = 0 then some (l.take (zpos l), l.drop (zpos l + 2)) else if l.getD (zpos l + 1) 0 = 255 then (readB (l.drop (zpos l + 2))).map (fun p => (l.take (zpos l) ++ 0 :: p.1, p.2)) else none
  | [] => by simp [readB]
  | x :: r => by
    by_cases q : x = 0
    · subst q
      cases r with
      | nil => simp [readB, zpos]
      | cons y r => simp [readB, zpos]
    · rw [readB_pos q, readB_step r, zpos, if_neg q]
      have hm : (0 ∈ x :: r) ↔ 0 ∈ r := by
        rw [List.mem_cons]
        exact ⟨fun e => e.resolve_left (fun e => q e.symm), .inr⟩
      have hc : (¬ 0 ∈ x :: r ∨ zpos r + 1 + 1 = (x :: r).length) ↔ (¬ 0 ∈ r ∨ zpos r + 1 = r.length) := by
        rw [hm, List.length_cons]
        constructor
        · rintro (h | h)
          · exact .inl h
          · exact .inr (by omega)
        · rintro (h | h)
          · exact .inl h
          · exact .inr (by omega)
      have e2 : (x :: r).getD (zpos r + 1 + 1) 0 = r.getD (zpos r + 1) 0 := rfl
      have e3 : (x :: r).drop (zpos r + 1 + 2) = r.drop (zpos r + 2) := rfl
      have e4 : (x :: r).take (zpos r + 1) = x :: r.take (zpos r) := rfl
      by_cases h1 : ¬ 0 ∈ r ∨ zpos r + 1 = r.length
      · rw [if_pos h1, if_pos (hc.2 h1)]; rfl
      · rw [if_neg h1, if_neg (fun e => h1 (hc.1 e)), e2, e3, e4]
        split
        · rfl
        · split
          · rw [Option.map_map]; rfl
          · rfl

def lenOf : Value → Nat
  | .slice _ n _ => n
  | _ => 0

set_option maxRecDepth 100000 in
set_option maxHeartbeats 3200000 in
theorem getBytes_any (A : Option Addr) (n c : Nat) (bs : List Nat) (w : World) (hx : Rd .u8 w A n bs) (hu : U8 bs) (hn : n ≤ 140737488355328) (hcn : n ≤ c) :
    Calls Tryd.prog 69 #[.slice A n c] w (GetXPost (readB bs) w) := by
  obtain ⟨R, hR⟩ : ∃ R, R = readB bs := ⟨_, rfl⟩
  rw [← hR]
  have HR := Lib.hid hR
  clear hR
  go_enter Tryd.func69, Tryd.ntmps69
  go_wp2_with fail
  go_loopw [0, 2, 3] (fun bv tv _ wr => ∃ (B A' : Option Addr) (m cB c' L : Nat) (l T : List Nat), bv = .slice B m cB ∧ m ≤ cB ∧ L + m ≤ n ∧ tv = .slice A' L c' ∧ Rd .u8 w B m l ∧ U8 l ∧ Hid (T.length = L) ∧ Own .u8 5 wr w.heap.size A' c' T ∧ Ext w wr ∧ Hid (R = (readB l).map fun p => (T ++ p.1, p.2))) (fun bv _ _ _ => lenOf bv)
  case atStart => exact ⟨A, none, n, c, 0, 0, bs, [], rfl, hcn, by omega, rfl, hx, hu, Lib.hid rfl, Own.nil .., Ext.refl w, Lib.hid (by rw [HR.out]; cases readB bs <;> rfl)⟩
  case round =>
    clear hx hu HR
    obtain ⟨B, A', m, cB, c', L, l, T, rfl, hmc, hLm, rfl, hx, hu, HL, hown, he, HR⟩ := hrel
    have hl := hx.len
    have hst := readB_step l
    rw [hl] at hst
    have hi := idx_pos hu
    have hxr := hx.ext he
    by_cases h0 : 0 ∈ l
    · rw [if_pos h0] at hi
      have hz := zpos_lt h0
      rw [hl] at hz
      have Hi := Lib.hid hi
      by_cases h1 : zpos l + 1 = m
      · rw [if_pos (.inr h1)] at hst
        have HE := Lib.hid (show R = none by rw [HR.out, hst]; rfl)
        have hne : ((zpos l : Int) + 1 == (m : Int)) = true := by rw [beq_iff_eq]; omega
        clear hi hst hl h1
        generalize zpos l = z at *
        go_wp2_with fail
        refine (index_any _ _ _ _ _ hxr).mono ?_
        rintro e w1 ⟨rfl, rfl⟩
        rw [Hi.out]
        go_wp2_with fail
        go_ret3
        exact ⟨he, by rw [HE.out]; rfl⟩
      · rw [if_neg (fun q => q.elim (fun q => q h0) h1)] at hst
        obtain ⟨b1, o1, rfl, -, -⟩ := hx.at_ (show 0 < m by omega)
        have hdu := hu.at_ (zpos l + 1)
        have hcell := (hx.at_ (show zpos l + 1 < m by omega))
        have Hd := Lib.hid (hx.dropAt (show zpos l + 2 ≤ m by omega))
        have Ht := Lib.hid (hx.takeAt (show zpos l ≤ m by omega))
        have Htl := Lib.hid (show (l.take (zpos l)).length = zpos l by rw [List.length_take, hl]; omega)
        have Hdl := Lib.hid (show (l.drop (zpos l + 2)).length = m - (zpos l + 2) by rw [List.length_drop, hl])
        have Hd0 : Hid (cB = zpos l + 2 → Rd .u8 w (some ⟨b1, o1, none⟩) (m - (zpos l + 2)) (l.drop (zpos l + 2))) := Lib.hid fun h => by
          rw [show m - (zpos l + 2) = 0 by omega, List.drop_of_length_le (by omega)]
          exact Rd.nil _ _ _
        obtain ⟨b', o', hA, hbl, hc⟩ := hcell
        injection hA with hA
        injection hA with e1 e2
        subst e1 e2
        have hcr := (Below.cell he (p := ⟨b1, o1 + (zpos l + 1), none⟩) hbl).trans hc
        have hud : U8 (l.drop (zpos l + 2)) := fun v hv => hu v (List.mem_of_mem_drop hv)
        have Hst := Lib.hid hst
        have hne : ((zpos l : Int) + 1 == (m : Int)) = false := by rw [beq_eq_false_iff_ne]; omega
        clear hi hst hl hc
        generalize zpos l = z at *
        generalize l.getD (z + 1) 0 = d at *
        go_wp2_with fail
        refine (index_any _ _ _ _ _ hxr).mono ?_
        rintro e w1 ⟨rfl, rfl⟩
        rw [Hi.out]
        go_wp2_with fail
        have Hown := Lib.hid (fun W (h : Ext wr W) => hown.ext h)
        have HB := Lib.hid (fun W (h : Ext wr W) => he.trans h)
        have HS := Lib.hid (fun W (h : Ext wr W) => (he.trans h).size)
        have HP := Lib.hid (fun W (h : Ext wr W) => Ht.out.ext (he.trans h))
        have j1 : z ≤ cB := by omega
        obtain ⟨y, hy⟩ : ∃ y, y = z + 2 := ⟨_, rfl⟩
        have j2 : y ≤ m := by omega
        have j5 : IntKind.i64.wrap ((z : Int) + 2) = ((y : Nat) : Int) := (IntWalk.i64_in _ (by omega)).trans (by omega)
        have Hy := Lib.hid hy
        clear hy
        have j3 : z ≤ m := by omega
        have Hud := Lib.hid hud
        clear hown hx hu hxr hbl hcr hdu hud h0 h1 hne he
        go_region_held3 (fun _ => True) (exact trivial) (first
          | (refine step_pushes (w0 := w) (by rfl) _ _ (by rfl) (Hown.out _ (by (repeat (first | (with_reducible exact Ext.refl _) | (with_reducible apply Ext.drew) | fail)))) L HL.out (by rfl) (by rfl) (HP.out _ (by (repeat (first | (with_reducible exact Ext.refl _) | (with_reducible apply Ext.drew) | fail)))) (by omega) (HB.out _ (by (repeat (first | (with_reducible exact Ext.refl _) | (with_reducible apply Ext.drew) | fail)))) (HS.out _ (by (repeat (first | (with_reducible exact Ext.refl _) | (with_reducible apply Ext.drew) | fail)))) ?_; intro A4 c4 w4 hown4 hgr4 hb4 hz4)
          | fail)
        have hy := Hy.out
        have hrd : Rd .u8 w (if cB = y then some ⟨b1, o1, none⟩ else some ⟨b1, o1 + y, none⟩) (m - y) (l.drop y) := by
          rw [hy]
          split
          · rename_i hcb; exact Hd0.out hcb
          · exact Hd.out
        generalize (if cB = y then (some ⟨b1, o1, none⟩ : Option Addr) else some ⟨b1, o1 + y, none⟩) = B2 at *
        have q1 : (T ++ l.take z).length = L + z := by rw [List.length_append, HL.out, Htl.out]
        have q2 : (l.drop y).length = m - y := by rw [hy]; exact Hdl.out
        have hst := Hst.out
        rw [← hy] at hst
        have hud := Hud.out
        rw [← hy] at hud
        have Hud2 := Lib.hid hud
        have HQ1 := Lib.hid q1
        have HQ2 := Lib.hid q2
        have hyz : y = z + 2 := hy
        have hbnd : L + z + 1 + (m - y) ≤ n := by omega
        have hcy : m - y ≤ cB - y := by omega
        have hy2 : 2 ≤ y := by omega
        clear hy hyz hud q1 q2 Hd Hd0 Ht Htl Hdl Hud Hy j5
        by_cases d0 : d = 0
        · subst d0
          have HE := Lib.hid (show R = some (T ++ l.take z, l.drop y) by rw [HR.out, hst, if_pos rfl]; rfl)
          clear hst
          go_wp2
          go_ret3
          unfold GetXPost
          rw [HE.out]
          refine ⟨hb4, A4, c4, B2, cB - y, ?_, hown4, ?_, ?_⟩
          · rw [HQ1.out, HQ2.out]; rfl
          · rw [HQ2.out]; exact hrd.ext hb4
          · rw [HQ2.out]; exact hcy
        · rw [if_neg d0] at hst
          have hd0 : ((d : Int) == 0) = false := by rw [beq_eq_false_iff_ne]; omega
          by_cases d1 : d = 255
          · subst d1
            rw [if_pos rfl] at hst
            have HE := Lib.hid (show R = (readB (l.drop y)).map fun p => ((T ++ l.take z ++ [0]) ++ p.1, p.2) by
              rw [HR.out, hst, Option.map_map]
              congr 1
              funext p
              simp)
            have hlit := Rd.lit_at .u8 5 w4 [0] rfl rfl
            have hE5 : Ext w (w4.alloc (.cells #[.int .u8 0] 5)) := Ext.alloc hb4 _
            have hown5 := hown4.ext ((Ext.refl w4).alloc (.cells #[.int .u8 0] 5))
            clear hst
            go_wp2_with (at_builtin; refine wpList_pushes (w0 := w) .u8 5 rfl _ _ 28 rfl _ 1 Tryd.underlying28 Tryd.infoU8 rfl hown5 (L + z) HQ1.out rfl rfl hlit (by omega) (by omega) hE5 hE5.size ?_; intro A6 c6 w6 hown6 hb6 hz6)
            go_roundw
            case rel => exact ⟨B2, A6, m - y, cB - y, c6, L + z + 1, l.drop y, T ++ l.take z ++ [0], by go_num, by omega, by omega, by go_num, hrd, Hud2.out, Lib.hid (by rw [List.length_append, HQ1.out]; rfl), hown6, hb6, HE⟩
            case measure => simp [lenOf]; omega
          · rw [if_neg d1] at hst
            have hd1 : ((d : Int) == 255) = false := by rw [beq_eq_false_iff_ne]; omega
            have HE := Lib.hid (show R = none by rw [HR.out, hst]; rfl)
            clear hst
            go_wp2
            go_ret3
            exact ⟨hb4, by rw [HE.out]; rfl⟩
    · rw [if_neg h0] at hi
      rw [if_pos (.inl h0)] at hst
      have Hi := Lib.hid hi
      have HE := Lib.hid (show R = none by rw [HR.out, hst]; rfl)
      clear hi hst hl
      go_wp2_with fail
      refine (index_any _ _ _ _ _ hxr).mono ?_
      rintro e w1 ⟨rfl, rfl⟩
      rw [Hi.out]
      go_wp2_with fail
      go_ret3
      exact ⟨he, by rw [HE.out]; rfl⟩

end Go.Proofs.YtnkggopkcjffoaaDoor

/-
  Layer 7: bytes.Count with a separator of one byte 0.
-/
namespace Go.Proofs.YtnkggopkcjffoaaDoor
open Go.RowKit

theorem run_countZ {P : Program} {w : World} {A : Option Addr} {n c : Nat} {xs : List Nat} (h : Rd .u8 w A n xs) :
    (Extern.BytealgCount.count #[.slice A n c, .int .u8 0]).run P w = .ok (.int .i64 (Lib.countByte (u8s xs) 0)) w := by
  have hr := run_bytes (P := P) (c := c) h
  have hs := Lib.run_countString (P := P) ⟨(u8s xs).toArray⟩ 0 w
  change Sem.run P (do
    let b ← Extern.Bytes.bytesOf (.slice A n c)
    let c' ← Extern.Bytes.asByte (.int .u8 0)
    pure (goInt (b.foldl (fun n x => if x == c' then n + 1 else n) (0 : Nat)))) w = _
  change Sem.run P (do
    let b ← Extern.Bytes.bytesOf (.string ⟨(u8s xs).toArray⟩)
    let c' ← Extern.Bytes.asByte (.int .u8 0)
    pure (goInt (b.foldl (fun n x => if x == c' then n + 1 else n) (0 : Nat)))) w = _ at hs
  rw [Sem.run_bind, hr]
  rw [Sem.run_bind] at hs
  exact hs

theorem count_zero : ∀ {xs : List Nat}, U8 xs → Lib.countByte (u8s xs) 0 = xs.count 0
  | [], _ => rfl
  | x :: r, h => by
    have hx : x < 256 := h x List.mem_cons_self
    have ih := count_zero (xs := r) (fun y hy => h y (List.mem_cons_of_mem _ hy))
    have he : (UInt8.ofNat x == 0) = (x == 0) := by
      rw [Bool.eq_iff_iff, beq_iff_eq, beq_iff_eq]
      exact u8_inj (y := 0) hx (by omega)
    unfold Lib.countByte at ih ⊢
    rw [u8s_cons, List.count_cons, List.count_cons, ih, he]

theorem esc_count : ∀ (xs : List Nat), (esc xs).length = xs.length + xs.count 0
  | [] => rfl
  | x :: r => by
    have ih := esc_count r
    by_cases q : x = 0
    · subst q
      rw [esc_zero, List.count_cons]
      simp only [List.length_cons, ih]
      simp
      omega
    · rw [esc_pos _ q, List.count_cons]
      simp only [List.length_cons, ih]
      simp [q]
      omega

set_option maxRecDepth 100000 in
set_option maxHeartbeats 1600000 in
theorem countZ_any (A : Option Addr) (b n c c2 : Nat) (xs : List Nat) (w : World) (hx : Rd .u8 w A n xs) (hu : U8 xs) (hy : w.cell? ⟨b, 0, none⟩ = some (.int .u8 0)) :
    Calls Tryd.prog 83 #[.slice A n c, .slice (some ⟨b, 0, none⟩) 1 c2] w fun e w' => e = .returned (.int .i64 (xs.count 0 : Nat)) ∧ w = w' := by
  have Hx := Lib.hid hx
  have Hu := Lib.hid (count_zero hu)
  go_enter Tryd.func83, Tryd.ntmps83
  go_wp2_with fail
  rw [run_callFunc_extern Tryd.func87 (by kernel_rfl) (by kernel_rfl) (by kernel_rfl) (e := Extern.BytealgCount.count) (by kernel_rfl), run_countZ Hx.out, Hu.out]
  simp only [Result.andThen]
  rw [Oper.upon_value]
  go_wp2_with fail
  go_ret
  exact ⟨rfl, rfl⟩

end Go.Proofs.YtnkggopkcjffoaaDoor

-- part SL
/-
  Rows of slices of bytes of the call's own.
-/
namespace Go.Proofs.YtnkggopkcjffoaaDoor
open Go.RowKit

theorem Tryd.infoS : (Tryd.prog.info? 28).map (fun i => (i.zero, i.size, i.bytes)) = some (some (.slice none 0 0), 1, 24) := by kernel_rfl

/-- A slice that lies somewhere, and what it reads as. -/
structure Sl where
  A : Option Addr
  c : Nat
  body : List Nat

def Sl.v (s : Sl) : Value := .slice s.A s.body.length s.c

/-- A row of slices of the call's own. -/
def OwnS (w : World) (base : Nat) (A : Option Addr) (c : Nat) (ss : List Sl) : Prop := w.ownsRow base 28 1 (.slice A ss.length c) ss.length (ss.map Sl.v)

theorem OwnS.made {base : Nat} (w : World) (hb : base ≤ w.heap.size) : OwnS (w.alloc (.cells #[] 28)) base (some ⟨w.heap.size, 0, none⟩) 0 [] :=
  World.ownsRow_made w #[] 0 hb (by simp [maxLen]) (by simp)
theorem OwnS.ext {w w' : World} {base c : Nat} {A : Option Addr} {ss : List Sl} (h : OwnS w base A c ss) (hb : Ext w w') : OwnS w' base A c ss := by
  refine World.ownsRow.kept (row := none) h ⟨hb.os, hb.tape, hb.output, hb.size, fun i hi _ => hb.block i hi⟩ ?_
  cases hv : (Value.slice A ss.length c).ownBlock <;> simp

/-- 'append(out, s)'. -/
theorem wpList_pushS {w0 w : World} {ops : Array Oper} {rest : List Oper} {o : Oper} {a : Act} {Q : Exit → Act → World → Prop} (f : Sl) (hgd : o.guard = none) (s y : Operand)
    (ho : o.op = .call { callee := .builtin .append, args := #[s, y], argTypes := #[43, 43] })
    {base : Nat} {A : Option Addr} {c : Nat} {ss : List Sl} (hown : OwnS w base A c ss) (n : Nat) (hn : ss.length = n) (hs : a.eval s = .slice A n c)
    {g : Nat} (hy : a.eval y = .slice (some ⟨g, 0, none⟩) 1 1) (hg : w.heap[g]? = some (.cells #[.slice f.A f.body.length f.c] 28))
    (hlen : n ≤ 1048576) (hb : Below base w0 w) (hbase : base ≤ w.heap.size)
    (h : ∀ A' c' w', OwnS w' base A' c' (ss ++ [f]) → Below base w0 w' → base ≤ w'.heap.size → wpList Tryd.prog ops Q rest (a.put o.dst (.slice A' (n + 1) c')) w') :
    wpList Tryd.prog ops Q (o :: rest) a w := by
  subst hn
  obtain ⟨i, hi0, hz, hsz, hbs⟩ := info_parts Tryd.infoS
  refine wpList_append_own_wide w hgd s y 43 ho base 28 i _ 1 24 Tryd.underlying43 hi0 hz hsz hbs rfl (by decide) _ ss.length (ss.map Sl.v) hs hown
    ⟨g, 0, none⟩ 1 1 [f.v] hy rfl ?_ ?_ (by unfold maxLen; omega) (by omega) hbase ?_
  · intro j u hj
    match j, hj with
    | 0, hj =>
      simp at hj
      subst hj
      have := cell_of_row w g 0 _ _ (0, 0) hg
      simpa [Addr.add, Sl.v] using this
  · intro u hu
    simp at hu
    subst hu
    rfl
  · intro v' w' hown' hgr _
    have hform : ∃ A' c', v' = .slice A' (ss.length + 1) c' := by
      rcases hown'.2 with ⟨_, h0⟩ | ⟨g, cap, cur, hv, _⟩
      · omega
      · exact ⟨_, _, hv⟩
    obtain ⟨A', c', rfl⟩ := hform
    have hb' : Below base w0 w' := Below.grown hb hgr hbase (fun g hg' => (hown.lt g hg').1)
    refine h A' c' w' ?_ hb' ?_
    · unfold OwnS
      rw [List.length_append, List.map_append]
      exact hown'
    · have := hgr.size
      omega

theorem Own.zero {k : IntKind} {e : TypeId} {w : World} {base c : Nat} {A : Option Addr} {xs : List Nat} (h : Own k e w base A c xs) : Own k e w 0 A c xs :=
  ⟨h.1, h.2.imp id fun ⟨g, cap, cur, h1, _, h3⟩ => ⟨g, cap, cur, h1, Nat.zero_le _, h3⟩⟩

theorem OwnS.block {w : World} {base c : Nat} {A : Option Addr} {ss : List Sl} (h : OwnS w base A c ss) : ∀ a, A = some a → base ≤ a.block ∧ a.block < w.heap.size := by
  rintro a rfl
  exact h.lt a.block rfl

end Go.Proofs.YtnkggopkcjffoaaDoor

-- part F7
/-
  Helpers that all references share: lists of bytes as wanted, and memory apart from one another, spare room too.
-/
namespace Go.Proofs.YtnkggopkcjffoaaDoor
open Go.RowKit

/-- Nothing has turned but rows of these slices; there may be more. -/
structure Kept (w wr : World) (ss : List Sl) : Prop where
  os : wr.os = w.os
  tape : wr.tape = w.tape
  output : wr.output = w.output
  size : w.heap.size ≤ wr.heap.size
  block : ∀ b, b < w.heap.size → (∀ s ∈ ss, ∀ p, s.A = some p → p.block ≠ b) → wr.heap[b]? = w.heap[b]?

theorem Kept.refl (w : World) (ss : List Sl) : Kept w w ss := ⟨rfl, rfl, rfl, Nat.le_refl _, fun _ _ _ => rfl⟩
theorem Kept.ext {w wr w' : World} {ss : List Sl} (h : Kept w wr ss) (he : Ext wr w') : Kept w w' ss :=
  ⟨he.os.trans h.os, he.tape.trans h.tape, he.output.trans h.output, Nat.le_trans h.size he.size, fun b hb hn => (he.block b (Nat.lt_of_lt_of_le hb h.size)).trans (h.block b hb hn)⟩
theorem Kept.grown {w wr w' : World} {ss : List Sl} {row : Option Nat} (h : Kept w wr ss) (hg : wr.grownBy w' row) (hr : ∀ g, row = some g → w.heap.size ≤ g ∨ ∃ s ∈ ss, ∃ p, s.A = some p ∧ p.block = g) : Kept w w' ss :=
  ⟨hg.os.trans h.os, hg.tape.trans h.tape, hg.output.trans h.output, Nat.le_trans h.size hg.size, fun b hb hn => (hg.block b (Nat.lt_of_lt_of_le hb h.size) (fun e => by
    rcases hr b e.symm with h1 | ⟨s, hs, p, hp, hpb⟩
    · omega
    · exact hn s hs p hp hpb)).trans (h.block b hb hn)⟩

/-- No row of these slices lies at that address. -/
def Far (ss : List Sl) (A : Option Addr) : Prop := ∀ s ∈ ss, ∀ p q, s.A = some p → A = some q → p.block ≠ q.block

theorem Rd.kept {k : IntKind} {w wr : World} {A : Option Addr} {n : Nat} {xs : List Nat} {ss : List Sl} (h : Rd k w A n xs) (hk : Kept w wr ss) (hf : 0 < n → Far ss A) : Rd k wr A n xs :=
  ⟨h.1, fun hn => by
    obtain ⟨b, o, e, hlt, hc⟩ := h.2 hn
    refine ⟨b, o, e, Nat.lt_of_lt_of_le hlt hk.size, fun j hj => ?_⟩
    rw [← hc j hj]
    exact World.cell?_of_block (a := ⟨b, o + j, none⟩) (hk.block b hlt (fun s hs p hp => hf hn s hs p _ hp e))⟩

/-- The slice of slices (A, n) holds the slices ss. -/
def RdL (w : World) (A : Option Addr) (n : Nat) (ss : List Sl) : Prop :=
  ss.length = n ∧ (0 < n → ∃ b o, A = some ⟨b, o, none⟩ ∧ b < w.heap.size ∧ ∀ j s, ss[j]? = some s → w.cell? ⟨b, o + j, none⟩ = some s.v)

theorem RdL.kept {w wr : World} {A : Option Addr} {n : Nat} {ss tt : List Sl} (h : RdL w A n tt) (hk : Kept w wr ss) (hf : 0 < n → Far ss A) : RdL wr A n tt :=
  ⟨h.1, fun hn => by
    obtain ⟨b, o, e, hlt, hc⟩ := h.2 hn
    refine ⟨b, o, e, Nat.lt_of_lt_of_le hlt hk.size, fun j s hj => ?_⟩
    rw [← hc j s hj]
    exact World.cell?_of_block (a := ⟨b, o + j, none⟩) (hk.block b hlt (fun s hs p hp => hf hn s hs p _ hp e))⟩

theorem OwnS.rdL {w : World} {base c : Nat} {A : Option Addr} {ss : List Sl} (h : OwnS w base A c ss) : RdL w A ss.length ss := by
  refine ⟨rfl, fun hn => ?_⟩
  rcases h.2 with ⟨_, h0⟩ | ⟨g, cap, cur, hv, hg, hh, hnc, hcm, hcs, htake⟩
  · omega
  · injection hv with hA hl hc
    subst hA
    refine ⟨g, 0, rfl, (Array.getElem?_eq_some_iff.1 hh).1, fun j s hj => ?_⟩
    have hjl : j < ss.length := (List.getElem?_eq_some_iff.1 hj).1
    rw [cell_of_row w g _ cur _ (0, 0) hh, Nat.zero_add]
    have h1 : (cur.toList.take (ss.length * 1))[j]? = some s.v := by rw [htake, List.getElem?_map, hj]; rfl
    rw [List.getElem?_take, if_pos (by omega)] at h1
    simpa using h1

theorem RdL.at_ {w : World} {A : Option Addr} {n : Nat} {ss : List Sl} (h : RdL w A n ss) {j : Nat} (hj : j < n) :
    ∃ b o s, A = some ⟨b, o, none⟩ ∧ ss[j]? = some s ∧ w.cell? ⟨b, o + j, none⟩ = some (.slice s.A s.body.length s.c) := by
  obtain ⟨b, o, e, hlt, hc⟩ := h.2 (by omega)
  have hjl : j < ss.length := by rw [h.1]; exact hj
  have hf : ss[j]? = some ss[j] := List.getElem?_eq_getElem hjl
  exact ⟨b, o, _, e, hf, hc j _ hf⟩

/-- The rows of unlike slices lie in unlike blocks. -/
def Unlike (ss : List Sl) : Prop := ∀ (i j : Nat) (s t : Sl), ss[i]? = some s → ss[j]? = some t → i ≠ j → ∀ p q, s.A = some p → t.A = some q → p.block ≠ q.block

/-- The first i slices are spoiled. -/
def St2 (wr : World) (ss : List Sl) (i : Nat) : Prop :=
  ∀ (j : Nat) (s : Sl), ss[j]? = some s → (j < i → Own .u8 5 wr 0 s.A s.c (s.body.map spl)) ∧ (i ≤ j → Own .u8 5 wr 0 s.A s.c s.body)

theorem St2.step {wr w' : World} {ss : List Sl} {i : Nat} {s : Sl} (h : St2 wr ss i) (hun : Unlike ss) (hs : ss[i]? = some s) (ho : Own .u8 5 w' 0 s.A s.c (s.body.map spl)) (hg : wr.grownBy w' (s.A.map (·.block))) : St2 w' ss (i + 1) := by
  have hne : ∀ (j : Nat) (t : Sl), ss[j]? = some t → j ≠ i → ∀ a, t.A = some a → some a.block ≠ s.A.map (·.block) := by
    intro j t ht hji a ha e
    cases hA : s.A with
    | none => rw [hA] at e; simp at e
    | some p => rw [hA] at e; simp at e; exact hun j i t s ht hs hji a p ha hA e
  intro j t ht
  constructor
  · intro hj
    by_cases hji : j = i
    · subst hji
      rw [hs] at ht
      injection ht with ht
      subst ht
      exact ho
    · exact ((h j t ht).1 (by omega)).grown hg (hne j t ht hji)
  · intro hj
    exact ((h j t ht).2 (by omega)).grown hg (hne j t ht (by omega))

/-- All slices read as spoiled; those from i on may be written. -/
def St3 (wr : World) (ss : List Sl) (i : Nat) : Prop :=
  ∀ (j : Nat) (s : Sl), ss[j]? = some s → Rd .u8 wr s.A s.body.length (s.body.map spl) ∧ (i ≤ j → Own .u8 5 wr 0 s.A s.c (s.body.map spl))

/-- While bytes go behind the i-th slice. -/
structure St4 (w wr : World) (ss : List Sl) (i : Nat) (s : Sl) (A' : Option Addr) (c' k : Nat) (ys : List Nat) : Prop where
  own : Own .u8 5 wr 0 A' c' ys
  len : ys.length = s.body.length + k
  pre : ys.take s.body.length = s.body.map spl
  at_ : ∀ p, A' = some p → s.A = some p ∨ w.heap.size ≤ p.block
  rest : St3 wr ss (i + 1)
  kept : Kept w wr ss

theorem St4.push {w wr w1 : World} {ss : List Sl} {i c' c1 k x : Nat} {s : Sl} {A' A1 : Option Addr} {ys : List Nat} (h : St4 w wr ss i s A' c' k ys) (hun : Unlike ss) (hs : ss[i]? = some s)
    (hlt : ∀ t ∈ ss, ∀ p, t.A = some p → p.block < w.heap.size)
    (ho : Own .u8 5 w1 0 A1 c1 (ys ++ [x])) (hw : A1 = A' ∧ wr.grownBy w1 (A'.map (·.block)) ∨ Ext wr w1 ∧ ∀ q, A1 = some q → wr.heap.size ≤ q.block) :
    St4 w w1 ss i s A1 c1 (k + 1) (ys ++ [x]) := by
  have hp : (ys ++ [x]).take s.body.length = s.body.map spl := by rw [List.take_append_of_le_length (by have := h.len; omega)]; exact h.pre
  have hl : (ys ++ [x]).length = s.body.length + (k + 1) := by have := h.len; simp; omega
  rcases hw with ⟨rfl, hg⟩ | ⟨he, hq⟩
  · have hne : ∀ (j : Nat) (t : Sl), ss[j]? = some t → j ≠ i → ∀ a, t.A = some a → some a.block ≠ A1.map (·.block) := by
      intro j t ht hji a ha e
      cases hA : A1 with
      | none => rw [hA] at e; simp at e
      | some p =>
        rw [hA] at e
        simp at e
        rcases h.at_ p hA with h1 | h1
        · exact hun j i t s ht hs hji a p ha h1 e
        · have := hlt t (List.mem_of_getElem? ht) a ha
          omega
    refine ⟨ho, hl, hp, h.at_, fun j t ht => ?_, h.kept.grown hg ?_⟩
    · refine ⟨?_, fun hj => ((h.rest j t ht).2 hj).grown hg (hne j t ht (by omega))⟩
      by_cases hji : j = i
      · subst hji
        rw [hs] at ht
        injection ht with ht
        subst ht
        by_cases h0 : 0 < s.body.length
        · obtain ⟨b, o, hA, hb, _⟩ := (h.rest j s hs).1.2 h0
          obtain ⟨b', hA'⟩ := h.own.head (by have := h.len; omega)
          rcases h.at_ _ hA' with e | e
          · have := ho.rd_take (n := s.body.length) (by omega)
            rw [hp, hA', ← e] at this
            exact this
          · refine (h.rest j s hs).1.grown hg ?_
            intro a ha e2
            rw [hA'] at e2
            simp at e2
            have h3 := hlt s (List.mem_of_getElem? hs) a ha
            have h4 : w.heap.size ≤ b' := e
            omega
        · exact ⟨(h.rest j s hs).1.1, fun q => absurd q h0⟩
      · exact (h.rest j t ht).1.grown hg (hne j t ht hji)
    · intro g hg'
      cases hA : A1 with
      | none => rw [hA] at hg'; simp at hg'
      | some p =>
        rw [hA] at hg'
        simp at hg'
        subst hg'
        rcases h.at_ p hA with h1 | h1
        · exact .inr ⟨s, List.mem_of_getElem? hs, p, h1, rfl⟩
        · exact .inl h1
  · exact ⟨ho, hl, hp, fun p hp => .inr (Nat.le_trans h.kept.size (hq p hp)), fun j t ht => ⟨(h.rest j t ht).1.ext he, fun hj => ((h.rest j t ht).2 hj).ext he⟩, h.kept.ext he⟩

end Go.Proofs.YtnkggopkcjffoaaDoor

-- part F8
/-
  The document's answers: lists of bytes as wanted, and memory apart from one another.
-/
namespace Go.Proofs.YtnkggopkcjffoaaDoor
open Go.RowKit

theorem mod256' {k i : Nat} : IntKind.u8.wrap ((k : Int) + (i : Int)) = (((k + i) % 256 : Nat) : Int) := by rw [IntKind.wrap_u8']; omega

theorem St3.next {wr : World} {ss : List Sl} {i : Nat} (h : St3 wr ss i) : St3 wr ss (i + 1) := fun j s hs => ⟨(h j s hs).1, fun hj => (h j s hs).2 (by omega)⟩
theorem St2.all {wr : World} {ss : List Sl} {n : Nat} (h : St2 wr ss n) (hn : ss.length = n) : St3 wr ss 0 := fun j s hs => by
  have hj : j < n := by rw [← hn]; exact (List.getElem?_eq_some_iff.1 hs).1
  have ho := (h j s hs).1 hj
  exact ⟨ho.rd' (by rw [List.length_map]), fun _ => ho⟩

set_option maxHeartbeats 1600000 in
theorem apartAll_any (A A' : Option Addr) (n c c' : Nat) (ss ts : List Sl) (w : World) (hx : RdL w A n ss) (hy : RdL w A' n ts) (hb : ss.map Sl.body = ts.map Sl.body) (hn : n ≤ 1048576)
    (hs : ∀ s ∈ ss, Own .u8 5 w 0 s.A s.c s.body) (hu : ∀ s ∈ ss, U8 s.body) (hl : ∀ s ∈ ss, s.body.length ≤ 1048576) (ht : ∀ t ∈ ts, Rd .u8 w t.A t.body.length t.body) (hun : Unlike ss)
    (hfx : 0 < n → Far ss A) (hfy : 0 < n → Far ss A') (hft : ∀ t ∈ ts, 0 < t.body.length → Far ss t.A) :
    Calls Tryd.prog 19 #[.slice A n c, .slice A' n c'] w fun e w' => e = .returned (.bool true) ∧ Kept w w' ss := by
  have hblt : ∀ t ∈ ss, ∀ p, t.A = some p → p.block < w.heap.size := fun t ht p hp => ((hs t ht).block p hp).2
  have hpair : ∀ (j : Nat) (s t : Sl), ss[j]? = some s → ts[j]? = some t → t.body = s.body := by
    intro j s t h1 h2
    have e1 := congrArg (fun l : List (List Nat) => l[j]?) hb
    simp only [List.getElem?_map, h1, h2, Option.map_some] at e1
    injection e1 with e1
    exact e1.symm
  have Hl := Lib.hid hx.1
  clear hb
  go_enter Tryd.func19, Tryd.ntmps19
  go_wp2
  go_loopw [5] (fun i wr => ∃ j q : Nat, j ≤ n ∧ i = .int .i64 j ∧ wr = w.drewN q) (fun i _ => n - (intOf i).toNat)
  case atStart => exact ⟨0, 0, Nat.zero_le _, rfl, rfl⟩
  case round =>
    obtain ⟨j, q, hj, rfl, hw⟩ := hrel
    have hE : Ext w wr := by rw [hw]; exact (Ext.refl w).drewN q
    have hK : Kept w wr ss := (Kept.refl w ss).ext hE
    have Hw := Lib.hid hw
    clear hw
    by_cases hlt : j < n
    · obtain ⟨b, o, s, rfl, hf, h1⟩ := (hx.kept hK hfx).at_ hlt
      obtain ⟨b', o', t, rfl, hg, g1⟩ := (hy.kept hK hfy).at_ hlt
      have hbb := hpair j s t hf hg
      have h3 := ((hs s (List.mem_of_getElem? hf)).rd).ext hE
      have g3 := (ht t (List.mem_of_getElem? hg)).ext hE
      have hbf := hl s (List.mem_of_getElem? hf)
      rw [hbb] at g1 g3
      obtain ⟨sA, sc, body⟩ := s
      obtain ⟨tA, tc, tbody⟩ := t
      simp only at h1 h3 g1 g3 hbf
      clear hbb hf hg
      have hji : (j : Int) < (n : Int) := by omega
      have hbf2 : body.length ≤ 281474976710656 := by omega
      go_wp2_with fail
      go_quiet ((go_at_call 26; exact Calls.quiet_of (same_yes (h3.drewN _) (g3.drewN _) hbf2)))
      go_wp2
      go_roundw
      case rel => exact ⟨j + 1, _, by omega, by go_num, by rw [Hw.out, World.drewN_drewN]⟩
      case measure => simp [intOf]; omega
    · obtain rfl : j = n := by omega
      have h0 : St2 wr ss 0 := fun j s h => ⟨fun h2 => absurd h2 (by omega), fun _ => (hs s (List.mem_of_getElem? h)).ext hE⟩
      clear Hw hE q
      go_wp2
      go_loopw [6] (fun i wx => ∃ i2 : Nat, i2 ≤ j ∧ i = .int .i64 i2 ∧ Kept w wx ss ∧ St2 wx ss i2) (fun i _ => j - (intOf i).toNat)
      case atStart => exact ⟨0, Nat.zero_le _, rfl, hK, h0⟩
      case round =>
        clear h0 hK
        obtain ⟨i2, hi2, rfl, hK, hS⟩ := hrel
        by_cases hlt2 : i2 < j
        · obtain ⟨b, o, s, rfl, hf, h1⟩ := (hx.kept hK hfx).at_ hlt2
          have hm := List.mem_of_getElem? hf
          have ho := (hS i2 s hf).2 (Nat.le_refl _)
          have hbf := hl s hm
          have hus := hu s hm
          have HK := Lib.hid hK
          have HS := Lib.hid hS
          have Hf := Lib.hid hf
          clear hK hS hf
          go_wp2_with fail
          refine (spoil_any _ _ _ 0 _ _ ho rfl hus (by omega)).mono ?_
          rintro e w3 ⟨rfl, ho3, hg3⟩
          go_wp2
          go_roundw
          case rel => exact ⟨i2 + 1, by omega, by go_num, HK.out.grown hg3 (fun g hg => by
            cases hA : s.A with
            | none => rw [hA] at hg; simp at hg
            | some p => rw [hA] at hg; simp at hg; exact .inr ⟨s, hm, p, hA, hg⟩), HS.out.step hun Hf.out ho3 hg3⟩
          case measure => simp [intOf]; omega
        · obtain rfl : i2 = j := by omega
          have h0 := hS.all Hl.out
          clear hS
          go_wp2
          go_loopw [7, 8] (fun v i wx => ∃ i3 m : Nat, i3 ≤ i2 ∧ i = .int .i64 i3 ∧ v = .int .i64 m ∧ m ≤ i3 * 2097152 ∧ Kept w wx ss ∧ St3 wx ss i3) (fun _ i _ => i2 - (intOf i).toNat)
          case atStart => exact ⟨0, 0, Nat.zero_le _, rfl, rfl, by omega, hK, h0⟩
          case round =>
            clear h0 hK
            obtain ⟨i3, m, hi3, rfl, rfl, hmm, hK, hS⟩ := hrel
            by_cases hlt3 : i3 < i2
            · obtain ⟨b, o, s, rfl, hf, h1⟩ := (hx.kept hK hfx).at_ hlt3
              have hm := List.mem_of_getElem? hf
              have hbf := hl s hm
              have h4 : St4 w wr ss i3 s s.A s.c 0 (s.body.map spl) := ⟨(hS i3 s hf).2 (Nat.le_refl _), by simp, by rw [List.take_of_length_le (by simp)], fun p hp => .inl hp, hS.next, hK⟩
              have Hf := Lib.hid hf
              clear hK hS hf
              go_wp2
              go_loopw [9, 10] (fun v i wx => ∃ (k : Nat) (A1 : Option Addr) (c1 : Nat) (ys : List Nat), k ≤ 70 ∧ i = .int .i64 k ∧ v = .slice A1 (s.body.length + k : Nat) c1 ∧ St4 w wx ss i3 s A1 c1 k ys) (fun _ i _ => 70 - (intOf i).toNat)
              case atStart => exact ⟨0, _, _, _, Nat.zero_le _, rfl, rfl, h4⟩
              case round =>
                clear h4
                obtain ⟨k, A1, c1, ys, hk, rfl, rfl, h4⟩ := hrel
                by_cases hlt4 : k < 70
                · have hmod := mod256' (k := k) (i := i3)
                  have Hown := Lib.hid h4.own
                  have Hlen := Lib.hid h4.len
                  have H4 := Lib.hid h4
                  clear h4
                  go_wp2_with (at_builtin; refine wpList_push2 .u8 ((k + i3) % 256) 5 rfl _ _ 28 rfl _ 1 Tryd.underlying28 Tryd.infoU8 rfl Hown.out (s.body.length + k) Hlen.out rfl rfl (by first | rfl | exact hmod | omega | go_num) (by omega) (by omega) (Nat.zero_le _) ?_; intro A2 c2 w5 hown5 hw5 hz5)
                  have Hn := Lib.hid (H4.out.push hun Hf.out hblt hown5 hw5)
                  clear hown5 hw5 hz5
                  go_wp2
                  go_roundw
                  case rel => exact ⟨k + 1, A2, c2, _, by omega, by go_num, rfl, Hn.out⟩
                  case measure => simp [intOf]; omega
                · obtain rfl : k = 70 := by omega
                  have hS := h4.rest
                  have hK := h4.kept
                  clear h4
                  go_wp2
                  go_roundw
                  case rel => exact ⟨i3 + 1, m + (s.body.length + 70), by omega, by go_num, by go_num, by omega, hK, hS⟩
                  case measure => simp [intOf]; omega
            · obtain rfl : i3 = i2 := by omega
              obtain ⟨W3, hW3⟩ : ∃ W3, W3 = wr := ⟨_, rfl⟩
              rw [← hW3] at hK hS
              have HK := Lib.hid hK
              have HS := Lib.hid hS
              clear hK hS
              go_wp2
              go_loopw [11] (fun i wx => ∃ i4 q : Nat, i4 ≤ i3 ∧ i = .int .i64 i4 ∧ wx = W3.drewN q) (fun i _ => i3 - (intOf i).toNat)
              case atStart => exact ⟨0, 0, Nat.zero_le _, rfl, hW3.symm⟩
              case round =>
                obtain ⟨i4, q, hi4, rfl, hw⟩ := hrel
                have hE : Ext W3 wr := by rw [hw]; exact (Ext.refl _).drewN q
                have hK : Kept w wr ss := HK.out.ext hE
                have Hw := Lib.hid hw
                clear hw
                by_cases hlt4 : i4 < i3
                · obtain ⟨b, o, s, rfl, hf, h1⟩ := (hx.kept hK hfx).at_ hlt4
                  obtain ⟨b', o', t, rfl, hg, g1⟩ := (hy.kept hK hfy).at_ hlt4
                  have hbb := hpair i4 s t hf hg
                  have hmt := List.mem_of_getElem? hg
                  have h3 := (HS.out i4 s hf).1.ext hE
                  have g3 := (ht t hmt).kept hK (hft t hmt)
                  have hbf := hl s (List.mem_of_getElem? hf)
                  have hus := hu s (List.mem_of_getElem? hf)
                  rw [hbb] at g1 g3
                  obtain ⟨sA, sc, body⟩ := s
                  obtain ⟨tA, tc, tbody⟩ := t
                  simp only at h1 h3 g1 g3 hbf hus
                  clear hbb hf hg hmt hK
                  have hji : (i4 : Int) < (i3 : Int) := by omega
                  have hbf2 : body.length ≤ 281474976710656 := by omega
                  go_wp2_with fail
                  go_quiet ((go_at_call 43; exact Calls.quiet_of (turned_yes (h3.drewN _) (g3.drewN _) hus hbf2)))
                  go_wp2
                  go_roundw
                  case rel => exact ⟨i4 + 1, _, by omega, by go_num, by rw [Hw.out, World.drewN_drewN]⟩
                  case measure => simp [intOf]; omega
                · obtain rfl : i4 = i3 := by omega
                  go_wp2
                  go_ret
                  exact ⟨by simp, hK⟩

/-- The bodies lie between these two sizes of the memory. -/
def Within (ss : List Sl) (lo hi : Nat) : Prop := ∀ s ∈ ss, ∀ p, s.A = some p → lo ≤ p.block ∧ p.block < hi

theorem Within.far_hi {ss : List Sl} {lo hi : Nat} (h : Within ss lo hi) {A : Option Addr} (hA : ∀ a, A = some a → hi ≤ a.block) : Far ss A := by
  intro s hs p q hp hq
  have h1 := h s hs p hp
  have h2 := hA q hq
  omega
theorem Within.far_lo {ss : List Sl} {lo hi : Nat} (h : Within ss lo hi) {A : Option Addr} (hA : ∀ a, A = some a → a.block < lo) : Far ss A := by
  intro s hs p q hp hq
  have h1 := h s hs p hp
  have h2 := hA q hq
  omega

theorem Kept.toExt {w w0 wr : World} {ss : List Sl} (h : Kept w wr ss) (he : Ext w0 w) (hs : ∀ s ∈ ss, ∀ p, s.A = some p → w0.heap.size ≤ p.block) : Ext w0 wr :=
  ⟨h.os.trans he.os, h.tape.trans he.tape, h.output.trans he.output, Nat.le_trans he.size h.size, fun b hb => (h.block b (Nat.lt_of_lt_of_le hb he.size) (fun s hs' p hp e => by have := hs s hs' p hp; omega)).trans (he.block b hb)⟩

end Go.Proofs.YtnkggopkcjffoaaDoor

/-
  Slicing of bytes, whatever the capacity: the pieces' addresses stay behind a name.
-/
namespace Go.Proofs.YtnkggopkcjffoaaDoor
open Go.RowKit

theorem Tryd.elemU8 : Tryd.prog.elem 28 = 5 := by kernel_rfl
theorem run_sizeU8 (w : World) : (sizeOf (Tryd.prog.elem 28)).run Tryd.prog w = .ok 1 w := by
  obtain ⟨i, hi0, hz, hsz, hbs⟩ := info_parts Tryd.infoU8
  rw [Tryd.elemU8]
  simp [sizeOf, typeInfo, hi0, hsz]
theorem Tryd.underSl : Tryd.prog.underlying 28 = some (.slice (Tryd.prog.elem 28)) := by kernel_rfl

/-- The address of what is left behind k bytes of capacity m. -/
def offA (A : Option Addr) (k m : Nat) : Option Addr := if m = k then A else A.map (·.add k)

theorem Rd.offA {w : World} {A : Option Addr} {n k m : Nat} {bs : List Nat} (h : Rd .u8 w A n bs) (hk : k ≤ n) (hm : n ≤ m) : Rd .u8 w (offA A k m) (n - k) (bs.drop k) := by
  refine ⟨by rw [List.length_drop, h.1], fun hn => ?_⟩
  obtain ⟨b, o, rfl, hb, hc⟩ := h.2 (by omega)
  refine ⟨b, o + k, by unfold Go.Proofs.YtnkggopkcjffoaaDoor.offA; rw [if_neg (by omega)]; simp [Addr.add], hb, fun j hj => ?_⟩
  have := hc (k + j) (by omega)
  rw [Nat.add_assoc, this]
  simp [List.getD, List.getElem?_drop]

/-- b[k:] -/
theorem run_from (A : Option Addr) (n c k : Nat) (hk : k ≤ n) : ∀ W : World, (Instr.slice 28 (.slice A n c) (some (.int .i64 (k : Int))) none none).run Tryd.prog W = .ok (.slice (offA A k c) (n - k : Nat) (c - k : Nat)) W := by
  intro W
  rw [run_slice_l W _ A n c Tryd.underSl .i64 k (by omega) (by omega), run_sizeU8]
  simp only [Result.andThen, sliced, Int.toNat_natCast, Nat.mul_one]
  rfl
/-- b[:k] -/
theorem run_upto (kh : IntKind) (A : Option Addr) (n c k : Nat) (hk : k ≤ c) : ∀ W : World, (Instr.slice 28 (.slice A n c) none (some (.int kh (k : Int))) none).run Tryd.prog W = .ok (.slice A k c) W := by
  intro W
  rw [run_slice_h W _ A n c Tryd.underSl kh k (by omega) (by omega), run_sizeU8]
  simp only [Result.andThen, sliced, Int.toNat_natCast, Nat.mul_one, Nat.sub_zero]
  congr 1
  split
  · rfl
  · cases A with
    | none => rfl
    | some a => simp [Addr.add]
/-- b[l:h] -/
theorem run_cut (A : Option Addr) (n c l h : Nat) (hl : l ≤ h) (hh : h ≤ c) : ∀ W : World, (Instr.slice 28 (.slice A n c) (some (.int .i64 (l : Int))) (some (.int .i64 (h : Int))) none).run Tryd.prog W = .ok (.slice (offA A l c) (h - l : Nat) (c - l : Nat)) W := by
  intro W
  rw [run_slice_lh W _ A n c Tryd.underSl .i64 .i64 l h (by omega) (by omega) (by omega), run_sizeU8]
  simp only [Result.andThen, sliced, Int.toNat_natCast, Nat.mul_one]
  rfl
theorem Rd.upto {w : World} {A : Option Addr} {n k : Nat} {bs : List Nat} (h : Rd .u8 w A n bs) (hk : k ≤ n) : Rd .u8 w A k (bs.take k) := by
  refine ⟨by rw [List.length_take, h.1]; omega, fun hn => ?_⟩
  obtain ⟨b, o, e, hb, hc⟩ := h.2 (by omega)
  refine ⟨b, o, e, hb, fun j hj => ?_⟩
  rw [hc j (by omega)]
  simp [List.getD, hj]
theorem Rd.cut {w : World} {A : Option Addr} {n l h c : Nat} {bs : List Nat} (hr : Rd .u8 w A n bs) (hl : l ≤ h) (hh : h ≤ n) (hc : n ≤ c) : Rd .u8 w (Go.Proofs.YtnkggopkcjffoaaDoor.offA A l c) (h - l) ((bs.drop l).take (h - l)) :=
  (hr.offA (k := l) (m := c) (by omega) hc).upto (by omega)

end Go.Proofs.YtnkggopkcjffoaaDoor

/-
  Layer 7: bytes.Replace, a byte 0 for a byte 0 and a byte 255.
-/
namespace Go.Proofs.YtnkggopkcjffoaaDoor
open Go.RowKit

theorem esc_plain : ∀ {xs : List Nat}, ¬ 0 ∈ xs → esc xs = xs
  | [], _ => rfl
  | x :: r, h => by
    rw [esc_pos _ (fun e => h (by rw [e]; exact List.mem_cons_self)), esc_plain (xs := r) (fun e => h (List.mem_cons_of_mem _ e))]
theorem zpos_take : ∀ {l : List Nat}, 0 ∈ l → l.take (zpos l + 1) = l.take (zpos l) ++ [0] ∧ ¬ 0 ∈ l.take (zpos l)
  | x :: r, h => by
    by_cases q : x = 0
    · subst q; simp [zpos]
    · rw [zpos, if_neg q]
      obtain ⟨h1, h2⟩ := zpos_take (l := r) ((List.mem_cons.1 h).resolve_left (fun e => q e.symm))
      rw [List.take_succ_cons, List.take_succ_cons, h1]
      refine ⟨rfl, fun e => ?_⟩
      rcases List.mem_cons.1 e with e | e
      · exact q e.symm
      · exact h2 e
/-- One byte 0 more is written. -/
theorem esc_more {bs : List Nat} {st : Nat} (h : 0 ∈ bs.drop st) :
    esc (bs.take (st + (zpos (bs.drop st) + 1))) = (esc (bs.take st) ++ (bs.drop st).take (zpos (bs.drop st))) ++ [0, 255] ∧
      (bs.drop (st + (zpos (bs.drop st) + 1))).count 0 + 1 = (bs.drop st).count 0 ∧ ((esc (bs.take st) ++ (bs.drop st).take (zpos (bs.drop st))) ++ [0, 255]).length ≤ (esc bs).length := by
  obtain ⟨h1, h2⟩ := zpos_take h
  have e1 : esc (bs.take (st + (zpos (bs.drop st) + 1))) = (esc (bs.take st) ++ (bs.drop st).take (zpos (bs.drop st))) ++ [0, 255] := by
    rw [List.take_add, esc_append, h1, esc_append, esc_plain h2, List.append_assoc]
    rfl
  refine ⟨e1, ?_, ?_⟩
  · have e2 : bs.drop (st + (zpos (bs.drop st) + 1)) = (bs.drop st).drop (zpos (bs.drop st) + 1) := by rw [List.drop_drop]
    rw [e2]
    have e3 := List.take_append_drop (zpos (bs.drop st) + 1) (bs.drop st)
    have e4 := congrArg (List.count 0) e3
    rw [List.count_append, h1, List.count_append, List.count_eq_zero_of_not_mem h2] at e4
    rw [show List.count 0 [0] = 1 from rfl] at e4
    omega
  · rw [← e1]
    have e3 := List.take_append_drop (st + (zpos (bs.drop st) + 1)) bs
    have e4 := congrArg (fun l => (esc l).length) e3
    simp only [esc_append, List.length_append] at e4
    omega

theorem splice_take {α : Type} {L cs : List α} {off : Nat} (h : off + cs.length ≤ L.length) : (splice L off cs).take (off + cs.length) = L.take off ++ cs := by
  unfold splice
  rw [← List.append_assoc]
  have : (L.take off ++ cs).length = off + cs.length := by rw [List.length_append, List.length_take]; omega
  rw [← this]
  exact List.take_left

/-- Bytes as they stand in memory. -/
def bV (xs : List Nat) : List Value := xs.map fun x : Nat => Value.int .u8 (x : Int)
theorem bV_len (xs : List Nat) : (bV xs).length = xs.length := List.length_map ..
theorem bV_append (xs ys : List Nat) : bV (xs ++ ys) = bV xs ++ bV ys := List.map_append ..
theorem bV_one {xs : List Nat} : ∀ v ∈ bV xs, v.oneCell' = true := fun v hv => by
  obtain ⟨x, _, rfl⟩ := List.mem_map.1 hv
  rfl
theorem bV_cells {w : World} {A : Option Addr} {n : Nat} {xs : List Nat} (h : Rd .u8 w A n xs) (h0 : 0 < (bV xs).length) : ∃ ad, A = some ad ∧ ∀ j v, (bV xs)[j]? = some v → w.cell? (ad.add j) = some v := by
  rw [bV_len] at h0
  obtain ⟨b, o, rfl, _, hc⟩ := h.2 (by rw [← h.1]; exact h0)
  refine ⟨⟨b, o, none⟩, rfl, fun j v hv => ?_⟩
  have hj : j < xs.length := by have := (List.getElem?_eq_some_iff.1 hv).1; rw [bV_len] at this; exact this
  unfold bV at hv
  rw [List.getElem?_map, List.getElem?_eq_getElem hj, Option.map_some] at hv
  injection hv with hv
  rw [Addr.add_lit, hc j (by rw [← h.1]; exact hj), ← hv, List.getD, List.getElem?_eq_getElem hj]
  rfl

/-- The row while it is written: its first wn cells are these. -/
def RowZ (w : World) (g tot wn : Nat) (X : List Nat) : Prop := ∃ cur : List Value, w.heap[g]? = some (.cells cur.toArray 5 (0, 0)) ∧ cur.length = tot ∧ X.length = wn ∧ cur.take wn = bV X

/-- The row's place for a copy. -/
theorem offA_own {g tot wn : Nat} (h : wn < tot) : offA (some ⟨g, 0, none⟩) wn tot = some ⟨g, wn, none⟩ := by
  unfold offA
  rw [if_neg (by omega)]
  simp [Addr.add]
  try exact fun h => h.symm
theorem RowZ.next {w : World} {g tot wn : Nat} {X C : List Nat} {cur : List Value} (h : w.heap[g]? = some (.cells (splice cur wn (bV C)).toArray 5 (0, 0))) (h2 : cur.length = tot) (h3 : X.length = wn) (h4 : cur.take wn = bV X) (hf : wn + C.length ≤ tot) : RowZ w g tot (wn + C.length) (X ++ C) := by
  refine ⟨_, h, ?_, by rw [List.length_append, h3], ?_⟩
  · rw [length_splice _ _ _ (by rw [bV_len]; omega), h2]
  · rw [show wn + C.length = wn + (bV C).length by rw [bV_len], splice_take (by rw [bV_len]; omega), h4, bV_append]

set_option maxRecDepth 100000 in
set_option maxHeartbeats 3200000 in
theorem replaceZ_any (A : Option Addr) (n c b1 c1 b2 c2 : Nat) (bs : List Nat) (w : World) (hx : Rd .u8 w A n bs) (hu : U8 bs) (hn : n ≤ 1000000) (hcap : n ≤ c) (hcm : c ≤ 9223372036854775807) (h1 : w.cell? ⟨b1, 0, none⟩ = some (.int .u8 0)) (h2 : Rd .u8 w (some ⟨b2, 0, none⟩) 2 [0, 255]) :
    Calls Tryd.prog 77 #[.slice A n c, .slice (some ⟨b1, 0, none⟩) 1 c1, .slice (some ⟨b2, 0, none⟩) 2 c2, .int .i64 (-1)] w fun e w' => ∃ A' c', e = .returned (.slice A' (esc bs).length c') ∧ Own .u8 5 w' w.heap.size A' c' (esc bs) ∧ Ext w w' := by
  have hbl := hx.len
  have HC := Lib.hid (countZ_any A b1 n c c1 bs w hx hu h1)
  have hec := esc_count bs
  rw [hbl] at hec
  have hcle : bs.count 0 ≤ n := by rw [← hbl]; exact List.count_le_length
  obtain ⟨m, hm⟩ : ∃ m, m = bs.count 0 := ⟨_, rfl⟩
  rw [← hm] at HC hec hcle
  by_cases hm0 : m = 0
  · subst hm0
    have he := esc_plain (xs := bs) (fun h => by have := List.count_pos_iff.2 h; omega)
    rw [he, hbl]
    have Hx := Lib.hid hx
    have Hbl := Lib.hid hbl
    clear hx hu hbl hec hcle hm he h1 h2
    go_enter Tryd.func77, Tryd.ntmps77
    go_wp2_with fail
    refine HC.out.mono ?_
    rintro e w1 ⟨rfl, rfl⟩
    go_wp2_with (at_builtin; refine wpList_pushes (w0 := w) .u8 5 rfl _ _ 28 rfl _ 1 Tryd.underlying28 Tryd.infoU8 rfl (Own.nil .u8 5 w w.heap.size) 0 rfl rfl rfl Hx.out (by omega) (by omega) (Ext.refl w) (by simp) ?_; intro A4 c4 w4 hown4 hb4 hz4)
    go_ret
    exact ⟨_, _, rfl, by simpa using hown4, hb4⟩
  · obtain ⟨tot, htot⟩ : ∃ tot, tot = n + m := ⟨_, rfl⟩
    rw [← htot] at hec
    have htb : tot ≤ 2000000 := by omega
    have htn : n ≤ tot := by omega
    have Htot := Lib.hid htot
    have Hec := Lib.hid hec
    have Hx := Lib.hid hx
    have Hu := Lib.hid hu
    have Hbl := Lib.hid hbl
    have Hm := Lib.hid hm
    have H1 := Lib.hid h1
    have H2 := Lib.hid h2
    have hm1 : m ≤ 1000000 := by omega
    have hmp : 0 < m := by omega
    have hmb : ((m : Int) == 0) = false := by rw [beq_eq_false_iff_ne]; omega
    rw [hec]
    clear htot hec hx hu hbl hm h1 h2 hm0 hcle
    go_enter Tryd.func77, Tryd.ntmps77
    go_wp2_with fail
    refine HC.out.mono ?_
    rintro e w1 ⟨rfl, rfl⟩
    go_wp2_with (first | (at_make; refine wpList_mk .u8 5 rfl _ _ 28 rfl 1 Tryd.underlying28 Tryd.infoU8 _ _ tot rfl rfl (by have := Htot.out; omega) (by have := Htot.out; omega) (by omega) (by omega) ?_; intro w7 hown7 he7) | fail)
    have hrow0 : RowZ w7 w.heap.size tot 0 (esc (bs.take 0)) := by
      rcases hown7.2 with ⟨_, h0⟩ | ⟨g, cap, cur, hv, hbg, hh, hnc, hcm2, hcs, htake⟩
      · simp at h0; have := Htot.out; omega
      · injection hv with hA hl hc
        injection hA with hA
        injection hA with hA
        subst hA
        subst hc
        exact ⟨cur.toList, by simpa using hh, by simpa using hcs, rfl, by simp [bV, esc]⟩
    have H0 := Lib.hid hrow0
    have HE7 := Lib.hid he7
    obtain ⟨g, hg⟩ : ∃ g, g = w.heap.size := ⟨_, rfl⟩
    rw [← hg] at H0 ⊢
    have Hg := Lib.hid hg
    clear hrow0 hown7 he7 hg
    go_loopw [11, 12, 13, 49] (fun wv sv _ i wr => ∃ (q st wn : Nat), q ≤ m ∧ i = .int .i64 q ∧ sv = .int .i64 st ∧ wv = .int .i64 wn ∧ st ≤ n ∧ wn ≤ tot ∧ Hid (RowZ wr g tot wn (esc (bs.take st))) ∧ Hid ((bs.drop st).count 0 + q = m) ∧ Hid (Ext w wr)) (fun _ _ _ i _ => m - (intOf i).toNat)
    case atStart => exact ⟨0, 0, 0, Nat.zero_le _, rfl, rfl, rfl, Nat.zero_le _, Nat.zero_le _, H0.out, by show (bs.drop 0).count 0 + 0 = m; rw [List.drop_zero, Nat.add_zero]; exact Hm.out.symm, HE7.out⟩
    case round =>
      clear H0 HE7
      obtain ⟨q, st, wn, hq, rfl, rfl, rfl, hst, hwn, HR, HQ, HE⟩ := hrel
      have hr9 := (Hx.out.ext HE.out).offA (k := st) (m := c) hst hcap
      have sl1 := run_from A n c st hst
      obtain ⟨A9, hA9⟩ : ∃ A9, A9 = offA A st c := ⟨_, rfl⟩
      have hrl : (bs.drop st).length = n - st := hr9.len
      have hur : U8 (bs.drop st) := fun v hv => Hu.out v (List.mem_of_mem_drop hv)
      by_cases hlt : q < m
      · have h0 : 0 ∈ bs.drop st := by
          refine List.count_pos_iff.1 ?_
          have := HQ.out
          omega
        obtain ⟨f1, f2, f3⟩ := esc_more h0
        have hz := zpos_lt h0
        have hi := idx_pos hur
        rw [if_pos h0] at hi
        obtain ⟨z, hze⟩ : ∃ z, z = zpos (bs.drop st) := ⟨_, rfl⟩
        rw [← hze] at f1 f2 f3 hz hi
        rw [hrl] at hz
        have sc := run_cut A n c st (st + z) (by omega) (by omega)
        rw [show st + z - st = z by omega, show ((st + z : Nat) : Int) = (st : Int) + (z : Int) by omega] at sc
        have hrz := (Hx.out).cut (l := st) (h := st + z) (c := c) (by omega) (by omega) hcap
        rw [show st + z - st = z by omega] at hrz
        rw [← hA9] at sl1 sc hrz hr9
        have HI := Lib.hid (indexS_any A9 b1 (n - st) (c - st) c1 (bs.drop st) wr hr9 ((HE.out.cells b1 0 (World.block_lt_of_cell? _ _ H1.out)).trans H1.out))
        rw [hi] at HI
        obtain ⟨cur, r1, r2, r3, r4⟩ := HR.out
        rw [List.length_append, List.length_append, Hec.out, r3, List.length_take, hrl, Nat.min_eq_left (by omega)] at f3
        have hz2 : wn + z + 2 ≤ tot := by simpa using f3
        have st1 := run_from (some ⟨g, 0, none⟩) tot tot wn hwn
        rw [offA_own (show wn < tot by omega)] at st1
        obtain ⟨C, hC⟩ : ∃ C, C = bV ((bs.drop st).take z) := ⟨_, rfl⟩
        have hCl : C.length = z := by rw [hC, bV_len]; exact hrz.len
        obtain ⟨y, hy⟩ : ∃ y, y = wn + z := ⟨_, rfl⟩
        have j1 : IntKind.i64.wrap ((wn : Int) + (z : Int)) = ((y : Nat) : Int) := (IntWalk.i64_in _ (by omega)).trans (by omega)
        have st2 := run_from (some ⟨g, 0, none⟩) tot tot y (by omega)
        rw [offA_own (show y < tot by omega)] at st2
        have HC1 := Lib.hid hC
        have Hy := Lib.hid hy
        have Hf1 := Lib.hid f1
        have Hf2 := Lib.hid f2
        have Hr3 := Lib.hid r3
        have Hr4 := Lib.hid r4
        have Hrzl := Lib.hid hrz.len
        have hz3 : st + (z + 1) ≤ n := by omega
        have hCl2 : (bV [0, 255]).length = 2 := rfl
        have Hr1 := Lib.hid r1
        have Hr2 := Lib.hid r2
        have Hrz := Lib.hid hrz
        clear hr9 hA9 hrl hur h0 hi hze hrz r1 r2 r3 r4 hC hy f1 f2 f3
        go_wp2_with fail
        refine HI.out.mono ?_
        rintro e w2 ⟨rfl, rfl⟩
        go_wp2_with fail
        have HEx := Lib.hid (fun W (h : Ext wr W) => HE.out.trans h)
        go_region_held3 (fun _ => True) (exact trivial) (first
          | (refine step_copy_splice (by rfl) _ _ 28 28 (by rfl) 5 Tryd.underlying28 (by kernel_rfl) _ _ _ _ _ _ (by rfl) (by rfl) g wn cur 5 (by exact Hr1.out) C (by rw [hCl]; exact (Nat.min_eq_left (by omega)).symm) (fun hp => ⟨rfl, by rw [HC1.out]; exact bV_cells (Hrz.out.ext (HEx.out _ (by (repeat (first | (with_reducible exact Ext.refl _) | (with_reducible apply Ext.drew) | fail))))) (by rw [← HC1.out]; exact hp)⟩) (by rw [hCl, Hr2.out]; omega) (by rw [HC1.out]; exact bV_one) w.heap.size w (HEx.out _ (by (repeat (first | (with_reducible exact Ext.refl _) | (with_reducible apply Ext.drew) | fail)))) (by rw [Hg.out]; exact Nat.le_refl _) ?_; intro w4 hg4 hb4)
          | fail)
        have HR5 : Hid (RowZ w4 g tot y (esc (bs.take st) ++ (bs.drop st).take z)) := Lib.hid (by
          have := RowZ.next (X := esc (bs.take st)) (C := (bs.drop st).take z) (by rw [← HC1.out]; exact hg4.out) Hr2.out Hr3.out Hr4.out (by rw [Hrzl.out]; omega)
          rw [Hrzl.out, ← Hy.out] at this
          exact this)
        have HB4 : Hid (Ext w w4) := Lib.hid hb4
        clear hg4 hb4
        obtain ⟨cur2, u1, u2, u3, u4⟩ := HR5.out
        have Hu1 := Lib.hid u1
        have Hu2 := Lib.hid u2
        have Hu3 := Lib.hid u3
        have Hu4 := Lib.hid u4
        obtain ⟨C2, hC2⟩ : ∃ C2, C2 = bV [0, 255] := ⟨_, rfl⟩
        rw [← hC2] at hCl2
        have HC2 := Lib.hid hC2
        have hy2 : y + 2 ≤ tot := by have := Hy.out; omega
        clear u1 u2 u3 u4 hC2
        go_wp2_with (refine wpList_copy_splice rfl _ _ 28 28 rfl 5 Tryd.underlying28 (by kernel_rfl) _ _ _ _ _ _ rfl rfl g y cur2 5 Hu1.out C2 (by rw [hCl2]; exact (Nat.min_eq_left (by omega)).symm) (fun hp => ⟨rfl, by rw [HC2.out]; exact bV_cells (H2.out.ext HB4.out) (by rw [← HC2.out]; exact hp)⟩) (by rw [hCl2, Hu2.out]; omega) (by rw [HC2.out]; exact bV_one) w.heap.size w HB4.out (by rw [Hg.out]; exact Nat.le_refl _) ?_; intro w5 hg5 hb5)
        have HR6 : Hid (RowZ w5 g tot (y + 2) (esc (bs.take (st + (z + 1))))) := Lib.hid (by
          have := RowZ.next (X := esc (bs.take st) ++ (bs.drop st).take z) (C := [0, 255]) (by rw [← HC2.out]; exact hg5.out) Hu2.out Hu3.out Hu4.out hy2
          rw [Hf1.out]
          exact this)
        have HB5 : Hid (Ext w w5) := Lib.hid hb5
        clear hg5 hb5
        go_wp2_with fail
        go_roundw
        case rel => exact ⟨q + 1, st + (z + 1), y + 2, by omega, by go_num, by go_num, by go_num, hz3, hy2, HR6.out, Lib.hid (by have := Hf2.out; have := HQ.out; omega), HB5.out⟩
        case measure => simp [intOf]; omega
      · obtain rfl : q = m := by omega
        have h0 : ¬ 0 ∈ bs.drop st := fun h => by
          have := List.count_pos_iff.2 h
          have := HQ.out
          omega
        have hE : esc bs = esc (bs.take st) ++ bs.drop st := by
          have := esc_append (bs.take st) (bs.drop st)
          rw [List.take_append_drop, esc_plain h0] at this
          exact this
        obtain ⟨cur, r1, r2, r3, r4⟩ := HR.out
        have hwl : wn + (n - st) = tot := by
          have := congrArg List.length hE
          rw [Hec.out, List.length_append, r3, hrl] at this
          omega
        obtain ⟨r, hr⟩ : ∃ r, r = n - st := ⟨_, rfl⟩
        rw [← hA9, ← hr] at sl1
        rw [← hA9, ← hr] at hr9
        rw [← hr] at hwl
        have st1 := run_from (some ⟨g, 0, none⟩) tot tot wn hwn
        obtain ⟨B1, hB1⟩ : ∃ B1, B1 = offA (some ⟨g, 0, none⟩) wn tot := ⟨_, rfl⟩
        rw [← hB1] at st1
        obtain ⟨r2', hr2⟩ : ∃ r2', r2' = tot - wn := ⟨_, rfl⟩
        rw [← hr2] at st1
        have st3 := run_cut (some ⟨g, 0, none⟩) tot tot 0 tot (by omega) (Nat.le_refl _)
        rw [offA_own (show 0 < tot by have := Htot.out; omega), Nat.sub_zero] at st3
        have st4 : ∀ W : World, (Instr.slice 28 (.slice (some ⟨g, 0, none⟩) tot tot) (some (.int .i64 0)) (some (.int .i64 (tot : Int))) none).run Tryd.prog W = .ok (.slice (some ⟨g, 0, none⟩) tot tot) W := fun W => st3 W
        obtain ⟨C, hC⟩ : ∃ C, C = bV (bs.drop st) := ⟨_, rfl⟩
        have hCl : C.length = r := by rw [hC, bV_len, hrl, hr]
        have j1 : IntKind.i64.wrap ((wn : Int) + (r : Int)) = ((tot : Nat) : Int) := (IntWalk.i64_in _ (by omega)).trans (by omega)
        have hrr : r2' = r := by omega
        subst hrr
        have HC1 := Lib.hid hC
        have HB1 := Lib.hid hB1
        have Hr1 := Lib.hid r1
        have Hr2 := Lib.hid r2
        have Hr3 := Lib.hid r3
        have Hr4 := Lib.hid r4
        have HEq := Lib.hid hE
        have Hwl := Lib.hid hwl
        have Hrl := Lib.hid hrl
        have Hrr := Lib.hid hr
        have Hr9 := Lib.hid hr9
        have HEx := Lib.hid (fun W (h : Ext wr W) => HE.out.trans h)
        have HR9x := Lib.hid (fun W (h : Ext wr W) => hr9.ext h)
        clear hrl hr9 hA9 hur h0 hE r1 r2 r3 r4 hwl hr hr2 hB1 st3 hC
        go_wp2_with fail
        go_region_held3 (fun _ => True) (exact trivial) (first
          | (refine step_copy_splice (by rfl) _ _ 28 28 (by rfl) 5 Tryd.underlying28 (by kernel_rfl) _ _ _ _ _ _ (by rfl) (by rfl) g wn cur 5 (by exact Hr1.out) C (by rw [hCl]; exact (Nat.min_self _).symm) (fun hp => ⟨by rw [HB1.out]; exact offA_own (by have := Hwl.out; omega), by rw [HC1.out]; exact bV_cells (HR9x.out _ (by (repeat (first | (with_reducible exact Ext.refl _) | (with_reducible apply Ext.drew) | fail)))) (by rw [← HC1.out]; exact hp)⟩) (by rw [hCl, Hr2.out]; have := Hwl.out; omega) (by rw [HC1.out]; exact bV_one) w.heap.size w (HEx.out _ (by (repeat (first | (with_reducible exact Ext.refl _) | (with_reducible apply Ext.drew) | fail)))) (by rw [Hg.out]; exact Nat.le_refl _) ?_; intro w4 hg4 hb4)
          | fail)
        have HR5 : Hid (RowZ w4 g tot tot (esc bs)) := Lib.hid (by
          have := RowZ.next (X := esc (bs.take st)) (C := bs.drop st) (by rw [← HC1.out]; exact hg4.out) Hr2.out Hr3.out Hr4.out (by rw [Hrl.out, ← Hrr.out]; have := Hwl.out; omega)
          rw [Hrl.out, ← Hrr.out, Hwl.out, ← HEq.out] at this
          exact this)
        have HB4 : Hid (Ext w w4) := Lib.hid hb4
        clear hg4 hb4
        go_wp2_with fail
        go_ret
        refine ⟨_, _, rfl, ?_, HB4.out⟩
        obtain ⟨cur2, u1, u2, u3, u4⟩ := HR5.out
        exact ⟨by simp, .inr ⟨g, tot, cur2.toArray, by rw [u3], by rw [Hg.out]; exact Nat.le_refl _, u1, by rw [u3]; exact Nat.le_refl _, by unfold maxLen; omega, by simpa using u2, by rw [u3, Nat.mul_one]; exact u4⟩⟩

end Go.Proofs.YtnkggopkcjffoaaDoor

/-
  Layer 7: the program's put.
-/
namespace Go.Proofs.YtnkggopkcjffoaaDoor
open Go.RowKit

theorem replaceAllZ_any (A : Option Addr) (n c b1 c1 b2 c2 : Nat) (bs : List Nat) (w : World) (hx : Rd .u8 w A n bs) (hu : U8 bs) (hn : n ≤ 1000000) (hcap : n ≤ c) (hcm : c ≤ 9223372036854775807) (h1 : w.cell? ⟨b1, 0, none⟩ = some (.int .u8 0)) (h2 : Rd .u8 w (some ⟨b2, 0, none⟩) 2 [0, 255]) :
    Calls Tryd.prog 66 #[.slice A n c, .slice (some ⟨b1, 0, none⟩) 1 c1, .slice (some ⟨b2, 0, none⟩) 2 c2] w fun e w' => ∃ A' c', e = .returned (.slice A' (esc bs).length c') ∧ Own .u8 5 w' w.heap.size A' c' (esc bs) ∧ Ext w w' := by
  have HR := Lib.hid (replaceZ_any A n c b1 c1 b2 c2 bs w hx hu hn hcap hcm h1 h2)
  clear hx hu h1 h2
  go_enter Tryd.func66, Tryd.ntmps66
  go_wp2_with fail
  refine HR.out.mono ?_
  rintro e w1 ⟨A1, c1, rfl, hown1, he1⟩
  go_wp2_with fail
  go_ret
  exact ⟨_, _, rfl, hown1, he1⟩

set_option maxHeartbeats 800000 in
theorem kputP_any (k num : Int) (nul : Bool) (A : Option Addr) (n c : Nat) (txt : List Nat) (w : World) (hx : Rd .u8 w A n txt) (hu : U8 txt) (hn : n ≤ 200) (hcap : n ≤ c) (hcm : c ≤ 9223372036854775807) (hk : 1 ≤ k ∧ k ≤ 8) (hnum : k ≤ 6 → least k ≤ num ∧ num ≤ great k) :
    Calls Tryd.prog 41 #[.int .i64 k, .agg #[.bool nul, .int .i64 num, .slice A n c]] w fun e w' => ∃ A' c', e = .returned (.slice A' (kput k num txt).length c') ∧ Own .u8 5 w' w.heap.size A' c' (kput k num txt) ∧ Ext w w' := by
  have hbl := hx.len
  by_cases h6 : k ≤ 6
  · obtain ⟨q1, q2⟩ := hnum h6
    have hkp : kput k num txt = be (ksize k) (num - least k).toNat := if_pos h6
    have hK : numK k = true := by unfold numK; simp; omega
    have HN := Lib.hid (fun W => number_any k W)
    rw [hK] at HN
    have HP := Lib.hid (fun (W : World) => putNumber_any k num W ⟨hk.1, h6⟩ q1 q2)
    rw [hkp, be_len]
    obtain ⟨X, hX⟩ : ∃ X, X = be (ksize k) (num - least k).toNat := ⟨_, rfl⟩
    rw [← hX] at HP ⊢
    clear hx hu hbl hkp hK hX hnum q1 q2
    go_enter Tryd.func41, Tryd.ntmps41
    go_wp2_with fail
    refine (HN.out _).mono ?_
    rintro e w1 ⟨rfl, rfl⟩
    go_wp2_with fail
    refine (HP.out _).mono ?_
    rintro e w2 ⟨A2, c2, rfl, hown, he⟩
    go_wp2_with fail
    go_ret
    exact ⟨_, _, rfl, hown.mono (by simp), ((Ext.refl w).alloc _).trans he⟩
  · have hK : numK k = false := by unfold numK; simp; omega
    have HN := Lib.hid (fun W => number_any k W)
    rw [hK] at HN
    have Hx := Lib.hid hx
    have Hu := Lib.hid hu
    have Hbl := Lib.hid hbl
    by_cases h7 : k = 7
    · subst h7
      have hkp : kput 7 num txt = txt ++ [0] := by unfold kput; rw [if_neg (by decide), if_pos rfl]
      have hfl : ([txt, [0]] : List (List Nat)).flatten = kput 7 num txt := by rw [hkp]; simp
      have hll : (kput 7 num txt).length = n + 1 := by rw [hkp, List.length_append, hbl]; rfl
      obtain ⟨X, hX⟩ : ∃ X, X = kput 7 num txt := ⟨_, rfl⟩
      rw [← hX] at hfl hll ⊢
      have Hfl := Lib.hid hfl
      have Hll := Lib.hid hll
      clear hx hu hbl hkp hK hX hnum hfl hll
      go_enter Tryd.func41, Tryd.ntmps41
      go_wp2_with fail
      refine (HN.out _).mono ?_
      rintro e w1 ⟨rfl, rfl⟩
      go_wp2_with fail
      refine (concat_any _ 2 2 [txt, [0]] _ (RdSS.two 28 _ (by simp) (Hx.out.ext (((Ext.refl w).alloc _).alloc _)) (Rd.lit_at .u8 5 _ [0] (by simp) rfl)) (by rw [Hfl.out, Hll.out]; omega) (by omega)).mono ?_
      rintro e w2 ⟨A1, c1, rfl, hown1, he1⟩
      rw [Hfl.out] at hown1 ⊢
      go_wp2_with fail
      go_ret
      exact ⟨A1, c1, rfl, hown1.mono (by simp; omega), ((((Ext.refl w).alloc _).alloc _).alloc _).trans he1⟩
    · obtain rfl : k = 8 := by omega
      have hkp : kput 8 num txt = esc txt ++ [0, 0] := by unfold kput; rw [if_neg (by decide), if_neg (by decide)]
      have hel := esc_len txt
      rw [hbl] at hel
      obtain ⟨m, hm⟩ : ∃ m, m = (esc txt).length := ⟨_, rfl⟩
      rw [← hm] at hel
      have hll : (kput 8 num txt).length = m + 2 := by rw [hkp, List.length_append, ← hm]; rfl
      have HE : Hid (∀ (W : World) (b1 b2 c1 c2 : Nat), Ext w W → W.cell? ⟨b1, 0, none⟩ = some (.int .u8 0) → Rd .u8 W (some ⟨b2, 0, none⟩) 2 [0, 255] → Calls Tryd.prog 66 #[.slice A n c, .slice (some ⟨b1, 0, none⟩) 1 c1, .slice (some ⟨b2, 0, none⟩) 2 c2] W fun e w' => ∃ A' c', e = .returned (.slice A' m c') ∧ Own .u8 5 w' W.heap.size A' c' (esc txt) ∧ Ext W w') := Lib.hid fun W b1 b2 c1 c2 hE h1 h2 => by
        have := replaceAllZ_any A n c b1 c1 b2 c2 txt W (Hx.out.ext hE) Hu.out (by omega) hcap hcm h1 h2
        rw [← hm] at this
        exact this
      rw [hll, hkp]
      have Hm := Lib.hid hm.symm
      clear hx hu hbl hkp hK hm hnum hll
      go_enter Tryd.func41, Tryd.ntmps41
      go_wp2_with fail
      refine (HN.out _).mono ?_
      rintro e w1 ⟨rfl, rfl⟩
      go_wp2_with fail
      have hE0 : Ext w (((w.alloc (.cells #[.bool nul, .int .i64 num, .slice A n c] 63)).alloc (.cells #[.int .u8 0] 5)).alloc (.cells #[.int .u8 0, .int .u8 255] 5)) := (((Ext.refl w).alloc _).alloc _).alloc _
      have hc1 : (((w.alloc (.cells #[.bool nul, .int .i64 num, .slice A n c] 63)).alloc (.cells #[.int .u8 0] 5)).alloc (.cells #[.int .u8 0, .int .u8 255] 5)).cell? ⟨w.heap.size + 1, 0, none⟩ = some (.int .u8 0) := by
        obtain ⟨b', o', e, _, hc⟩ := ((Rd.lit_at .u8 5 (w.alloc (.cells #[.bool nul, .int .i64 num, .slice A n c] 63)) [0] (b := w.heap.size + 1) (n := 1) (by simp) rfl).ext ((Ext.refl _).alloc (.cells #[.int .u8 0, .int .u8 255] 5))).2 (by omega)
        injection e with e
        injection e with e1 e2
        subst e1 e2
        exact hc 0 (by omega)
      refine (HE.out _ (w.heap.size + 1) (w.heap.size + 1 + 1) 1 2 hE0 hc1 (Rd.lit_at .u8 5 _ [0, 255] (by simp) rfl)).mono ?_
      rintro e w2 ⟨A2, c2, rfl, hown2, he2⟩
      have hb2 := hE0.trans he2
      have hown3 := hown2.mono (base' := w.heap.size) hE0.size
      clear hown2 he2 hE0
      go_wp2_with (at_builtin; refine wpList_pushes (w0 := w) .u8 5 rfl _ _ 28 rfl _ 1 Tryd.underlying28 Tryd.infoU8 rfl (hown3.ext ((Ext.refl _).alloc _)) m Hm.out rfl rfl (Rd.lit_at .u8 5 w2 [0, 0] rfl rfl) (by omega) (by omega) (hb2.alloc _) (by have := hb2.size; simp; omega) ?_; intro A4 c4 w4 hown4 hb4 hz4)
      go_ret
      exact ⟨A4, c4, rfl, hown4, hb4⟩

end Go.Proofs.YtnkggopkcjffoaaDoor
