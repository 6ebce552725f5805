import Derived.Test.YtnkggopkcjffoaaDoorG2
import Derived.Maps.OwnSet
import Derived.Maps.Views
import Derived.Lib.SlicesS
import Derived.Lib.SlBytesConst
import Derived.Laws.IdiomStrings

/-
  Layer 6: columns as they lie; a name by the document; a kind by the program.
-/
namespace Go.Proofs.YtnkggopkcjffoaaDoor
open Go.RowKit

/-- A column. -/
structure Col where
  name : ByteArray
  kind : Int
  null : Bool

/-- The slice of columns (A, n) reads, in w, as cs. -/
def RdC (w : World) (A : Option Addr) (n : Nat) (cs : List Col) : Prop :=
  cs.length = n ∧ (0 < n → ∃ b o, A = some ⟨b, o, none⟩ ∧ b < w.heap.size ∧ ∀ j c, cs[j]? = some c →
    w.cell? ⟨b, o + j * 3, none⟩ = some (.string c.name) ∧ w.cell? ⟨b, o + j * 3 + 1, none⟩ = some (.int .i64 c.kind) ∧ w.cell? ⟨b, o + j * 3 + 2, none⟩ = some (.bool c.null))

theorem RdC.ext {w w' : World} {A : Option Addr} {n : Nat} {cs : List Col} (h : RdC w A n cs) (hb : Ext w w') : RdC w' A n cs :=
  ⟨h.1, fun hn => by
    obtain ⟨b, o, e, hlt, hc⟩ := h.2 hn
    refine ⟨b, o, e, Nat.lt_of_lt_of_le hlt hb.size, fun j f hj => ?_⟩
    obtain ⟨h1, h2, h3⟩ := hc j f hj
    exact ⟨(hb.cells b _ hlt).trans h1, (hb.cells b _ hlt).trans h2, (hb.cells b _ hlt).trans h3⟩⟩

theorem RdC.at_ {w : World} {A : Option Addr} {n : Nat} {cs : List Col} (h : RdC w A n cs) {j : Nat} (hj : j < n) :
    ∃ b o c, A = some ⟨b, o, none⟩ ∧ b < w.heap.size ∧ cs[j]? = some c ∧ w.cell? ⟨b, o + j * 3, none⟩ = some (.string c.name) ∧ w.cell? ⟨b, o + j * 3 + 1, none⟩ = some (.int .i64 c.kind) ∧ w.cell? ⟨b, o + j * 3 + 2, none⟩ = some (.bool c.null) := by
  obtain ⟨b, o, e, hlt, hc⟩ := h.2 (by omega)
  have hjl : j < cs.length := by rw [h.1]; exact hj
  have hf : cs[j]? = some cs[j] := List.getElem?_eq_getElem hjl
  obtain ⟨h1, h2, h3⟩ := hc j _ hf
  exact ⟨b, o, _, e, hlt, hf, h1, h2, h3⟩

theorem letter_key (x : Nat) : (letter x = true ∧ decide ((97 : Int) ≤ (x : Int)) = true ∧ decide ((x : Int) ≤ 122) = true) ∨
      (letter x = true ∧ ((decide ((97 : Int) ≤ (x : Int)) = true ∧ decide ((x : Int) ≤ 122) = false) ∨ decide ((97 : Int) ≤ (x : Int)) = false) ∧ decide ((48 : Int) ≤ (x : Int)) = true ∧ decide ((x : Int) ≤ 57) = true) ∨
      (letter x = true ∧ x = 95) ∨
      (letter x = false ∧ ((decide ((97 : Int) ≤ (x : Int)) = true ∧ decide ((x : Int) ≤ 122) = false) ∨ decide ((97 : Int) ≤ (x : Int)) = false) ∧ ((decide ((48 : Int) ≤ (x : Int)) = true ∧ decide ((x : Int) ≤ 57) = false) ∨ decide ((48 : Int) ≤ (x : Int)) = false) ∧ ((x : Int) == 95) = false) := by
  simp only [decide_eq_true_eq, decide_eq_false_iff_not, beq_eq_false_iff_ne]
  by_cases h : (97 ≤ x ∧ x ≤ 122) ∨ (48 ≤ x ∧ x ≤ 57) ∨ x = 95
  · have := letter_yes h
    rw [this]
    simp only [true_and, Bool.true_eq_false, false_and, or_false]
    omega
  · have := letter_no h
    rw [this]
    simp only [Bool.false_eq_true, false_and, false_or, true_and]
    omega

set_option maxHeartbeats 1600000 in
theorem refName_any (s : ByteArray) (w : World) (hs : s.size ≤ 140737488355328) :
    Calls Tryd.prog 52 #[.string s] w fun e w' => e = .returned (.bool (nameB s)) ∧ w = w' := by
  by_cases h : 1 ≤ s.size ∧ s.size ≤ 24
  · obtain ⟨B, hB⟩ : ∃ B, B = nameB s := ⟨_, rfl⟩
    rw [← hB]
    have HB := Lib.hid hB
    have h1 : 1 ≤ s.size := h.1
    have h2 : s.size ≤ 24 := h.2
    have a1 : decide (s.size < 1) = false := decide_eq_false (by omega)
    have a2 : decide (24 < s.size) = false := decide_eq_false (by omega)
    have a3 : decide ((s.size : Int) < 1) = false := decide_eq_false (by omega)
    have Hh := Lib.hid h
    clear hB h
    go_enter Tryd.func52, Tryd.ntmps52
    go_wp2
    go_loop [3] (fun i => ∃ j : Nat, j ≤ s.size ∧ i = .int .i64 j ∧ Hid (∀ t (ht : t < s.size), t < j → letter s[t].toNat = true)) (fun i => s.size - (intOf i).toNat)
    case atStart => exact ⟨0, Nat.zero_le _, rfl, fun t _ ht => absurd ht (by omega)⟩
    case round =>
      obtain ⟨j, hj, rfl, Hs⟩ := hrel
      by_cases hlt : j < s.size
      · have hkey := letter_key s[j].toNat
        obtain ⟨L, hL⟩ : ∃ L, L = letter s[j].toNat := ⟨_, rfl⟩
        rw [← hL] at hkey
        have HL := Lib.hid hL
        clear hL
        have yes : Hid (L = true → ∀ t (ht : t < s.size), t < j + 1 → letter s[t].toNat = true) := Lib.hid (fun e t ht hlt2 => by
          by_cases q : t < j
          · exact Hs.out t ht q
          · obtain rfl : t = j := by omega
            rw [← HL.out]; exact e)
        have no : Hid (L = false → B = false) := Lib.hid (fun e => HB.out.trans (nameB_bad hlt (by rw [← HL.out]; exact e)))
        rcases hkey with ⟨rfl, a1, a2⟩ | ⟨rfl, a1, a2, a3⟩ | ⟨rfl, a1⟩ | ⟨rfl, a1, a2, a3⟩
        · clear HL
          go_wp2
          go_round
          case rel => exact ⟨j + 1, by omega, by go_num, yes.out rfl⟩
          case measure => simp [intOf]; omega
        · clear HL
          rcases a1 with ⟨a1, b1⟩ | a1
          all_goals
            go_wp2
            go_round
            case rel => exact ⟨j + 1, by omega, by go_num, yes.out rfl⟩
            case measure => simp [intOf]; omega
        · clear HL
          have c1 : decide ((97 : Int) ≤ (s[j].toNat : Int)) = false := decide_eq_false (by omega)
          have c2 : decide ((s[j].toNat : Int) ≤ 57) = false := decide_eq_false (by omega)
          have c3 : decide ((48 : Int) ≤ (s[j].toNat : Int)) = true := decide_eq_true (by omega)
          have c4 : ((s[j].toNat : Int) == 95) = true := by rw [beq_iff_eq]; omega
          clear a1
          go_wp2
          go_round
          case rel => exact ⟨j + 1, by omega, by go_num, yes.out rfl⟩
          case measure => simp [intOf]; omega
        · clear HL
          have HE := Lib.hid (no.out rfl)
          rcases a1 with ⟨a1, b1⟩ | a1 <;> rcases a2 with ⟨a2, b2⟩ | a2
          all_goals
            go_wp2
            go_ret
            exact ⟨by rw [HE.out]; rfl, rfl⟩
      · have HE := Lib.hid (HB.out.trans (nameB_ok Hh.out (fun t ht => Hs.out t ht (by omega))))
        go_wp2
        go_ret
        exact ⟨by rw [HE.out]; rfl, rfl⟩
  · rw [nameB_len h]
    by_cases h1 : s.size < 1
    · have a1 : (s.size : Int) < 1 := by omega
      clear h
      go_enter Tryd.func52, Tryd.ntmps52
      go_wp2
      go_ret
      exact ⟨rfl, rfl⟩
    · have a1 : decide ((s.size : Int) < 1) = false := decide_eq_false (by omega)
      have a2 : 24 < s.size := by omega
      clear h
      go_enter Tryd.func52, Tryd.ntmps52
      go_wp2
      go_ret
      exact ⟨rfl, rfl⟩

theorem skind_any (k : Int) (w : World) :
    Calls Tryd.prog 59 #[.int .i64 k] w fun e w' => e = .returned (.bool (kindK k)) ∧ Ext w w' := by
  by_cases hk : 1 ≤ k ∧ k ≤ 8
  · rw [kindK_yes hk]
    have H := Lib.hid (show chk k true true 0 [] = 0 by rw [chk_null hk]; simp)
    clear hk
    go_enter Tryd.func59, Tryd.ntmps59
    go_wp2_with fail
    refine (check_any k true true 0 none 0 0 [] _ (Rd.nil ..) (by decide) (by decide) (by decide) (by decide)).mono ?_
    rintro e w1 ⟨rfl, he1⟩
    rw [H.out]
    go_wp2
    go_ret
    exact ⟨rfl, he1⟩
  · rw [kindK_no hk]
    have H := Lib.hid (chk_arg (ok := true) (nul := true) (num := 0) (txt := []) hk)
    clear hk
    go_enter Tryd.func59, Tryd.ntmps59
    go_wp2_with fail
    refine (check_any k true true 0 none 0 0 [] _ (Rd.nil ..) (by decide) (by decide) (by decide) (by decide)).mono ?_
    rintro e w1 ⟨rfl, he1⟩
    rw [H.out]
    go_wp2
    go_ret
    exact ⟨rfl, he1⟩

end Go.Proofs.YtnkggopkcjffoaaDoor

/-
  Plain mathematics of layer 6: schemas.
-/
namespace Go.Proofs.YtnkggopkcjffoaaDoor
open Go.RowKit Go.Maps Go.WideMaps

/-- A column's own rules. -/
def colB (keys : Int) (i : Nat) (c : Col) : Bool := nameB c.name && kindK c.kind && !(c.null && decide ((i : Int) < keys))
def colsB (keys : Int) : Nat → List Col → Bool
  | _, [] => true
  | i, c :: r => colB keys i c && colsB keys (i + 1) r
theorem colsB_iff {keys : Int} : ∀ {cs : List Col} {i : Nat}, colsB keys i cs = true ↔ ∀ j c, cs[j]? = some c → colB keys (i + j) c = true
  | [], i => by simp [colsB]
  | c :: r, i => by
    rw [colsB, Bool.and_eq_true, colsB_iff]
    constructor
    · rintro ⟨h1, h2⟩ j d hj
      cases j with
      | zero => simp at hj; subst hj; exact h1
      | succ j => have := h2 j d (by simpa using hj); rwa [show i + 1 + j = i + (j + 1) from by omega] at this
    · intro h
      refine ⟨h 0 c rfl, fun j d hj => ?_⟩
      have := h (j + 1) d (by simpa using hj)
      rwa [show i + (j + 1) = i + 1 + j from by omega] at this

/-- A schema's names. -/
def names (cs : List Col) : List (List UInt8) := cs.map fun c => c.name.data.toList
/-- Is a schema right? -/
def schB (keys : Int) (cs : List Col) : Bool := decide (1 ≤ cs.length ∧ cs.length ≤ 12 ∧ 1 ≤ keys ∧ keys ≤ 3 ∧ keys ≤ cs.length) && colsB keys 0 cs && decide ((names cs).Nodup)
def schE (keys : Int) (cs : List Col) : Int := if schB keys cs = true then 0 else 60

theorem schE_shape {keys : Int} {cs : List Col} (h : ¬ (1 ≤ cs.length ∧ cs.length ≤ 12 ∧ 1 ≤ keys ∧ keys ≤ 3 ∧ keys ≤ cs.length)) : schE keys cs = 60 := by
  unfold schE schB; rw [decide_eq_false h]; rfl
theorem schE_col {keys : Int} {cs : List Col} {j : Nat} {c : Col} (hj : cs[j]? = some c) (h : colB keys j c = false) : schE keys cs = 60 := by
  unfold schE schB
  rw [show colsB keys 0 cs = false from by
    rw [Bool.eq_false_iff]
    intro q
    have := colsB_iff.1 q j c hj
    rw [Nat.zero_add, h] at this
    cases this]
  simp
theorem schE_dup {keys : Int} {cs : List Col} (h : ¬ (names cs).Nodup) : schE keys cs = 60 := by
  unfold schE schB; rw [decide_eq_false h]; simp
theorem schE_ok {keys : Int} {cs : List Col} (h : 1 ≤ cs.length ∧ cs.length ≤ 12 ∧ 1 ≤ keys ∧ keys ≤ 3 ∧ keys ≤ cs.length) (h2 : ∀ j c, cs[j]? = some c → colB keys j c = true) (h3 : (names cs).Nodup) : schE keys cs = 0 := by
  unfold schE schB
  rw [decide_eq_true h, decide_eq_true h3, colsB_iff.2 (fun j c hj => by rw [Nat.zero_add]; exact h2 j c hj)]
  rfl

/-- The set of the first j names. -/
def nameL (c : Col) : Lit := .string c.name.data.toList
def Sn {H : Type} (cs : List Col) (j : Nat) : DataW H := setOf (.agg []) ((cs.take j).map nameL)
theorem Sn_succ {H : Type} {cs : List Col} {j : Nat} {c : Col} (hj : cs[j]? = some c) : Sn (H := H) cs (j + 1) = (Sn cs j).put (nameL c) (.agg []) := by
  unfold Sn
  rw [List.take_add_one, hj, List.map_append]
  exact setOf_snoc _ _ _
theorem Sn_zero {H : Type} (cs : List Col) : Sn (H := H) cs 0 = .map [] := by simp [Sn, setOf]

theorem key_lit (l : List (List UInt8)) : ∀ x ∈ l.map Lit.string, WideAt.IsKeyLit x := by
  intro x hx
  obtain ⟨y, _, rfl⟩ := List.mem_map.1 hx
  trivial

theorem size_set {H : Type} : ∀ (n : Nat) (l : List (List UInt8)), l.length = n → Maps.size (setOf (.agg [] : DataW H) (l.map Lit.string)) ≤ n ∧ (Maps.size (setOf (.agg [] : DataW H) (l.map Lit.string)) = n ↔ l.Nodup)
  | 0, l, h => by
    obtain rfl := List.eq_nil_of_length_eq_zero h
    simp [setOf, Maps.size_eq]
  | n + 1, l, h => by
    rcases List.eq_nil_or_concat l with rfl | ⟨r, x, rfl⟩
    · simp at h
    · have hr : r.length = n := by simpa using h
      obtain ⟨h1, h2⟩ := size_set (H := H) n r hr
      have ht := tidy_setOf (.agg [] : DataW H) (r.map Lit.string) (key_lit r)
      rw [List.concat_eq_append, List.map_append, List.map_cons, List.map_nil, setOf_snoc, size_put ht, has_setOf _ _ _ (key_lit r)]
      have hany : (r.map Lit.string).any (fun y => y.sameKey (.string x)) = decide (x ∈ r) := by
        rw [Bool.eq_iff_iff, List.any_eq_true, decide_eq_true_iff]
        constructor
        · rintro ⟨y, hy, hs⟩
          obtain ⟨z, hz, rfl⟩ := List.mem_map.1 hy
          have := WideAt.sameKey_eq hs
          injection this with this
          exact this ▸ hz
        · intro hx
          exact ⟨.string x, List.mem_map.2 ⟨x, hx, rfl⟩, WideAt.sameKey_self trivial⟩
      rw [hany]
      by_cases hx : x ∈ r
      · rw [decide_eq_true hx, if_pos rfl]
        refine ⟨by omega, ⟨fun q => by omega, fun q => ?_⟩⟩
        have := List.nodup_append.1 q
        exact absurd rfl (this.2.2 x hx x (by simp))
      · rw [decide_eq_false hx, if_neg (by decide)]
        refine ⟨by omega, ⟨fun q => ?_, fun q => ?_⟩⟩
        · have hn := h2.1 (by omega)
          exact List.nodup_append.2 ⟨hn, by simp, fun a ha b hb => by simp at hb; subst hb; intro e; exact hx (e ▸ ha)⟩
        · have := h2.2 (List.nodup_append.1 q).1
          omega

theorem size_Sn {H : Type} (cs : List Col) : Maps.size (Sn (H := H) cs cs.length) ≤ cs.length ∧ (Maps.size (Sn (H := H) cs cs.length) = cs.length ↔ (names cs).Nodup) := by
  have h := size_set (H := H) cs.length (names cs) (by simp [names])
  have e : Sn (H := H) cs cs.length = setOf (.agg []) ((names cs).map Lit.string) := by
    unfold Sn names
    rw [List.take_length, List.map_map]
    rfl
  rw [e]
  exact h

end Go.Proofs.YtnkggopkcjffoaaDoor

/-
  The program's layer 6: is a schema right?
-/
namespace Go.Proofs.YtnkggopkcjffoaaDoor
open Go.RowKit Go.Maps Go.WideMaps

theorem run_mkMap (n : Int) (w : World) : (Instr.makeMap 87 (some (.int .i64 n))).run Tryd.prog w = .ok (.map (some w.heap.size)) (w.alloc (.map #[] 0)) := by
  simp [Instr.makeMap, run_underlying Tryd.underlying87, asInt, asIntOf, Result.andThen]

theorem Ext.grownBy {w w' : World} (h : Ext w w') : w.grownBy w' none := ⟨h.os, h.tape, h.output, h.size, fun i hi _ => h.block i hi⟩

theorem lawS : Keyed Tryd.prog 9 := string_keyed Tryd.underlying9

theorem colB_name {keys : Int} {i : Nat} {c : Col} (h : nameB c.name = false) : colB keys i c = false := by unfold colB; rw [h]; rfl
theorem colB_kind {keys : Int} {i : Nat} {c : Col} (h : kindK c.kind = false) : colB keys i c = false := by unfold colB; rw [h]; simp
theorem colB_null {keys : Int} {i : Nat} {c : Col} (h : c.null = true) (h2 : (i : Int) < keys) : colB keys i c = false := by unfold colB; rw [h, decide_eq_true h2]; simp
theorem colB_ok {keys : Int} {i : Nat} {c : Col} (h : nameB c.name = true) (h2 : kindK c.kind = true) (h3 : c.null = false ∨ ¬ (i : Int) < keys) : colB keys i c = true := by
  unfold colB
  rw [h, h2]
  rcases h3 with h3 | h3
  · rw [h3]; rfl
  · rw [decide_eq_false h3]; simp

set_option maxHeartbeats 3200000 in
set_option maxRecDepth 100000 in
theorem scheck_any (A : Option Addr) (n c : Nat) (keys : Int) (cs : List Col) (w : World) (hx : RdC w A n cs) (hs : ∀ d ∈ cs, d.name.size ≤ 140737488355328) (hn : n ≤ 140737488355328) :
    Calls Tryd.prog 39 #[.agg #[.slice A n c, .int .i64 keys]] w fun e w' => e = .returned (.int .i64 (schE keys cs)) ∧ Ext w w' := by
  have hl := hx.1
  obtain ⟨R, hR⟩ : ∃ R, R = schE keys cs := ⟨_, rfl⟩
  rw [← hR]
  have HR := Lib.hid hR
  clear hR
  by_cases h : 1 ≤ cs.length ∧ cs.length ≤ 12 ∧ 1 ≤ keys ∧ keys ≤ 3 ∧ keys ≤ cs.length
  · have a1 : decide (n < 1) = false := decide_eq_false (by omega)
    have a1' : decide ((n : Int) < 1) = false := decide_eq_false (by omega)
    have a2 : decide (12 < n) = false := decide_eq_false (by omega)
    have a2' : decide ((12 : Int) < (n : Int)) = false := decide_eq_false (by omega)
    have a3 : decide (keys < 1) = false := decide_eq_false (by omega)
    have a4 : ¬ min (3 : Int) (n : Int) < keys := by omega
    have a4' : decide (min (3 : Int) (n : Int) < keys) = false := decide_eq_false a4
    have hk3 : keys ≤ 3 := h.2.2.2.1
    have hkn : keys ≤ (n : Int) := by omega
    have hk1 : 1 ≤ keys := h.2.2.1
    have Hh := Lib.hid h
    have Hl := Lib.hid hl
    have hn12 : n ≤ 12 := by omega
    have hmm := run_mkMap
    have hE0 : Ext w (w.alloc (.cells #[.slice A n c, .int .i64 keys] 24)) := (Ext.refl w).alloc _
    have hown0 := World.ownsMap_made (H := Unit) (w.alloc (.cells #[.slice A n c, .int .i64 keys] 24)) Tryd.prog 9 unitElem
    have hbk0 := Ext.kept ((Ext.refl (w.alloc (.cells #[.slice A n c, .int .i64 keys] 24))).alloc (.map #[] 0))
    have e1 : (w.alloc (.cells #[.slice A n c, .int .i64 keys] 24)).heap.size = w.heap.size + 1 := by simp
    rw [e1] at hown0
    clear h hl a4 e1
    go_enter Tryd.func39, Tryd.ntmps39
    go_wp2
    clear hmm
    go_loopw [35] (fun i wr => ∃ j : Nat, j ≤ n ∧ i = .int .i64 j ∧ wr.ownsMap Tryd.prog 9 unitElem (w.heap.size + 1) j (Sn (H := Unit) cs j) ∧ Ext w wr ∧ Hid (∀ t d, t < j → cs[t]? = some d → colB keys t d = true) ∧ Hid (wr.heap[w.heap.size]? = some (.cells #[.slice A n c, .int .i64 keys] 24))) (fun i _ => n - (intOf i).toNat)
    case atStart => exact ⟨0, Nat.zero_le _, rfl, by rw [Sn_zero]; exact hown0, hE0.alloc _, Lib.hid (fun t d ht => absurd ht (by omega)), Lib.hid hbk0⟩
    case round =>
      clear hown0 hbk0 hE0
      obtain ⟨j, hj, rfl, hown, hE, Hs, Hbk⟩ := hrel
      have z0 : w.heap.size < wr.heap.size := (Array.getElem?_eq_some_iff.1 Hbk.out).1
      have k0 := cell_of_row wr w.heap.size 0 _ _ (0, 0) Hbk.out
      have k1 := cell_of_row wr w.heap.size 1 _ _ (0, 0) Hbk.out
      simp only [List.getElem?_toArray, List.getElem?_cons_zero, List.getElem?_cons_succ] at k0 k1
      by_cases hlt : j < n
      · obtain ⟨b, o, d, rfl, hb, hd, c0, c1, c2⟩ := (hx.ext hE).at_ hlt
        have hds := hs d (List.mem_of_getElem? hd)
        have hSn := Sn_succ (H := Unit) hd
        have F1 := fun q => schE_col (keys := keys) hd (colB_name (keys := keys) (i := j) q)
        have F2 := fun q => schE_col (keys := keys) hd (colB_kind (keys := keys) (i := j) q)
        have F3 := fun q q2 => schE_col (keys := keys) hd (colB_null (keys := keys) (i := j) q q2)
        have F4 := fun q q2 q3 => colB_ok (keys := keys) (i := j) (c := d) q q2 q3
        rw [← HR.out] at F1 F2 F3
        obtain ⟨nm, kd, nl⟩ := d
        simp only at c0 c1 c2 hds F1 F2 F3 F4
        have hkey : keyOf Tryd.prog 9 (.string nm) = some (nameL ⟨nm, kd, nl⟩) := keyOf_string_mk Tryd.underlying9 (by unfold maxLen; omega)
        have HSn := Lib.hid hSn
        have Hd := Lib.hid hd
        have hX : Ext wr (wr.alloc (.cells #[.string nm, .int .i64 kd, .bool nl] 68)) := (Ext.refl wr).alloc _
        clear hSn hd
        cases hnb : nameB nm with
        | false =>
          have He := Lib.hid (F1 hnb)
          have Hnb := Lib.hid hnb
          clear F1 F2 F3 F4 hnb hkey
          go_wp2_with fail
          refine (isName_any _ _ hds).mono ?_
          rintro e w1 ⟨rfl, rfl⟩
          rw [Hnb.out]
          go_wp2
          go_ret
          exact ⟨by rw [He.out]; rfl, hE.trans hX⟩
        | true =>
          cases hkb : kindK kd with
          | false =>
            have He := Lib.hid (F2 hkb)
            have Hnb := Lib.hid hnb
            have Hkb := Lib.hid hkb
            clear F1 F2 F3 F4 hnb hkb hkey
            go_wp2_with fail
            refine (isName_any _ _ hds).mono ?_
            rintro e w1 ⟨rfl, rfl⟩
            rw [Hnb.out]
            go_wp2_with fail
            refine (skind_any _ _).mono ?_
            rintro e w1 ⟨rfl, he1⟩
            rw [Hkb.out]
            have hc1 := he1.cells
            go_wp2
            go_ret
            exact ⟨by rw [He.out]; rfl, (hE.trans hX).trans he1⟩
          | true =>
            have key : (nl = true ∧ (j : Int) < keys) ∨ (nl = true ∧ ¬ (j : Int) < keys) ∨ nl = false := by
              cases nl
              · exact .inr (.inr rfl)
              · by_cases q : (j : Int) < keys
                · exact .inl ⟨rfl, q⟩
                · exact .inr (.inl ⟨rfl, q⟩)
            have Hnb := Lib.hid hnb
            have Hkb := Lib.hid hkb
            have Hkey := Lib.hid hkey
            rcases key with ⟨rfl, q⟩ | key
            · have He := Lib.hid (F3 rfl q)
              clear F1 F2 F3 F4 hnb hkb hkey
              go_wp2_with fail
              refine (isName_any _ _ hds).mono ?_
              rintro e w1 ⟨rfl, rfl⟩
              rw [Hnb.out]
              go_wp2_with fail
              refine (skind_any _ _).mono ?_
              rintro e w1 ⟨rfl, he1⟩
              rw [Hkb.out]
              have hc1 := he1.cells
              go_wp2
              go_ret
              exact ⟨by rw [He.out]; rfl, (hE.trans hX).trans he1⟩
            · have Hcol := Lib.hid (F4 hnb hkb (by rcases key with ⟨_, q⟩ | q; exact .inr q; exact .inl q))
              clear F1 F2 F3 F4 hnb hkb hkey
              have key2 : (nl = true ∧ decide ((j : Int) < keys) = false) ∨ nl = false := by
                rcases key with ⟨q, q2⟩ | q
                · exact .inl ⟨q, decide_eq_false q2⟩
                · exact .inr q
              clear key
              rcases key2 with ⟨rfl, q⟩ | rfl
              all_goals
                go_wp2_with fail
                refine (isName_any _ _ hds).mono ?_
                rintro e w1 ⟨rfl, rfl⟩
                rw [Hnb.out]
                go_wp2_with fail
                refine (skind_any _ _).mono ?_
                rintro e w1 ⟨rfl, he1⟩
                rw [Hkb.out]
                have hc1 := he1.cells
                have hown1 := hown.kept (hX.trans he1).grownBy (by simp)
                have Hown1 := Lib.hid hown1
                clear hown1
                go_wp2_with (at_mapUpdate; refine wpList_mapUpdate_own _ rfl _ _ _ 87 rfl 9 89 lawS Tryd.underlying87 (unitElem (H := Unit)) (w.heap.size + 1) j _ rfl Hown1.out (by unfold maxLen; omega) _ _ _ rfl rfl Hkey.out _ [] unitElem_mk ?_; intro w2 hown2 hgrow2)
                rw [← HSn.out] at hown2
                have hE2 : Ext w w2 := grownBy_ext ((hE.trans hX).trans he1) hgrow2 (fun g hg => by injection hg with hg; omega)
                have hbk2 := (hgrow2.block w.heap.size (by have := (hX.trans he1).size; omega) (by intro q; injection q with q; omega)).trans (((hX.trans he1).block w.heap.size z0).trans Hbk.out)
                have Hbk2 := Lib.hid hbk2
                clear hbk2 hgrow2
                go_roundw
                case rel => exact ⟨j + 1, by omega, by go_num, hown2, hE2, Lib.hid (fun t d ht hd => by
                  by_cases q : t < j
                  · exact Hs.out t d q hd
                  · obtain rfl : t = j := by omega
                    rw [Hd.out] at hd
                    injection hd with hd
                    subst hd
                    exact Hcol.out), Hbk2⟩
                case measure => simp [intOf]; omega
      · obtain rfl : j = n := by omega
        have hsz := size_Sn (H := Unit) cs
        rw [Hl.out] at hsz
        obtain ⟨M, hM⟩ : ∃ M, M = Maps.size (Sn (H := Unit) cs j) := ⟨_, rfl⟩
        rw [← hM] at hsz
        have HM := Lib.hid hM
        clear hM
        by_cases hnd : (names cs).Nodup
        · have He := Lib.hid (HR.out.trans (schE_ok Hh.out (fun t d hd => Hs.out t d (by have := (List.getElem?_eq_some_iff.1 hd).1; have := Hl.out; omega) hd) hnd))
          have hMj : M = j := hsz.2.2 hnd
          clear hsz hnd
          have HMj := Lib.hid hMj
          clear hMj
          go_wp2_with (at_len; refine wpList_len_own _ rfl _ 87 rfl 9 89 Tryd.underlying87 _ (w.heap.size + 1) j _ rfl hown ?_; rw [← HM.out, HMj.out])
          go_ret
          exact ⟨by rw [He.out]; rfl, hE⟩
        · have He := Lib.hid (HR.out.trans (schE_dup hnd))
          have hMj : M < j := by
            have h1 := hsz.1
            have h2 : M ≠ j := fun q => hnd (hsz.2.1 q)
            omega
          clear hsz hnd
          go_wp2_with (at_len; refine wpList_len_own _ rfl _ 87 rfl 9 89 Tryd.underlying87 _ (w.heap.size + 1) j _ rfl hown ?_; rw [← HM.out])
          go_ret
          exact ⟨by rw [He.out]; rfl, hE⟩
  · have He := Lib.hid (HR.out.trans (schE_shape h))
    have hE0 : Ext w (w.alloc (.cells #[.slice A n c, .int .i64 keys] 24)) := (Ext.refl w).alloc _
    have key : (decide ((n : Int) < 1) = true) ∨ (decide ((n : Int) < 1) = false ∧ decide ((12 : Int) < (n : Int)) = true) ∨ (decide ((n : Int) < 1) = false ∧ decide ((12 : Int) < (n : Int)) = false ∧ decide (keys < 1) = true) ∨ (decide ((n : Int) < 1) = false ∧ decide ((12 : Int) < (n : Int)) = false ∧ decide (keys < 1) = false ∧ min (3 : Int) (n : Int) < keys) := by
      simp only [decide_eq_true_eq, decide_eq_false_iff_not]
      omega
    clear h hl
    rcases key with q1 | ⟨q1, q2⟩ | ⟨q1, q2, q3⟩ | ⟨q1, q2, q3, q4⟩
    all_goals
      go_enter Tryd.func39, Tryd.ntmps39
      go_wp2
      go_ret
      exact ⟨by rw [He.out]; rfl, hE0⟩

end Go.Proofs.YtnkggopkcjffoaaDoor

/-
  The document's layer 6: is a schema right?
-/
namespace Go.Proofs.YtnkggopkcjffoaaDoor
open Go.RowKit

theorem names_at {cs : List Col} {j : Nat} {d : Col} (h : cs[j]? = some d) : (names cs)[j]? = some d.name.data.toList := by
  unfold names; rw [List.getElem?_map, h]; rfl
theorem nodup_iff {l : List (List UInt8)} : l.Nodup ↔ ∀ (i j : Nat) (x y : List UInt8), i < j → l[i]? = some x → l[j]? = some y → x ≠ y := by
  unfold List.Nodup
  rw [List.pairwise_iff_getElem]
  constructor
  · intro h i j x y hij hx hy
    obtain ⟨hi, rfl⟩ := List.getElem?_eq_some_iff.1 hx
    obtain ⟨hj, rfl⟩ := List.getElem?_eq_some_iff.1 hy
    exact h i j hi hj hij
  · intro h i j hi hj hij
    exact h i j _ _ hij (List.getElem?_eq_getElem hi) (List.getElem?_eq_getElem hj)

set_option maxHeartbeats 3200000 in
set_option maxRecDepth 100000 in
theorem refScheck_any (A : Option Addr) (n c : Nat) (keys : Int) (cs : List Col) (w : World) (hx : RdC w A n cs) (hs : ∀ d ∈ cs, d.name.size ≤ 140737488355328) (hn : n ≤ 140737488355328) :
    Calls Tryd.prog 36 #[.agg #[.slice A n c, .int .i64 keys]] w fun e w' => e = .returned (.int .i64 (schE keys cs)) ∧ Ext w w' := by
  have hl := hx.1
  obtain ⟨R, hR⟩ : ∃ R, R = schE keys cs := ⟨_, rfl⟩
  rw [← hR]
  have HR := Lib.hid hR
  clear hR
  by_cases h : 1 ≤ cs.length ∧ cs.length ≤ 12 ∧ 1 ≤ keys ∧ keys ≤ 3 ∧ keys ≤ cs.length
  · have a1' : decide ((n : Int) < 1) = false := decide_eq_false (by omega)
    have a2' : decide ((12 : Int) < (n : Int)) = false := decide_eq_false (by omega)
    have a3 : decide (keys < 1) = false := decide_eq_false (by omega)
    have a4 : decide ((3 : Int) < keys) = false := decide_eq_false (by omega)
    have a5 : decide ((n : Int) < keys) = false := decide_eq_false (by omega)
    have Hh := Lib.hid h
    have Hl := Lib.hid hl
    have hn12 : n ≤ 12 := by omega
    have hbk0 := heap_alloc_new w (.cells #[.slice A n c, .int .i64 keys] 24)
    have hE0 : Ext w (w.alloc (.cells #[.slice A n c, .int .i64 keys] 24)) := (Ext.refl w).alloc _
    clear h hl
    go_enter Tryd.func36, Tryd.ntmps36
    go_wp2
    go_loopw [3] (fun i wr => ∃ j : Nat, j ≤ n ∧ i = .int .i64 j ∧ Ext w wr ∧ Hid (∀ t d, t < j → cs[t]? = some d → colB keys t d = true) ∧ Hid (∀ (i t : Nat) (x y : List UInt8), i < t → t < j → (names cs)[i]? = some x → (names cs)[t]? = some y → x ≠ y) ∧ Hid (wr.heap[w.heap.size]? = some (.cells #[.slice A n c, .int .i64 keys] 24))) (fun i _ => n - (intOf i).toNat)
    case atStart => exact ⟨0, Nat.zero_le _, rfl, hE0, Lib.hid (fun t d ht => absurd ht (by omega)), Lib.hid (fun i t x y _ ht => absurd ht (by omega)), Lib.hid hbk0⟩
    case round =>
      clear hbk0 hE0
      obtain ⟨j, hj, rfl, hE, Hs, Hn, Hbk⟩ := hrel
      have z0 : w.heap.size < wr.heap.size := (Array.getElem?_eq_some_iff.1 Hbk.out).1
      have k0 := cell_of_row wr w.heap.size 0 _ _ (0, 0) Hbk.out
      have k1 := cell_of_row wr w.heap.size 1 _ _ (0, 0) Hbk.out
      simp only [List.getElem?_toArray, List.getElem?_cons_zero, List.getElem?_cons_succ] at k0 k1
      by_cases hlt : j < n
      · obtain ⟨b, o, d, rfl, hb, hd, c0, c1, c2⟩ := (hx.ext hE).at_ hlt
        have hds := hs d (List.mem_of_getElem? hd)
        have hnj := names_at hd
        have F1 := fun q => schE_col (keys := keys) hd (colB_name (keys := keys) (i := j) q)
        have F2 := fun q => schE_col (keys := keys) hd (colB_kind (keys := keys) (i := j) q)
        have F3 := fun q q2 => schE_col (keys := keys) hd (colB_null (keys := keys) (i := j) q q2)
        have F4 := fun q q2 q3 => colB_ok (keys := keys) (i := j) (c := d) q q2 q3
        rw [← HR.out] at F1 F2 F3
        obtain ⟨nm, kd, nl⟩ := d
        simp only at c0 c1 c2 hds F1 F2 F3 F4 hnj
        have Hd := Lib.hid hd
        have Hnj := Lib.hid hnj
        have hX : Ext wr (wr.alloc (.cells #[.string nm, .int .i64 kd, .bool nl] 68)) := (Ext.refl wr).alloc _
        clear hd hnj
        cases hnb : nameB nm with
        | false =>
          have He := Lib.hid (F1 hnb)
          have Hnb := Lib.hid hnb
          clear F1 F2 F3 F4 hnb
          go_wp2_with fail
          refine (refName_any _ _ hds).mono ?_
          rintro e w1 ⟨rfl, rfl⟩
          rw [Hnb.out]
          go_wp2
          go_ret
          exact ⟨by rw [He.out]; rfl, hE.trans hX⟩
        | true =>
          have Hnb := Lib.hid hnb
          by_cases hkk : 1 ≤ kd ∧ kd ≤ 8
          · have hkb := kindK_yes hkk
            have d1 : decide (kd < 1) = false := decide_eq_false (by omega)
            have d2 : decide (8 < kd) = false := decide_eq_false (by omega)
            have key : ((j : Int) < keys ∧ nl = true) ∨ ((j : Int) < keys ∧ nl = false) ∨ (¬ (j : Int) < keys) := by
              cases nl
              · by_cases q : (j : Int) < keys
                · exact .inr (.inl ⟨q, rfl⟩)
                · exact .inr (.inr q)
              · by_cases q : (j : Int) < keys
                · exact .inl ⟨q, rfl⟩
                · exact .inr (.inr q)
            rcases key with ⟨q, rfl⟩ | key
            · have He := Lib.hid (F3 rfl q)
              clear F1 F2 F3 F4 hnb hkb hkk
              go_wp2_with fail
              refine (refName_any _ _ hds).mono ?_
              rintro e w1 ⟨rfl, rfl⟩
              rw [Hnb.out]
              go_wp2
              go_ret
              exact ⟨by rw [He.out]; rfl, hE.trans hX⟩
            · have Hcol := Lib.hid (F4 hnb hkb (by rcases key with ⟨_, q⟩ | q; exact .inl q; exact .inr q))
              have key2 : (decide ((j : Int) < keys) = true ∧ nl = false) ∨ decide ((j : Int) < keys) = false := by
                rcases key with ⟨q, q2⟩ | q
                · exact .inl ⟨decide_eq_true q, q2⟩
                · exact .inr (decide_eq_false q)
              clear F1 F2 F3 F4 hnb hkb hkk key
              have HsN : Hid (∀ t d, t < j + 1 → cs[t]? = some d → colB keys t d = true) := Lib.hid (fun t d ht hd => by
                  by_cases q : t < j
                  · exact Hs.out t d q hd
                  · obtain rfl : t = j := by omega
                    rw [Hd.out] at hd
                    injection hd with hd
                    subst hd
                    exact Hcol.out)
              have hbk2 := Lib.hid ((hX.block w.heap.size z0).trans Hbk.out)
              have c0' := (hX.cells b (o + j * 3) hb).trans c0
              have hxW := hx.ext (hE.trans hX)
              have hEX := hE.trans hX
              rcases key2 with ⟨q, rfl⟩ | q
              all_goals
                go_wp2_with fail
                refine (refName_any _ _ hds).mono ?_
                rintro e w1 ⟨rfl, rfl⟩
                rw [Hnb.out]
                go_wp2_with fail
                first
                  | (rcases (⟨_, rfl⟩ : ∃ WX, WX = wr.alloc (.cells #[.string nm, .int .i64 kd, .bool false] 68)) with ⟨WX, hWX⟩; rw [← hWX] at hbk2 hxW hEX ⊢)
                  | (rcases (⟨_, rfl⟩ : ∃ WX, WX = wr.alloc (.cells #[.string nm, .int .i64 kd, .bool nl] 68)) with ⟨WX, hWX⟩; rw [← hWX] at hbk2 hxW hEX ⊢)
                  | fail
                have zx : w.heap.size < WX.heap.size := (Array.getElem?_eq_some_iff.1 hbk2.out).1
                have m0 := cell_of_row WX w.heap.size 0 _ _ (0, 0) hbk2.out
                simp only [List.getElem?_toArray, List.getElem?_cons_zero] at m0
                have g0 : WX.cell? ⟨wr.heap.size, 0, none⟩ = some (.string nm) := by rw [hWX]; exact cell_of_row _ wr.heap.size 0 _ _ (0, 0) (heap_alloc_new wr _)
                clear hWX hX
                go_loopw [5] (fun i wt => ∃ t q : Nat, t ≤ j ∧ i = .int .i64 t ∧ wt = WX.drewN q ∧ Hid (∀ (i : Nat) (x : List UInt8), i < t → (names cs)[i]? = some x → x ≠ nm.data.toList)) (fun i _ => j - (intOf i).toNat)
                case atStart => exact ⟨0, 0, Nat.zero_le _, rfl, rfl, Lib.hid (fun i x hi => absurd hi (by omega))⟩
                case round =>
                  obtain ⟨t, q, ht, rfl, hwt, Ht⟩ := hrel
                  subst hwt
                  by_cases hlt2 : t < j
                  · obtain ⟨b2, o2, d2, hA2, hb2, hd2, e0, _, _⟩ := hxW.at_ (show t < n by omega)
                    injection hA2 with hA2
                    injection hA2 with hA3 hA4
                    subst hA3 hA4
                    have hn2 := names_at hd2
                    obtain ⟨nm2, kd2, nl2⟩ := d2
                    simp only at e0 hn2
                    clear hd2
                    by_cases heq : nm2 = nm
                    · have He := Lib.hid (HR.out.trans (schE_dup (keys := keys) (fun hnd => nodup_iff.1 hnd t j _ _ hlt2 hn2 Hnj.out (by rw [heq]))))
                      have q1 : (nm2.toList == nm.toList) = true := (Lib.bytes_beq_iff _ _).2 heq
                      clear heq hn2
                      go_wp2_with fail
                      go_quiet (fail)
                      go_wp2
                      go_ret
                      exact ⟨by rw [He.out]; rfl, (hEX.drewN _).drewN _⟩
                    · have q1 : (nm2.toList == nm.toList) = false := by rw [Bool.eq_false_iff]; exact fun q => heq ((Lib.bytes_beq_iff _ _).1 q)
                      have HN := Lib.hid (show ∀ (i : Nat) (x : List UInt8), i < t + 1 → (names cs)[i]? = some x → x ≠ nm.data.toList from fun i x hi hx' => by
                        by_cases q : i < t
                        · exact Ht.out i x q hx'
                        · obtain rfl : i = t := by omega
                          rw [hn2] at hx'
                          injection hx' with hx'
                          subst hx'
                          intro q2
                          exact heq (by cases nm2; cases nm; simp only at q2; congr 1; exact Array.toList_inj.1 q2))
                      clear heq hn2
                      go_wp2_with fail
                      go_quiet (fail)
                      go_wp2
                      go_roundw
                      case rel => exact ⟨t + 1, _, by omega, by go_num, rfl, HN.out⟩
                      case measure => simp [intOf]; omega
                  · obtain rfl : t = j := by omega
                    have HnN := Lib.hid (show ∀ (i t2 : Nat) (x y : List UInt8), i < t2 → t2 < t + 1 → (names cs)[i]? = some x → (names cs)[t2]? = some y → x ≠ y from fun i t2 x y hi ht2 hx' hy' => by
                      by_cases q : t2 < t
                      · exact Hn.out i t2 x y hi q hx' hy'
                      · obtain rfl : t2 = t := by omega
                        rw [Hnj.out] at hy'
                        injection hy' with hy'
                        subst hy'
                        exact Ht.out i x hi hx')
                    go_wp2
                    go_roundw
                    case rel => exact ⟨t + 1, by omega, by go_num, hEX.drewN _, HsN, HnN, hbk2⟩
                    case measure => simp [intOf]; omega
          · have hkb := kindK_no hkk
            have He := Lib.hid (F2 hkb)
            have key : decide (kd < 1) = true ∨ (decide (kd < 1) = false ∧ decide (8 < kd) = true) := by
              simp only [decide_eq_true_eq, decide_eq_false_iff_not]; omega
            clear F1 F2 F3 F4 hnb hkb hkk
            rcases key with d1 | ⟨d1, d2⟩
            all_goals
              go_wp2_with fail
              refine (refName_any _ _ hds).mono ?_
              rintro e w1 ⟨rfl, rfl⟩
              rw [Hnb.out]
              go_wp2
              go_ret
              exact ⟨by rw [He.out]; rfl, hE.trans hX⟩
      · obtain rfl : j = n := by omega
        have hnd : (names cs).Nodup := nodup_iff.2 (fun i t x y hit hx' hy' => Hn.out i t x y hit (by
          have := (List.getElem?_eq_some_iff.1 hy').1
          unfold names at this
          rw [List.length_map, Hl.out] at this
          exact this) hx' hy')
        have He := Lib.hid (HR.out.trans (schE_ok Hh.out (fun t d hd => Hs.out t d (by have := (List.getElem?_eq_some_iff.1 hd).1; have := Hl.out; omega) hd) hnd))
        clear hnd
        go_wp2
        go_ret
        exact ⟨by rw [He.out]; rfl, hE⟩
  · have He := Lib.hid (HR.out.trans (schE_shape h))
    have hE0 : Ext w (w.alloc (.cells #[.slice A n c, .int .i64 keys] 24)) := (Ext.refl w).alloc _
    have key : (decide ((n : Int) < 1) = true) ∨ (decide ((n : Int) < 1) = false ∧ decide ((12 : Int) < (n : Int)) = true) ∨ (decide ((n : Int) < 1) = false ∧ decide ((12 : Int) < (n : Int)) = false ∧ decide (keys < 1) = true) ∨ (decide ((n : Int) < 1) = false ∧ decide ((12 : Int) < (n : Int)) = false ∧ decide (keys < 1) = false ∧ decide ((3 : Int) < keys) = true) ∨ (decide ((n : Int) < 1) = false ∧ decide ((12 : Int) < (n : Int)) = false ∧ decide (keys < 1) = false ∧ decide ((3 : Int) < keys) = false ∧ decide ((n : Int) < keys) = true) := by
      simp only [decide_eq_true_eq, decide_eq_false_iff_not]
      omega
    clear h hl
    rcases key with q1 | ⟨q1, q2⟩ | ⟨q1, q2, q3⟩ | ⟨q1, q2, q3, q4⟩ | ⟨q1, q2, q3, q4, q5⟩
    all_goals
      go_enter Tryd.func36, Tryd.ntmps36
      go_wp2
      go_ret
      exact ⟨by rw [He.out]; rfl, hE0⟩

end Go.Proofs.YtnkggopkcjffoaaDoor

/-
  Constants' bytes; a cell that was handed in.
-/
namespace Go.Proofs.YtnkggopkcjffoaaDoor
open Go.RowKit

/-- '[]byte("..")' of a constant: the row gets its mark. -/
theorem conv_const (W : World) (g : Nat) (C : Array Value) (n c : Nat) (hg : W.heap.size = g) :
    (convert 28 28 (.slice (some ⟨g, 0, none⟩) n c)).run Tryd.prog (W.alloc (.cells C 5)) = .ok (.slice (some ⟨g, 0, none⟩) n c) (W.alloc (.cells C 5 (C.size, C.size + 1))) := by
  subst hg
  exact Lib.run_convert_bytes_const W 28 5 C n c Tryd.underlying28 Tryd.underlying5

theorem Rd.mark_at (k : IntKind) (e : TypeId) (fr : Nat × Nat) (w : World) (xs : List Nat) {b n : Nat} (hb : w.heap.size = b) (hn : xs.length = n) : Rd k (w.alloc (.cells (xs.map fun x : Nat => Value.int k (x : Int)).toArray e fr)) (some ⟨b, 0, none⟩) n xs := by
  subst hb
  subst hn
  refine ⟨rfl, fun hn => ⟨w.heap.size, 0, rfl, by simp, fun j hj => ?_⟩⟩
  rw [cell_of_row _ w.heap.size (0 + j) _ e fr (heap_alloc_new w _)]
  simp [hj]

/-- A cell that was handed in. -/
structure Ci where
  nul : Bool
  num : Int
  A : Option Addr
  c : Nat
  txt : List Nat
def Ci.v (x : Ci) : Value := .agg #[.bool x.nul, .int .i64 x.num, .slice x.A x.txt.length x.c]
structure Ci.In (w : World) (x : Ci) : Prop where
  rd : Rd .u8 w x.A x.txt.length x.txt
  u8 : U8 x.txt
  lo : -9223372036854775808 ≤ x.num
  hi : x.num ≤ 9223372036854775807
  len : x.txt.length * 1 ≤ 140737488351232

end Go.Proofs.YtnkggopkcjffoaaDoor

/-
  Layer 7's ground: rows against columns, the document's Key.
-/
namespace Go.Proofs.YtnkggopkcjffoaaDoor
open Go.RowKit

theorem Ci.In.ext {w w' : World} {x : Ci} (h : x.In w) (he : Ext w w') : x.In w' := ⟨h.rd.ext he, h.u8, h.lo, h.hi, h.len⟩

/-- The slice of cells (A, n) reads, in w, as xs. -/
def RdX (w : World) (A : Option Addr) (n : Nat) (xs : List Ci) : Prop :=
  xs.length = n ∧ (0 < n → ∃ b o, A = some ⟨b, o, none⟩ ∧ b < w.heap.size ∧ ∀ j x, xs[j]? = some x →
    w.cell? ⟨b, o + j * 3, none⟩ = some (.bool x.nul) ∧ w.cell? ⟨b, o + j * 3 + 1, none⟩ = some (.int .i64 x.num) ∧ w.cell? ⟨b, o + j * 3 + 2, none⟩ = some (.slice x.A x.txt.length x.c) ∧ x.In w)

theorem RdX.ext {w w' : World} {A : Option Addr} {n : Nat} {xs : List Ci} (h : RdX w A n xs) (hb : Ext w w') : RdX w' A n xs :=
  ⟨h.1, fun hn => by
    obtain ⟨b, o, e, hlt, hc⟩ := h.2 hn
    refine ⟨b, o, e, Nat.lt_of_lt_of_le hlt hb.size, fun j f hj => ?_⟩
    obtain ⟨h1, h2, h3, h4⟩ := hc j f hj
    exact ⟨(hb.cells b _ hlt).trans h1, (hb.cells b _ hlt).trans h2, (hb.cells b _ hlt).trans h3, h4.ext hb⟩⟩

theorem RdX.at_ {w : World} {A : Option Addr} {n : Nat} {xs : List Ci} (h : RdX w A n xs) {j : Nat} (hj : j < n) :
    ∃ b o x, A = some ⟨b, o, none⟩ ∧ b < w.heap.size ∧ xs[j]? = some x ∧ w.cell? ⟨b, o + j * 3, none⟩ = some (.bool x.nul) ∧ w.cell? ⟨b, o + j * 3 + 1, none⟩ = some (.int .i64 x.num) ∧ w.cell? ⟨b, o + j * 3 + 2, none⟩ = some (.slice x.A x.txt.length x.c) ∧ x.In w := by
  obtain ⟨b, o, e, hlt, hc⟩ := h.2 (by omega)
  have hjl : j < xs.length := by rw [h.1]; exact hj
  have hf : xs[j]? = some xs[j] := List.getElem?_eq_getElem hjl
  obtain ⟨h1, h2, h3, h4⟩ := hc j _ hf
  exact ⟨b, o, _, e, hlt, hf, h1, h2, h3, h4⟩

/-- The first error of cells by columns. -/
def chkC (c : Col) (x : Ci) : Int := chk c.kind c.null x.nul x.num x.txt

def rowF : List Col → List Ci → Int
  | c :: r, x :: s => if chkC c x ≠ 0 then chkC c x else rowF r s
  | _, _ => 0

def rowE (cs : List Col) (xs : List Ci) : Int := if xs.length ≠ cs.length then 61 else rowF cs xs

theorem rowF_at {cs : List Col} {xs : List Ci} {j : Nat} {c : Col} {x : Ci} (hc : cs[j]? = some c) (hx : xs[j]? = some x) : rowF (cs.drop j) (xs.drop j) = if chkC c x ≠ 0 then chkC c x else rowF (cs.drop (j + 1)) (xs.drop (j + 1)) := by
  obtain ⟨h1, rfl⟩ := List.getElem?_eq_some_iff.1 hc
  obtain ⟨h2, rfl⟩ := List.getElem?_eq_some_iff.1 hx
  rw [List.drop_eq_getElem_cons h1, List.drop_eq_getElem_cons h2]
  rfl

theorem rowF_end {cs : List Col} {xs : List Ci} {j : Nat} (h : xs.length ≤ j) : rowF (cs.drop j) (xs.drop j) = 0 := by
  rw [List.drop_of_length_le h]
  cases cs.drop j <;> rfl

/-- A schema lies at block g. -/
structure AtS (w : World) (g : Nat) (A : Option Addr) (n c : Nat) (keys : Int) : Prop where
  c0 : w.cell? ⟨g, 0, none⟩ = some (.slice A n c)
  c1 : w.cell? ⟨g, 1, none⟩ = some (.int .i64 keys)
  lt : g < w.heap.size

theorem AtS.ext {w w' : World} {g : Nat} {A : Option Addr} {n c : Nat} {keys : Int} (h : AtS w g A n c keys) (he : Ext w w') : AtS w' g A n c keys :=
  ⟨(he.cells g 0 h.lt).trans h.c0, (he.cells g 1 h.lt).trans h.c1, Nat.lt_of_lt_of_le h.lt he.size⟩

theorem AtS.box (w : World) (A : Option Addr) (n c : Nat) (keys : Int) : AtS (w.alloc (.cells #[.slice A n c, .int .i64 keys] 24)) w.heap.size A n c keys :=
  ⟨cell_of_row _ w.heap.size 0 _ _ (0, 0) (heap_alloc_new w _), cell_of_row _ w.heap.size 1 _ _ (0, 0) (heap_alloc_new w _), by simp⟩

set_option maxHeartbeats 3200000 in
set_option maxRecDepth 100000 in
theorem refCells_any (A : Option Addr) (n c : Nat) (keys : Int) (cs : List Col) (m : Nat) (A2 : Option Addr) (n2 c2 : Nat) (xs : List Ci) (w : World) (hc : RdC w A n cs) (hx : RdX w A2 n2 xs) (hm : m ≤ n) (hn : n ≤ 140737488355328) (hn2 : n2 ≤ 140737488355328) :
    Calls Tryd.prog 50 #[.agg #[.slice A n c, .int .i64 keys], .int .i64 (m : Int), .slice A2 n2 c2] w fun e w' => e = .returned (.int .i64 (rowE (cs.take m) xs)) ∧ Ext w w' := by
  have hl := hc.1
  have hl2 := hx.1
  have hlt0 : (cs.take m).length = m := by rw [List.length_take]; omega
  obtain ⟨R, hR⟩ : ∃ R, R = rowE (cs.take m) xs := ⟨_, rfl⟩
  rw [← hR]
  unfold rowE at hR
  rw [hlt0, hl2] at hR
  have hE0 : Ext w (w.alloc (.cells #[.slice A n c, .int .i64 keys] 24)) := (Ext.refl w).alloc _
  by_cases heq : n2 = m
  · subst heq
    rw [if_neg (fun q => q rfl)] at hR
    have HR := Lib.hid hR
    have Hl := Lib.hid hl
    have Hl2 := Lib.hid hl2
    have b1 : ((n2 : Int) != (n2 : Int)) = false := by simp
    have s0 := AtS.box w A n c keys
    clear hR hl hl2 hlt0
    go_enter Tryd.func50, Tryd.ntmps50
    go_wp2
    go_loopw [7] (fun i wr => ∃ j : Nat, j ≤ n2 ∧ i = .int .i64 j ∧ Ext w wr ∧ Hid (R = rowF ((cs.take n2).drop j) (xs.drop j)) ∧ AtS wr w.heap.size A n c keys) (fun i _ => n2 - (intOf i).toNat)
    case atStart => exact ⟨0, Nat.zero_le _, rfl, hE0, HR.out, s0⟩
    case round =>
      clear s0 hE0
      obtain ⟨j, hj, rfl, hE, HF, s0⟩ := hrel
      by_cases hlt : j < n2
      · obtain ⟨b, o, d, rfl, hb, hd, c0, c1, c2'⟩ := (hc.ext hE).at_ (show j < n by omega)
        obtain ⟨b2, o2, x, rfl, hb2, hx2, e0, e1, e2, hin⟩ := (hx.ext hE).at_ hlt
        have hd' : (cs.take n2)[j]? = some d := by rw [List.getElem?_take, if_pos hlt]; exact hd
        have hrow := HF.out.trans (rowF_at hd' hx2)
        obtain ⟨nm, kd, nl⟩ := d
        obtain ⟨xn, xi, xA, xc, xt⟩ := x
        simp only at c0 c1 c2' e0 e1 e2
        obtain ⟨xr, xu, x0, x1, xl⟩ := hin
        simp only at xr xu x0 x1 xl
        obtain ⟨n3, hn3⟩ : ∃ n3, n3 = xt.length := ⟨_, rfl⟩
        rw [← hn3] at e2 xr xl
        obtain ⟨q, hq⟩ : ∃ q, q = chk kd nl xn xi xt := ⟨_, rfl⟩
        have hqq : chkC ⟨nm, kd, nl⟩ ⟨xn, xi, xA, xc, xt⟩ = q := hq.symm
        rw [hqq] at hrow
        have HC : Hid (∀ W, Ext wr W → Calls Tryd.prog 37 #[.int .i64 kd, .bool nl, .agg #[.bool xn, .int .i64 xi, .slice xA n3 xc]] W fun e w' => e = .returned (.int .i64 q) ∧ Ext W w') := Lib.hid (fun W hW => by
          rw [hq]; exact refCheck_any kd nl xn xi xA n3 xc xt W (xr.ext hW) x0 x1 (by omega))
        have K : Hid (∀ w', Ext wr w' → w'.cell? ⟨w.heap.size, 0, none⟩ = some (.slice (some ⟨b, o, none⟩) n c) ∧ w'.cell? ⟨b, o + j * 3 + 1, none⟩ = some (.int .i64 kd) ∧ w'.cell? ⟨b, o + j * 3 + 2, none⟩ = some (.bool nl) ∧ w'.cell? ⟨b2, o2 + j * 3, none⟩ = some (.bool xn) ∧ w'.cell? ⟨b2, o2 + j * 3 + 1, none⟩ = some (.int .i64 xi) ∧ w'.cell? ⟨b2, o2 + j * 3 + 2, none⟩ = some (.slice xA n3 xc)) := Lib.hid (fun w' he =>
          ⟨(s0.ext he).c0, (he.cells b _ hb).trans c1, (he.cells b _ hb).trans c2', (he.cells b2 _ hb2).trans e0, (he.cells b2 _ hb2).trans e1, (he.cells b2 _ hb2).trans e2⟩)
        have Hrow := Lib.hid hrow
        have i0 : (0 : Int) ≤ (j : Int) := by omega
        have i1 : (j : Int) < (n2 : Int) := by omega
        have i2 : (j : Int) < (n : Int) := by omega
        have g8 := K.out _ (Ext.refl wr)
        clear hrow hqq hq hn3 hd hd' hx2 xr xu x0 x1 xl c0 c1 c2' e0 e1 e2
        go_wp2_with fail
        go_region_held3 (fun w' => w'.cell? ⟨w.heap.size, 0, none⟩ = some (.slice (some ⟨b, o, none⟩) n c) ∧ w'.cell? ⟨b, o + j * 3 + 1, none⟩ = some (.int .i64 kd) ∧ w'.cell? ⟨b, o + j * 3 + 2, none⟩ = some (.bool nl) ∧ w'.cell? ⟨b2, o2 + j * 3, none⟩ = some (.bool xn) ∧ w'.cell? ⟨b2, o2 + j * 3 + 1, none⟩ = some (.int .i64 xi) ∧ w'.cell? ⟨b2, o2 + j * 3 + 2, none⟩ = some (.slice xA n3 xc))
          (first | exact g8 | (refine K.out _ ?_; (repeat (first | exact Ext.refl _ | (with_reducible refine Ext.trans ?_ he3) | apply Ext.drew | apply Ext.alloc | fail))) | fail)
          (first
            | (go_at_call 37; (with_reducible refine (HC.out _ ?_).mono ?_); (focus ((repeat (first | exact Ext.refl _ | (with_reducible refine Ext.trans ?_ he3) | apply Ext.drew | apply Ext.alloc | fail)); done)); rintro e w3 ⟨rfl, he3⟩)
            | fail)
        have hE3' : Ext wr w3 := by (repeat (first | exact Ext.refl _ | (with_reducible refine Ext.trans ?_ he3) | apply Ext.drew | apply Ext.alloc | fail))
        have hE3 : Ext w w3 := hE.trans hE3'
        have s3 := s0.ext hE3'
        by_cases q0 : q = 0
        · have HN := Lib.hid (Hrow.out.trans (if_neg (fun r => r q0)))
          have b2 : (q != 0) = false := by simp [q0]
          clear q0
          go_wp2
          go_roundw
          case rel => exact ⟨j + 1, by omega, by go_num, hE3, HN.out, s3⟩
          case measure => simp [intOf]; omega
        · have HN := Lib.hid (Hrow.out.trans (if_pos q0))
          have b2 : (q != 0) = true := by simp [q0]
          clear q0
          go_wp2
          go_ret
          exact ⟨by rw [HN.out]; rfl, hE3⟩
      · obtain rfl : j = n2 := by omega
        have HN := Lib.hid (HF.out.trans (rowF_end (Nat.le_of_eq Hl2.out)))
        go_wp2
        go_ret
        exact ⟨by rw [HN.out]; rfl, hE⟩
  · rw [if_pos heq] at hR
    have b1 : ((n2 : Int) != (m : Int)) = true := by rw [bne_iff_ne]; omega
    clear heq hl hl2 hlt0
    subst hR
    go_enter Tryd.func50, Tryd.ntmps50
    go_wp2
    go_ret
    exact ⟨rfl, hE0⟩

/-- A whole row's first error, a key's. -/
def rowS (keys : Int) (cs : List Col) (xs : List Ci) : Int := if schE keys cs ≠ 0 then schE keys cs else rowE cs xs

def keyS (keys : Int) (cs : List Col) (xs : List Ci) : Int := if schE keys cs ≠ 0 then schE keys cs else rowE (cs.take keys.toNat) xs

theorem schE_inv {keys : Int} {cs : List Col} (h : schE keys cs = 0) : 1 ≤ cs.length ∧ cs.length ≤ 12 ∧ 1 ≤ keys ∧ keys ≤ 3 ∧ keys ≤ cs.length := by
  by_cases q : 1 ≤ cs.length ∧ cs.length ≤ 12 ∧ 1 ≤ keys ∧ keys ≤ 3 ∧ keys ≤ cs.length
  · exact q
  · rw [schE_shape q] at h; exact absurd h (by decide)

/-- A schema that was handed in. -/
structure SchIn (w : World) (A : Option Addr) (n c : Nat) (cs : List Col) : Prop where
  rd : RdC w A n cs
  nm : ∀ d ∈ cs, d.name.size ≤ 140737488355328
  le : n ≤ 140737488355328
  cap : n ≤ c
  max : c ≤ 9223372036854775807

theorem SchIn.ext {w w' : World} {A : Option Addr} {n c : Nat} {cs : List Col} (h : SchIn w A n c cs) (he : Ext w w') : SchIn w' A n c cs := ⟨h.rd.ext he, h.nm, h.le, h.cap, h.max⟩

theorem RdC.take {w : World} {A : Option Addr} {n : Nat} {cs : List Col} (h : RdC w A n cs) {m : Nat} (hm : m ≤ n) : RdC w A m (cs.take m) :=
  ⟨by rw [List.length_take, h.1]; omega, fun h0 => by
    obtain ⟨b, o, e, hb, hc⟩ := h.2 (by omega)
    refine ⟨b, o, e, hb, fun j c hj => ?_⟩
    rw [List.getElem?_take] at hj
    split at hj
    · exact hc j c hj
    · cases hj⟩

set_option maxHeartbeats 1600000 in
theorem refSkey_any (A : Option Addr) (n c : Nat) (keys : Int) (cs : List Col) (A2 : Option Addr) (n2 c2 : Nat) (xs : List Ci) (w : World) (hs : SchIn w A n c cs) (hx : RdX w A2 n2 xs) (hn2 : n2 ≤ 140737488355328) :
    Calls Tryd.prog 29 #[.agg #[.slice A n c, .int .i64 keys], .slice A2 n2 c2] w fun e w' => e = .returned (.int .i64 (keyS keys cs xs)) ∧ Ext w w' := by
  have hE : Ext w (w.alloc (.cells #[.slice A n c, .int .i64 keys] 24)) := (Ext.refl w).alloc _
  have h1 := hs.ext hE
  have h2 := hx.ext hE
  have hln := hs.rd.1
  obtain ⟨R, hR⟩ : ∃ R, R = keyS keys cs xs := ⟨_, rfl⟩
  rw [← hR]
  unfold keyS at hR
  obtain ⟨E, hEe⟩ : ∃ E, E = schE keys cs := ⟨_, rfl⟩
  rw [← hEe] at hR
  have HE := Lib.hid hEe
  by_cases e0 : E = 0
  · rw [if_neg (fun q => q e0)] at hR
    have hinv := schE_inv (hEe.symm.trans e0)
    rw [hln] at hinv
    obtain ⟨kk, rfl⟩ := Int.eq_ofNat_of_zero_le (show 0 ≤ keys by omega)
    rw [Int.toNat_natCast] at hR
    have hkn : kk ≤ n := by omega
    have HR := Lib.hid hR
    have b1 : (E != 0) = false := by simp [e0]
    clear hR hEe e0 hinv hln
    go_enter Tryd.func29, Tryd.ntmps29
    go_wp2_with fail
    refine (refScheck_any _ n c (kk : Int) cs _ h1.rd h1.nm h1.le).mono ?_
    rintro e w1 ⟨rfl, he1⟩
    rw [← HE.out]
    have hc1 := he1.cells
    go_wp2_with fail
    refine (refCells_any A n c (kk : Int) cs kk A2 n2 c2 xs _ (h1.rd.ext he1) (h2.ext he1) hkn h1.le hn2).mono ?_
    rintro e w2 ⟨rfl, he2⟩
    rw [← HR.out]
    go_wp2
    go_ret
    exact ⟨rfl, (hE.trans he1).trans he2⟩
  · rw [if_pos e0] at hR
    have b1 : (E != 0) = true := by simp [e0]
    clear hEe e0
    subst hR
    go_enter Tryd.func29, Tryd.ntmps29
    go_wp2_with fail
    refine (refScheck_any A n c keys cs _ h1.rd h1.nm h1.le).mono ?_
    rintro e w1 ⟨rfl, he1⟩
    rw [← HE.out]
    go_wp2
    go_ret
    exact ⟨rfl, hE.trans he1⟩

end Go.Proofs.YtnkggopkcjffoaaDoor

/-
  Layer 7's ground: rows compared.
-/
namespace Go.Proofs.YtnkggopkcjffoaaDoor
open Go.RowKit

/-- The same cells? -/
def alkC (x y : Ci) : Bool := alk x.nul x.num x.txt y.nul y.num y.txt

def alkF : List Ci → List Ci → Bool
  | x :: r, y :: s => if alkC x y = true then alkF r s else false
  | _, _ => true

def alkR (xs ys : List Ci) : Bool := if xs.length ≠ ys.length then false else alkF xs ys

theorem alkF_at {xs ys : List Ci} {j : Nat} {x y : Ci} (hx : xs[j]? = some x) (hy : ys[j]? = some y) : alkF (xs.drop j) (ys.drop j) = if alkC x y = true then alkF (xs.drop (j + 1)) (ys.drop (j + 1)) else false := by
  obtain ⟨h1, rfl⟩ := List.getElem?_eq_some_iff.1 hx
  obtain ⟨h2, rfl⟩ := List.getElem?_eq_some_iff.1 hy
  rw [List.drop_eq_getElem_cons h1, List.drop_eq_getElem_cons h2]
  rfl

theorem alkF_end {xs ys : List Ci} {j : Nat} (h : xs.length ≤ j) : alkF (xs.drop j) (ys.drop j) = true := by
  rw [List.drop_of_length_le h]
  cases ys.drop j <;> rfl

/-- What a cell is worth, wherever its text lies. -/
def Ci.val (x : Ci) : Bool × Int × List Nat := (x.nul, x.num, x.txt)

theorem alkC_iff {x y : Ci} : alkC x y = true ↔ x.val = y.val := by
  unfold alkC Ci.val
  rw [alk_iff]
  simp

theorem alkR_iff {xs ys : List Ci} : alkR xs ys = true ↔ xs.map Ci.val = ys.map Ci.val := by
  induction xs generalizing ys with
  | nil => cases ys <;> simp [alkR, alkF]
  | cons x r ih =>
    cases ys with
    | nil => simp [alkR]
    | cons y s =>
      have ih' := ih (ys := s)
      unfold alkR at ih' ⊢
      by_cases hl : r.length = s.length
      · rw [if_neg (fun q => q hl)] at ih'
        rw [if_neg (fun q => q (by simp [hl]))]
        rw [List.map_cons, List.map_cons, List.cons.injEq, ← ih', ← alkC_iff]
        show (if alkC x y = true then alkF r s else false) = true ↔ _
        split <;> simp_all
      · rw [if_pos (by simpa using hl)]
        simp only [Bool.false_eq_true, false_iff]
        intro q
        have := congrArg List.length q
        simp at this
        exact hl this

set_option maxHeartbeats 3200000 in
set_option maxRecDepth 100000 in
theorem alikeRow_any (A : Option Addr) (n c : Nat) (xs : List Ci) (A2 : Option Addr) (n2 c2 : Nat) (ys : List Ci) (w : World) (hx : RdX w A n xs) (hy : RdX w A2 n2 ys) (hn : n ≤ 140737488355328) (hn2 : n2 ≤ 140737488355328) :
    Calls Tryd.prog 15 #[.slice A n c, .slice A2 n2 c2] w fun e w' => e = .returned (.bool (alkR xs ys)) ∧ Ext w w' := by
  have hl := hx.1
  have hl2 := hy.1
  obtain ⟨R, hR⟩ : ∃ R, R = alkR xs ys := ⟨_, rfl⟩
  rw [← hR]
  unfold alkR at hR
  rw [hl, hl2] at hR
  by_cases heq : n = n2
  · subst heq
    rw [if_neg (fun q => q rfl)] at hR
    have HR := Lib.hid hR
    have Hl := Lib.hid hl
    have b1 : ((n : Int) != (n : Int)) = false := by simp
    clear hR hl hl2
    go_enter Tryd.func15, Tryd.ntmps15
    go_wp2
    go_loopw [5] (fun i wr => ∃ j : Nat, j ≤ n ∧ i = .int .i64 j ∧ Ext w wr ∧ Hid (R = alkF (xs.drop j) (ys.drop j))) (fun i _ => n - (intOf i).toNat)
    case atStart => exact ⟨0, Nat.zero_le _, rfl, Ext.refl w, HR.out⟩
    case round =>
      obtain ⟨j, hj, rfl, hE, HF⟩ := hrel
      by_cases hlt : j < n
      · obtain ⟨b, o, x, rfl, hb, hd, c0, c1, c2', hin⟩ := (hx.ext hE).at_ hlt
        obtain ⟨b2, o2, y, rfl, hb2, hy2, e0, e1, e2, hin2⟩ := (hy.ext hE).at_ hlt
        have hrow := HF.out.trans (alkF_at hd hy2)
        obtain ⟨xn, xi, xA, xc, xt⟩ := x
        obtain ⟨yn, yi, yA, yc, yt⟩ := y
        simp only at c0 c1 c2' e0 e1 e2
        obtain ⟨xr, xu, x0, x1, xl⟩ := hin
        obtain ⟨yr, yu, y0, y1, yl⟩ := hin2
        simp only at xr xu x0 x1 xl yr yu y0 y1 yl
        obtain ⟨n3, hn3⟩ : ∃ n3, n3 = xt.length := ⟨_, rfl⟩
        rw [← hn3] at c2' xr xl
        obtain ⟨n4, hn4⟩ : ∃ n4, n4 = yt.length := ⟨_, rfl⟩
        rw [← hn4] at e2 yr yl
        obtain ⟨q, hq⟩ : ∃ q, q = alk xn xi xt yn yi yt := ⟨_, rfl⟩
        have hqq : alkC ⟨xn, xi, xA, xc, xt⟩ ⟨yn, yi, yA, yc, yt⟩ = q := hq.symm
        rw [hqq] at hrow
        have HC : Hid (∀ W, Ext wr W → Calls Tryd.prog 44 #[.agg #[.bool xn, .int .i64 xi, .slice xA n3 xc], .agg #[.bool yn, .int .i64 yi, .slice yA n4 yc]] W fun e w' => e = .returned (.bool q) ∧ Ext W w') := Lib.hid (fun W hW => by
          rw [hq]; exact alike_any xn xi xA n3 xc xt yn yi yA n4 yc yt W (xr.ext hW) (yr.ext hW) (by omega) (by omega))
        have K : Hid (∀ w', Ext wr w' → w'.cell? ⟨b, o + j * 3, none⟩ = some (.bool xn) ∧ w'.cell? ⟨b, o + j * 3 + 1, none⟩ = some (.int .i64 xi) ∧ w'.cell? ⟨b, o + j * 3 + 2, none⟩ = some (.slice xA n3 xc) ∧ w'.cell? ⟨b2, o2 + j * 3, none⟩ = some (.bool yn) ∧ w'.cell? ⟨b2, o2 + j * 3 + 1, none⟩ = some (.int .i64 yi) ∧ w'.cell? ⟨b2, o2 + j * 3 + 2, none⟩ = some (.slice yA n4 yc)) := Lib.hid (fun w' he =>
          ⟨(he.cells b _ hb).trans c0, (he.cells b _ hb).trans c1, (he.cells b _ hb).trans c2', (he.cells b2 _ hb2).trans e0, (he.cells b2 _ hb2).trans e1, (he.cells b2 _ hb2).trans e2⟩)
        have Hrow := Lib.hid hrow
        have i0 : (0 : Int) ≤ (j : Int) := by omega
        have i1 : (j : Int) < (n : Int) := by omega
        have g8 := K.out _ (Ext.refl wr)
        clear hrow hqq hq hn3 hn4 hd hy2 xr xu x0 x1 xl yr yu y0 y1 yl c0 c1 c2' e0 e1 e2
        go_wp2_with fail
        go_region_held3 (fun w' => w'.cell? ⟨b, o + j * 3, none⟩ = some (.bool xn) ∧ w'.cell? ⟨b, o + j * 3 + 1, none⟩ = some (.int .i64 xi) ∧ w'.cell? ⟨b, o + j * 3 + 2, none⟩ = some (.slice xA n3 xc) ∧ w'.cell? ⟨b2, o2 + j * 3, none⟩ = some (.bool yn) ∧ w'.cell? ⟨b2, o2 + j * 3 + 1, none⟩ = some (.int .i64 yi) ∧ w'.cell? ⟨b2, o2 + j * 3 + 2, none⟩ = some (.slice yA n4 yc))
          (first | exact g8 | (refine K.out _ ?_; (repeat (first | exact Ext.refl _ | (with_reducible refine Ext.trans ?_ he3) | apply Ext.drew | apply Ext.alloc | fail))) | fail)
          (first
            | (go_at_call 44; (with_reducible refine (HC.out _ ?_).mono ?_); (focus ((repeat (first | exact Ext.refl _ | (with_reducible refine Ext.trans ?_ he3) | apply Ext.drew | apply Ext.alloc | fail)); done)); rintro e w3 ⟨rfl, he3⟩)
            | fail)
        have hE3 : Ext w w3 := hE.trans (by (repeat (first | exact Ext.refl _ | (with_reducible refine Ext.trans ?_ he3) | apply Ext.drew | apply Ext.alloc | fail)))
        cases q with
        | true =>
          have HN := Lib.hid (Hrow.out.trans (if_pos rfl))
          go_wp2
          go_roundw
          case rel => exact ⟨j + 1, by omega, by go_num, hE3, HN.out⟩
          case measure => simp [intOf]; omega
        | false =>
          have HN := Lib.hid (Hrow.out.trans (if_neg (by decide)))
          go_wp2
          go_ret
          exact ⟨by rw [HN.out]; rfl, hE3⟩
      · obtain rfl : j = n := by omega
        have HN := Lib.hid (HF.out.trans (alkF_end (Nat.le_of_eq Hl.out)))
        go_wp2
        go_ret
        exact ⟨by rw [HN.out]; rfl, hE⟩
  · rw [if_pos heq] at hR
    have b1 : ((n : Int) != (n2 : Int)) = true := by rw [bne_iff_ne]; omega
    clear heq hl hl2
    subst hR
    go_enter Tryd.func15, Tryd.ntmps15
    go_wp2
    go_ret
    exact ⟨rfl, Ext.refl w⟩

end Go.Proofs.YtnkggopkcjffoaaDoor
