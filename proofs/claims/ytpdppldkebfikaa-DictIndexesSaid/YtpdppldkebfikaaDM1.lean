import Derived.Test.YtpdppldkebfikaaShelf
import Derived.Test.YtpdppldkebfikaaCS
import Derived.Test.YtpdppldkebfikaaM10
import Derived.Maps.Own
import Derived.Maps.OwnOps
import Derived.Test.YtpdppldkebfikaaTX
import Derived.Lib.ConvBytes
import Derived.Test.YtpdppldkebfikaaD10b
import Derived.StringKeys

-- part D10c
/-
  Layer 10: a map's keys in order; numbers by texts.
-/
namespace Go.Proofs.Ytpdppldkebfikaa
open Go.RowKit Go.Maps Go.Sort Go.Shelf

/-- slices.Sort's two contracts here. -/
theorem sorts_any (m : Nat) : AnyZ.SortsIn Try.prog Try.sorted38_ren Fence.wide m :=
  ⟨fun blk off cap ss W hH hblk hsz => callsIn_wide.2 (AnyM.slices_Sort_string Try.sort74 blk off cap ss W hH hblk hsz),
   fun p cap W => callsIn_wide.2 (AnyM.slices_Sort_string_none Try.sort74 p cap W)⟩

/-- maps.Keys: a function value over one new block that holds the map. -/
theorem keys_any (mb : Option Nat) (W : World) : Calls Try.prog 39 #[.map mb] W fun e w' => e = .returned (.func (.func 75) #[] #[.pointer (some ⟨W.heap.size, 0, none⟩)]) ∧ w' = W.alloc (.cells #[.map mb] 55) :=
  (callsIn_wide (n := 5)).1 (AnyZ.keys_in Try.keys39 Fence.wide 5 trivial rfl mb W)

set_option maxHeartbeats 1000000 in
/-- slices.Sorted at what maps.Keys handed back. -/
theorem sortedKeys_any {H : Type} (b nn : Nat) (D0 : DataW H) (R : Value → Option (DataW H × List MemPlace)) (w : World) (hown : w.ownsMap Try.prog 9 R b nn D0) (hmax : Maps.size D0 ≤ maxLen) (hbytes : Maps.size D0 * 16 ≤ 140737488355328) :
    Calls Try.prog 38 #[.func (.func 75) #[] #[.pointer (some ⟨w.heap.size, 0, none⟩)]] (w.alloc (.cells #[.map (some b)] 55)) fun e w' => ∃ (v : Value) (ss : List (List UInt8)), e = .returned v ∧ ss.Perm (strKeys D0) ∧
      w'.ownsRow (w.alloc (.cells #[.map (some b)] 55)).heap.size 9 1 v ss.length ((ss.mergeSort (fun x y => decide (x ≤ y))).map encStr) ∧ Ext (w.alloc (.cells #[.map (some b)] 55)) w' := by
  refine (callsIn_wide (n := 5)).1 ?_
  have hbl := hown.lt
  have hseq : SeqGives Fence.wide 2 Try.prog 75 #[.pointer (some ⟨w.heap.size, 0, none⟩)] encStr (fun ss => ss.Perm (strKeys D0)) (Maps.size D0) (w.alloc (.cells #[.map (some b)] 55)) :=
    AnyZ.keys_gives (ρ := Try.keys39_ren) { Try.keys39 with } Fence.wide _ trivial rfl (by omega) w.heap.size b nn D0 _ (by simp) (by simp) (by
      obtain ⟨es, clock, hb, Ft, hs, hD⟩ := hown
      exact ⟨es, clock, (Below.heap_alloc _ _ b hbl).trans hb, Ft, hs, hD⟩)
  have h := AnyZ.sorted_in Try.sorted38 Fence.wide 5 trivial trivial trivial trivial rfl (by omega) (sorts_any _) (enters_of Try.func74 (by kernel_rfl) rfl) 75 #[.pointer (some ⟨w.heap.size, 0, none⟩)] trivial (enters_of Try.func75 (by kernel_rfl) rfl) _ _ hmax hbytes _ hseq
  exact h.mono fun e w' ⟨v, ss, h1, h2, h3, _, h5⟩ => ⟨v, ss, h1, h2, h3, h5⟩

/-- The library's bytes as numbers. -/
def n8s (xs : List UInt8) : List Nat := xs.map UInt8.toNat
theorem n8s_u8s : ∀ {xs : List Nat}, U8 xs → n8s (u8s xs) = xs
  | [], _ => rfl
  | x :: r, h => by
    rw [u8s_cons]
    show (UInt8.ofNat x).toNat :: n8s (u8s r) = _
    rw [n8s_u8s (fun y hy => h y (List.mem_cons_of_mem _ hy)), UInt8.toNat_ofNat_of_lt' (h x (by simp))]
theorem u8s_n8s : ∀ (xs : List UInt8), u8s (n8s xs) = xs
  | [] => rfl
  | x :: r => by
    show u8s (x.toNat :: n8s r) = _
    rw [u8s_cons, u8s_n8s r, UInt8.ofNat_toNat]
theorem u8s_eq {xs ys : List Nat} (hx : U8 xs) (hy : U8 ys) (h : u8s xs = u8s ys) : xs = ys := by rw [← n8s_u8s hx, h, n8s_u8s hy]
theorem sstr_list (xs : List Nat) : (sstr xs).data.toList = u8s xs := rfl
theorem sstr_size (xs : List Nat) : (sstr xs).size = xs.length := by
  show (List.map _ _).toArray.size = _
  simp
theorem sstr_enc (xs : List Nat) : Value.string (sstr xs) = encStr (u8s xs) := rfl

theorem lt_ord : ∀ {a b : List Nat}, U8 a → U8 b → (u8s a < u8s b ↔ ordT a b < 0)
  | [], [], _, _ => by simp [u8s, Lib.bytesOf, ordT]
  | [], y :: s, _, _ => by
    rw [u8s_cons]
    simp [u8s, Lib.bytesOf, ordT]
  | x :: r, [], _, _ => by
    rw [u8s_cons]
    simp [u8s, Lib.bytesOf, ordT]
  | x :: r, y :: s, h, h2 => by
    have hx : x < 256 := h x (by simp)
    have hy : y < 256 := h2 y (by simp)
    have ih := lt_ord (a := r) (b := s) (fun z hz => h z (List.mem_cons_of_mem _ hz)) (fun z hz => h2 z (List.mem_cons_of_mem _ hz))
    rw [u8s_cons, u8s_cons, List.cons_lt_cons_iff, u8_lt hx hy, u8_inj hx hy, ih, ordT]
    rcases Nat.lt_trichotomy x y with q | q | q
    · rw [if_pos q]; simp [q]
    · subst q; simp
    · rw [if_neg (by omega), if_pos q]; simp; omega

/-- The map's keys, sorted, are the texts in order that it has. -/
theorem sorted_is {H : Type} {b nn : Nat} {D : DataW H} {R : Value → Option (DataW H × List MemPlace)} {w : World} (hown : w.ownsMap Try.prog 9 R b nn D) {ss : List (List UInt8)} (hp : ss.Perm (strKeys D))
    {L : List (List Nat)} (ha : Asc L) (hu : ∀ x ∈ L, U8 x) (hm : ∀ x, x ∈ L.map u8s ↔ has D (.string x) = true) :
    ss.mergeSort (fun x y => decide (x ≤ y)) = L.map u8s ∧ ss.length = L.length := by
  have hpw : (L.map u8s).Pairwise (fun x y => x < y) := by
    rw [List.pairwise_map]
    refine List.Pairwise.imp_of_mem ?_ ha
    intro x y hx hy h
    exact (lt_ord (hu x hx) (hu y hy)).2 h
  have hnd : (L.map u8s).Nodup := hpw.imp fun {x y} h e => by subst e; exact List.lt_irrefl _ h
  obtain ⟨es, hD, hpe, _⟩ := hown.entries (string_keyed Try.underlying9)
  obtain ⟨es', hD', hko⟩ := hown.keysOf
  obtain rfl : es = es' := by rw [hD] at hD'; simpa using hD'
  subst hD
  have hS := perm_strKeys hpe (fun p hp => by obtain ⟨v, hv⟩ := hko p hp; obtain ⟨x, _, hx, _⟩ := Maps.keyOf_str Try.underlying9 hv; exact ⟨x, hx⟩) hnd hm
  have hperm : ss.Perm (L.map u8s) := hp.trans hS.symm
  refine ⟨?_, by rw [hperm.length_eq, List.length_map]⟩
  have h1 := mergeSort_of_perm hperm
  have h2 : (L.map u8s).mergeSort leB = L.map u8s := List.mergeSort_of_pairwise (hpw.imp fun {x y} h => by simp only [leB, decide_eq_true_eq]; exact List.le_of_lt h)
  exact h1.trans h2

end Go.Proofs.Ytpdppldkebfikaa

-- part D10d
/-
  Layer 10: bytes made of a string: a row with its mark behind its last cell.
-/
namespace Go.Proofs.Ytpdppldkebfikaa
open Go.RowKit

/-- A row of bytes of the call's own that was made of a string: the mark lies behind its last cell. -/
def OwnM (w : World) (base : Nat) (A : Option Addr) (c : Nat) (xs : List Nat) : Prop :=
  ∃ g cur, A = some ⟨g, 0, none⟩ ∧ base ≤ g ∧ w.heap[g]? = some (.cells cur 5 (c, c + 1)) ∧ xs.length ≤ c ∧ c ≤ 9223372036854775807 ∧ cur.size = c ∧ cur.toList.take xs.length = xs.map fun x : Nat => Value.int .u8 (x : Int)

section
variable {w w' : World} {base c : Nat} {A : Option Addr} {xs : List Nat}
theorem OwnM.ext (h : OwnM w base A c xs) (he : Ext w w') : OwnM w' base A c xs := by
  obtain ⟨g, cur, h1, h2, h3, h4⟩ := h
  exact ⟨g, cur, h1, h2, (he.block g (Array.getElem?_eq_some_iff.1 h3).1).trans h3, h4⟩
theorem OwnM.grown (h : OwnM w base A c xs) {row : Option Nat} (hg : w.grownBy w' row) (hne : ∀ a, A = some a → some a.block ≠ row) : OwnM w' base A c xs := by
  obtain ⟨g, cur, h1, h2, h3, h4⟩ := h
  exact ⟨g, cur, h1, h2, (hg.block g (Array.getElem?_eq_some_iff.1 h3).1 (hne _ h1)).trans h3, h4⟩
theorem OwnM.mono (h : OwnM w base A c xs) {base' : Nat} (hb : base' ≤ base) : OwnM w base' A c xs := by
  obtain ⟨g, cur, h1, h2, h4⟩ := h
  exact ⟨g, cur, h1, Nat.le_trans hb h2, h4⟩
theorem OwnM.block (h : OwnM w base A c xs) : ∀ a, A = some a → base ≤ a.block ∧ a.block < w.heap.size := by
  obtain ⟨g, cur, rfl, h2, h3, _⟩ := h
  intro a ha
  injection ha with ha
  subst ha
  exact ⟨h2, (Array.getElem?_eq_some_iff.1 h3).1⟩
theorem OwnM.cap (h : OwnM w base A c xs) : xs.length ≤ c ∧ c ≤ 9223372036854775807 := by
  obtain ⟨g, cur, _, _, _, h4, h5, _⟩ := h
  exact ⟨h4, h5⟩
theorem OwnM.rd (h : OwnM w base A c xs) : Rd .u8 w A xs.length xs := by
  obtain ⟨g, cur, rfl, h2, h3, h4, h5, h6, h7⟩ := h
  refine ⟨rfl, fun hn => ⟨g, 0, rfl, (Array.getElem?_eq_some_iff.1 h3).1, fun j hj => ?_⟩⟩
  rw [cell_of_row w g (0 + j) cur _ _ h3, Nat.zero_add]
  have h1 : (cur.toList.take xs.length)[j]? = some (Value.int .u8 ((xs.getD j 0 : Nat) : Int)) := by rw [h7, List.getElem?_map, List.getElem?_eq_getElem hj]; simp [List.getD, hj]
  rw [List.getElem?_take, if_pos hj] at h1
  simpa using h1
theorem own_neM {base' c' : Nat} {A' : Option Addr} {ts : List Sl} (h : OwnT w base A c ts) (k : OwnM w base' A' c' xs) : ∀ a, A' = some a → some a.block ≠ (Value.slice A ts.length c).ownBlock := by
  rintro a rfl e
  rcases h.2 with ⟨hv, _⟩ | ⟨g, cap, cur, hv, hg, hh, _⟩
  · rw [hv] at e; simp [Value.ownBlock] at e
  · rw [hv] at e
    simp [Value.ownBlock] at e
    obtain ⟨g', cur', hA, _, hh', _⟩ := k
    injection hA with hA
    subst hA
    simp at e
    subst e
    rw [hh] at hh'
    injection hh' with hh'
    injection hh' with h1 h2 h3
    exact absurd h2 (by decide)
end

/-- '[]byte(s)'. -/
theorem conv_back (W : World) {xs : List Nat} (hu : U8 xs) (hl : xs.length ≤ 1000000) : ∃ w' c, (convert 9 34 (.string (sstr xs))).run Try.prog W = .ok (.slice (some ⟨W.heap.size, 0, none⟩) xs.length c) w' ∧ OwnM w' W.heap.size (some ⟨W.heap.size, 0, none⟩) c xs ∧ Ext W w' := by
  have hsz := sstr_size xs
  refine ⟨Lib.bytesWorld W 5 (sstr xs), grownCap W xs.length 0 5, ?_, ?_, ?_⟩
  · have := Lib.run_convert_string_bytes (P := Try.prog) W 9 34 5 (sstr xs) Try.underlying9 Try.underlying34 Try.underlying5
    rw [this, hsz]
  · have hge := grownCap_ge W xs.length 0 5
    have hle := grownCap_le_maxLen W xs.length 0 5 (by unfold maxLen; omega)
    have hcs : (Lib.bytesCells W 5 (sstr xs)).size = grownCap W xs.length 0 5 := by
      unfold Lib.bytesCells
      rw [hsz]
      have : (sstr xs).data.size = xs.length := hsz
      simp [this]
      omega
    refine ⟨W.heap.size, Lib.bytesCells W 5 (sstr xs), rfl, Nat.le_refl _, ?_, hge, by simpa [maxLen] using hle, hcs, ?_⟩
    · have := Lib.bytesWorld_at_new W 5 (sstr xs)
      rw [this, hcs]
    · have e1 : (sstr xs).data.toList.map (fun b : UInt8 => Value.int .u8 (b.toNat : Int)) = xs.map fun x : Nat => Value.int .u8 (x : Int) := by
        rw [sstr_list, ← n8s_u8s hu]
        simp only [n8s, List.map_map]
        rw [show (List.map UInt8.toNat (u8s xs)) = xs from n8s_u8s hu]
        rfl
      unfold Lib.bytesCells
      rw [Array.toList_append, Array.toList_map, e1, List.take_append_of_le_length (by simp), List.take_of_length_le (by simp)]
  · have hs := Lib.bytesWorld_size W 5 (sstr xs)
    refine ⟨rfl, rfl, rfl, by omega, fun i hi => Lib.bytesWorld_at_old W 5 (sstr xs) i hi⟩

/-- Texts made of strings, each in a block of its own. -/
structure TxtsM (w : World) (base : Nat) (ts : List Sl) : Prop where
  own : ∀ s ∈ ts, OwnM w base s.A s.c s.body
  apart : ts.Pairwise fun s t => ∀ p q, s.A = some p → t.A = some q → p.block < q.block

section
variable {w w' : World} {base c : Nat} {A : Option Addr} {ts : List Sl}
theorem TxtsM.nil (w : World) (base : Nat) : TxtsM w base [] := ⟨fun s hs => (by cases hs), List.Pairwise.nil⟩
theorem TxtsM.ext (h : TxtsM w base ts) (he : Ext w w') : TxtsM w' base ts := ⟨fun s hs => (h.own s hs).ext he, h.apart⟩
theorem TxtsM.mono (h : TxtsM w base ts) {base' : Nat} (hb : base' ≤ base) : TxtsM w base' ts := ⟨fun s hs => (h.own s hs).mono hb, h.apart⟩
theorem TxtsM.far (h : TxtsM w base ts) {g : Nat} (hg : w.grownBy w' (some g)) (hb : g < base) : TxtsM w' base ts :=
  ⟨fun s hs => (h.own s hs).grown hg (fun a ha e => by
    injection e with e
    have := ((h.own s hs).block a ha).1
    omega), h.apart⟩
theorem TxtsM.grown (h : TxtsM w base ts) {base' : Nat} {us : List Sl} (k : OwnT w base' A c us) (hg : w.grownBy w' (Value.slice A us.length c).ownBlock) : TxtsM w' base ts :=
  ⟨fun s hs => (h.own s hs).grown hg (own_neM k (h.own s hs)), h.apart⟩
theorem TxtsM.lt (h : TxtsM w base ts) : ∀ t ∈ ts, ∀ p, t.A = some p → p.block < w.heap.size := fun t ht p hp => ((h.own t ht).block p hp).2
theorem TxtsM.rd (h : TxtsM w base ts) : ∀ s ∈ ts, Rd .u8 w s.A s.body.length s.body := fun s hs => (h.own s hs).rd
theorem TxtsM.snoc (h : TxtsM w base ts) {s : Sl} {base' : Nat} (hs : OwnM w base' s.A s.c s.body) (hb : base ≤ base') (hl : ∀ t ∈ ts, ∀ p, t.A = some p → p.block < base') : TxtsM w base (ts ++ [s]) := by
  refine ⟨fun t ht => ?_, ?_⟩
  · rcases List.mem_append.1 ht with h1 | h1
    · exact h.own t h1
    · simp at h1; subst h1; exact hs.mono hb
  · rw [List.pairwise_append]
    refine ⟨h.apart, by simp, fun t ht f' hf' p q hp hq => ?_⟩
    simp at hf'
    subst hf'
    exact Nat.lt_of_lt_of_le (hl t ht p hp) (hs.block q hq).1
end

/-- Strings as elements. -/
def shStr : Shape (List Nat) := ⟨fun x => [.string (sstr x)], 1, fun _ => rfl, by intro x u hu; simp at hu; subst hu; rfl⟩

theorem strs_all : ∀ L : List (List Nat), (L.map u8s).map encStr = shStr.all L
  | [] => rfl
  | x :: r => by
    rw [Shape.all_cons, ← strs_all r]
    rfl
theorem strs_of {w : World} {base n : Nat} {v : Value} {L : List (List Nat)} (h : w.ownsRow base 9 1 v n ((L.map u8s).map encStr)) (hn : n = L.length) : ∃ A c, v = .slice A L.length c ∧ OwnG shStr 9 w base A c L := by
  subst hn
  rw [strs_all] at h
  rcases h.2 with ⟨hv, h0⟩ | ⟨g, cap, cur, hv, _⟩
  · exact ⟨none, 0, by rw [hv, h0], by rw [hv] at h; unfold OwnG; rw [h0] at h ⊢; exact h⟩
  · exact ⟨some ⟨g, 0, none⟩, cap, hv, by rw [hv] at h; exact h⟩

end Go.Proofs.Ytpdppldkebfikaa

-- part D10e
/-
  Layer 10: the program's Index.
-/
namespace Go.Proofs.Ytpdppldkebfikaa
open Go.RowKit Go.Maps Go.WideMaps

theorem isLong10_any (A : Option Addr) (n c : Nat) (w : World) :
    Calls Try.prog 37 #[.slice A n c] w fun e w' => e = .returned (.bool (decide (200 < n))) ∧ w' = w := by
  by_cases h : 200 < n
  · rw [decide_eq_true h]
    go_enter Try.func37, Try.ntmps37
    go_wp2
    go_ret
    exact ⟨by simp <;> omega, rfl⟩
  · rw [decide_eq_false h]
    go_enter Try.func37, Try.ntmps37
    go_wp2
    go_ret
    exact ⟨by simp <;> omega, rfl⟩

theorem indexLong10_any (A : Option Addr) (n c : Nat) (ss : List Sl) (w : World) (hx : RdL w A n ss) (hn : n ≤ 140737488355328) :
    Calls Try.prog 72 #[.slice A n c, .func (.func 37) #[] #[]] w fun e w' => ∃ r : Int, e = .returned (.int .i64 r) ∧ w' = w ∧ decide (0 ≤ r) = anyLong (bodies ss) := by
  have Hl := Lib.hid hx.1
  obtain ⟨R, hR⟩ : ∃ R, R = anyLong (bodies ss) := ⟨_, rfl⟩
  rw [← hR]
  have HR := Lib.hid hR
  clear hR
  go_enter Try.func72, Try.ntmps72
  go_wp2
  go_loopw [5, 8] (fun _ i wr => ∃ j : Nat, j ≤ n ∧ i = .int .i64 j ∧ wr = w ∧ Hid (anyLong (bodies (ss.take j)) = false)) (fun _ i _ => n - (intOf i).toNat)
  case atStart => exact ⟨0, Nat.zero_le _, rfl, rfl, rfl⟩
  case round =>
    obtain ⟨j, hj, rfl, rfl, HA⟩ := hrel
    by_cases hlt : j < n
    · obtain ⟨b, o, s, rfl, hf, h1⟩ := hx.at_ hlt
      obtain ⟨sA, sc, body⟩ := s
      simp only at h1
      have e0 : bodies (ss.take (j + 1)) = bodies (ss.take j) ++ [body] := by rw [List.take_add_one, hf]; unfold bodies; rw [List.map_append]; rfl
      by_cases hb : 200 < body.length
      · have hfin := Lib.hid (show true = R by rw [HR.out]; exact (anyLong_iff.2 ⟨body, List.mem_map.2 ⟨_, List.mem_of_getElem? hf, rfl⟩, hb⟩).symm)
        clear e0 hf
        obtain ⟨m, hm⟩ : ∃ m, m = body.length := ⟨_, rfl⟩
        rw [← hm] at h1 hb
        clear hm
        have hd : decide (200 < m) = true := decide_eq_true hb
        go_wp2_with (refine (isLong10_any _ _ _ _).mono ?_; rintro e w1 ⟨rfl, rfl⟩; rw [hd])
        go_ret
        exact ⟨_, rfl, rfl, by rw [← hfin.out]; exact decide_eq_true (by omega)⟩
      · have hN := Lib.hid (show anyLong (bodies (ss.take (j + 1))) = false by rw [e0, anyLong, List.any_append]; simp [anyLong] at HA; simp <;> first | omega | (refine ⟨HA.out, by omega⟩))
        clear e0 hf
        obtain ⟨m, hm⟩ : ∃ m, m = body.length := ⟨_, rfl⟩
        rw [← hm] at h1 hb
        clear hm
        have hd : decide (200 < m) = false := decide_eq_false hb
        go_wp2_with (refine (isLong10_any _ _ _ _).mono ?_; rintro e w1 ⟨rfl, rfl⟩; rw [hd])
        go_roundw
        case rel => exact ⟨j + 1, by omega, by go_num, by first | trivial | rfl, hN⟩
        case measure => simp [intOf]; omega
    · obtain rfl : j = n := by omega
      have hfin := Lib.hid (show false = R by rw [HR.out, ← HA.out, List.take_of_length_le (by rw [Hl.out]; exact Nat.le_refl _)])
      go_wp2
      go_ret
      exact ⟨_, rfl, by first | trivial | rfl, by rw [← hfin.out]; rfl⟩

theorem containsLong10_any (A : Option Addr) (n c : Nat) (ss : List Sl) (w : World) (hx : RdL w A n ss) (hn : n ≤ 140737488355328) :
    Calls Try.prog 36 #[.slice A n c, .func (.func 37) #[] #[]] w fun e w' => e = .returned (.bool (anyLong (bodies ss))) ∧ w' = w := by
  have H := Lib.hid (indexLong10_any A n c ss w hx hn)
  clear hx
  go_enter Try.func36, Try.ntmps36
  go_wp2_with fail
  refine H.out.mono ?_
  rintro e w1 ⟨r, rfl, rfl, hr⟩
  have Hr := Lib.hid hr
  clear hr
  go_wp2
  go_ret
  exact ⟨by rw [← Hr.out]; simp, by first | trivial | rfl⟩

theorem lawK : Keyed Try.prog 9 := string_keyed Try.underlying9
theorem run_mkM (w : World) : (Instr.makeMap 55 none).run Try.prog w = .ok (.map (some w.heap.size)) (w.alloc (.map #[] 0)) := by
  simp [Instr.makeMap, Result.andThen]
theorem zero_int (w : World) : (zeroValue 3).run Try.prog w = .ok (.int .i64 0) w := by
  rw [Try.zeroValue3]
noncomputable abbrev elI (H : Type) : Value → Option (DataW H × List MemPlace) := plainElem Try.prog 3
theorem i64_min : IntKind.i64.min = -9223372036854775808 := by decide
theorem i64_max : IntKind.i64.max = 9223372036854775807 := by decide
theorem elI_mk {H : Type} (i : Nat) (hi : i ≤ 1000000) : elI H (.int .i64 (i : Int)) = some (.lit (.int .i64 (i : Int)), []) := by
  refine plainElem_int Try.underlying3 ?_
  have h1 : IntKind.i64.min ≤ (i : Int) := by rw [i64_min]; omega
  have h2 : (i : Int) ≤ IntKind.i64.max := by rw [i64_max]; omega
  simp [Lit.wf, h1]
  omega
theorem key_of (xs : List Nat) (h : xs.length ≤ 140737488355328) : keyOf Try.prog 9 (.string (sstr xs)) = some (.string (u8s xs)) := by
  have := keyOf_string_mk (P := Try.prog) (k := 9) Try.underlying9 (s := sstr xs) (by rw [sstr_size]; unfold maxLen; omega)
  rw [this, sstr_list]

def keyL (xs : List Nat) : Lit := .string (u8s xs)
/-- The map with each of these texts' number 0. -/
def D0of (ss : List (List Nat)) : DataW Unit := setOf (.lit (.int .i64 0)) (ss.map keyL)
theorem D0of_snoc (ss : List (List Nat)) (t : List Nat) : D0of (ss ++ [t]) = (D0of ss).put (keyL t) (.lit (.int .i64 0)) := by unfold D0of; rw [List.map_append]; exact setOf_snoc ..
theorem D0of_key (ss : List (List Nat)) : ∀ x ∈ ss.map keyL, WideAt.IsKeyLit x := by
  intro x hx
  obtain ⟨s, _, rfl⟩ := List.mem_map.1 hx
  exact trivial
theorem D0of_has (ss : List (List Nat)) (x : List UInt8) : has (D0of ss) (.string x) = true ↔ x ∈ ss.map u8s := by
  unfold D0of
  rw [has_setOf _ _ _ (D0of_key ss), List.any_eq_true]
  constructor
  · rintro ⟨l, hl, h⟩
    obtain ⟨s, hs, rfl⟩ := List.mem_map.1 hl
    have : u8s s = x := by simpa [keyL, Lit.sameKey] using h
    rw [← this]
    exact List.mem_map.2 ⟨s, hs, rfl⟩
  · intro h
    obtain ⟨s, hs, rfl⟩ := List.mem_map.1 h
    exact ⟨keyL s, List.mem_map.2 ⟨s, hs, rfl⟩, by simp [keyL, Lit.sameKey]⟩
theorem D0of_map (ss : List (List Nat)) : IsMap (D0of ss) := (tidy_setOf _ _ (D0of_key ss)).isMap

/-- The first j texts' numbers are their places. -/
def NumD (D : DataW Unit) (L : List (List Nat)) (j : Nat) : Prop := IsMap D ∧ ∀ i x, i < j → L[i]? = some x → ∀ z, D.atKey (keyL x) z = .lit (.int .i64 (i : Int))
theorem NumD.step {D : DataW Unit} {L : List (List Nat)} {j : Nat} {t : List Nat} (h : NumD D L j) (ha : Asc L) (hu : ∀ x ∈ L, U8 x) (ht : L[j]? = some t) : NumD (D.put (keyL t) (.lit (.int .i64 (j : Int)))) L (j + 1) := by
  refine ⟨h.1.put _ _, fun i x hi hx z => ?_⟩
  by_cases hij : i = j
  · subst hij
    rw [ht] at hx
    injection hx with hx
    subst hx
    exact atKey_put_same h.1 (show WideAt.IsKeyLit (keyL t) from trivial) _ _
  · rw [atKey_put_other (fun e => ?_) _ _]
    · exact h.2 i x (by omega) hx z
    · have e1 : u8s x = u8s t := by injection e
      have hxt : x = t := u8s_eq (hu x (List.mem_of_getElem? hx)) (hu t (List.mem_of_getElem? ht)) e1
      subst hxt
      obtain ⟨q1, e2⟩ := List.getElem?_eq_some_iff.1 hx
      obtain ⟨q2, e3⟩ := List.getElem?_eq_some_iff.1 ht
      have := List.pairwise_iff_getElem.1 ha i j q1 q2 (by omega)
      rw [e2, e3, ordT_self] at this
      omega

/-- Rows of unlike element types lie in unlike blocks. -/
theorem own_neG {T1 T2 : Type} {s1 : Shape T1} {s2 : Shape T2} {e1 e2 : TypeId} {w : World} {base base' c c' : Nat} {A A' : Option Addr} {xs : List T1} {ys : List T2} (hne : e1 ≠ e2) (h : OwnG s1 e1 w base A c xs) (k : OwnG s2 e2 w base' A' c' ys) : ∀ a, A' = some a → some a.block ≠ (Value.slice A xs.length c).ownBlock := by
  rintro a rfl e
  rcases h.2 with ⟨hv, _⟩ | ⟨g, cap, cur, hv, hg, hh, _⟩
  · rw [hv] at e; simp [Value.ownBlock] at e
  · rw [hv] at e
    simp [Value.ownBlock] at e
    rcases k.2 with ⟨hv', _⟩ | ⟨g', cap', cur', hv', _, hh', _⟩
    · cases hv'
    · injection hv' with hA
      injection hA with hA
      subst hA
      simp at e
      subst e
      rw [hh] at hh'
      injection hh' with hh'
      injection hh' with h1 h2 h3
      exact hne h2
theorem OwnG.far {T : Type} {s : Shape T} {e : TypeId} {w w' : World} {base c b : Nat} {A : Option Addr} {xs : List T} (h : OwnG s e w base A c xs) (hg : w.grownBy w' (some b)) (hb : b < base) : OwnG s e w' base A c xs :=
  h.grown hg (fun a ha q => by
    injection q with q
    have := (h.block a ha).1
    omega)
theorem size_of_owns {w : World} {R : Value → Option (DataW Unit × List MemPlace)} {g n : Nat} {D : DataW Unit} (h : w.ownsMap Try.prog 9 R g n D) : Maps.size D ≤ n := by
  obtain ⟨es, clock, hb, F, hs, rfl⟩ := h
  rw [size_eq, length_sorted]
  simpa using hs
/-- A list's own block, where its row lies above. -/
theorem row_above {base c n g : Nat} {A : Option Addr} (h : ∀ a, A = some a → base ≤ a.block) (hg : g < base) : some g ≠ (Value.slice A n c).ownBlock := by
  cases A with
  | none => simp [Value.ownBlock]
  | some a =>
    intro e
    simp [Value.ownBlock] at e
    have := h a rfl
    omega

/-- What the program's Index leaves. -/
def IdxPost (R : List (List Nat) × List Nat × Int) (w : World) (e : Ending) (w' : World) : Prop :=
  ∃ A' c' us B cB, e = .returned (.tuple #[.slice A' us.length c', .slice B R.2.1.length cB, .int .i64 R.2.2]) ∧ bodies us = R.1 ∧ OwnT w' w.heap.size A' c' us ∧ TxtsM w' w.heap.size us ∧ Own .i64 3 w' w.heap.size B cB R.2.1 ∧ Ext w w'
theorem IdxPost.bad {w w' : World} (R : List (List Nat) × List Nat × Int) {E : Int} (h : R = ([], [], E)) (he : Ext w w') : IdxPost R w (.returned (.tuple #[.slice none 0 0, .slice none 0 0, .int .i64 E])) w' := by
  subst h
  exact ⟨none, 0, [], none, 0, rfl, rfl, OwnG.nil .., TxtsM.nil .., Own.nil .., he⟩
theorem IdxPost.good {w w' : World} (R : List (List Nat) × List Nat × Int) {us : List Sl} {ns : List Nat} {A B : Option Addr} {m c n cB : Nat} (h : R = (bodies us, ns, 0)) (hm : us.length = m) (hn : ns.length = n) (ho : OwnT w' w.heap.size A c us) (ht : TxtsM w' w.heap.size us) (hB : Own .i64 3 w' w.heap.size B cB ns) (he : Ext w w') :
    IdxPost R w (.returned (.tuple #[.slice A m c, .slice B n cB, .int .i64 0])) w' := by
  subst h hm hn
  exact ⟨A, c, us, B, cB, rfl, rfl, ho, ht, hB, he⟩

end Go.Proofs.Ytpdppldkebfikaa
