import Derived.Test.YthibbgmicmfkfaaGreatGX7
import Derived.Maps.Own
import Derived.Maps.OwnOps
import Derived.Lib.ConvBytes
import Derived.StringKeys
-- part D10c
namespace Go.Proofs.YthibbgmicmfkfaaGreat
open Go.RowKit Go.Maps Go.Sort Go.Shelf
set_option maxRecDepth 100000
theorem sorts_any (m : Nat) : AnyZ.SortsIn Tryz.prog Tryz.sorted204_ren Fence.wide m :=
  ⟨fun blk off cap ss W hH hblk hsz => callsIn_wide.2 (AnyM.slices_Sort_string Tryz.sort215 blk off cap ss W hH hblk hsz),
   fun p cap W => callsIn_wide.2 (AnyM.slices_Sort_string_none Tryz.sort215 p cap W)⟩
theorem keys_any (mb : Option Nat) (W : World) : Calls Tryz.prog 205 #[.map mb] W fun e w' => e = .returned (.func (.func 216) #[] #[.pointer (some ⟨W.heap.size, 0, none⟩)]) ∧ w' = W.alloc (.cells #[.map mb] 222) :=
  (callsIn_wide (n := 5)).1 (AnyZ.keys_in Tryz.keys205 Fence.wide 5 trivial rfl mb W)
set_option maxHeartbeats 1000000 in
theorem sortedKeys_any {H : Type} (b nn : Nat) (D0 : DataW H) (R : Value → Option (DataW H × List MemPlace)) (w : World) (hown : w.ownsMap Tryz.prog 9 R b nn D0) (hmax : Maps.size D0 ≤ maxLen) (hbytes : Maps.size D0 * 16 ≤ 140737488355328) :
    Calls Tryz.prog 204 #[.func (.func 216) #[] #[.pointer (some ⟨w.heap.size, 0, none⟩)]] (w.alloc (.cells #[.map (some b)] 222)) fun e w' => ∃ (v : Value) (ss : List (List UInt8)), e = .returned v ∧ ss.Perm (strKeys D0) ∧
      w'.ownsRow (w.alloc (.cells #[.map (some b)] 222)).heap.size 9 1 v ss.length ((ss.mergeSort (fun x y => decide (x ≤ y))).map encStr) ∧ Ext (w.alloc (.cells #[.map (some b)] 222)) w' := by
  refine (callsIn_wide (n := 5)).1 ?_
  have hbl := hown.lt
  have hseq : SeqGives Fence.wide 2 Tryz.prog 216 #[.pointer (some ⟨w.heap.size, 0, none⟩)] encStr (fun ss => ss.Perm (strKeys D0)) (Maps.size D0) (w.alloc (.cells #[.map (some b)] 222)) :=
    AnyZ.keys_gives (ρ := Tryz.keys205_ren) { Tryz.keys205 with } Fence.wide _ trivial rfl (by omega) w.heap.size b nn D0 _ (by simp) (by simp) (by
      obtain ⟨es, clock, hb, Ft, hs, hD⟩ := hown
      exact ⟨es, clock, (Below.heap_alloc _ _ b hbl).trans hb, Ft, hs, hD⟩)
  have h := AnyZ.sorted_in Tryz.sorted204 Fence.wide 5 trivial trivial trivial trivial rfl (by omega) (sorts_any _) (enters_of Tryz.func215 (by kernel_rfl) rfl) 216 #[.pointer (some ⟨w.heap.size, 0, none⟩)] trivial (enters_of Tryz.func216 (by kernel_rfl) rfl) _ _ hmax hbytes _ hseq
  exact h.mono fun e w' ⟨v, ss, h1, h2, h3, _, h5⟩ => ⟨v, ss, h1, h2, h3, h5⟩
def n8s (xs : List UInt8) : List Nat := xs.map UInt8.toNat
theorem n8s_u8s : ∀ {xs : List Nat}, U8 xs → n8s (u8s xs) = xs
  | [], _ => rfl
  | x :: r, h => by
    rw [u8s_cons]
    show (UInt8.ofNat x).toNat :: n8s (u8s r) = _
    rw [n8s_u8s (fun y hy => h y (List.mem_cons_of_mem _ hy)), UInt8.toNat_ofNat_of_lt' (h x (by simp))]
theorem u8s_eq {xs ys : List Nat} (hx : U8 xs) (hy : U8 ys) (h : u8s xs = u8s ys) : xs = ys := by rw [← n8s_u8s hx, h, n8s_u8s hy]
theorem sstr_list (xs : List Nat) : (sstr xs).data.toList = u8s xs := rfl
theorem sstr_size (xs : List Nat) : (sstr xs).size = xs.length := by
  show (List.map _ _).toArray.size = _
  simp
theorem lt_ord : ∀ {a b : List Nat}, U8 a → U8 b → (u8s a < u8s b ↔ ordT a b < 0)
  | [], [], _, _ => by simp [u8s, Lib.bytesOf, ordT]
  | [], y :: s, _, _ => by
    rw [u8s_cons]
    simp [u8s, Lib.bytesOf, ordT]
  | x :: r, [], _, _ => by
    rw [u8s_cons]
    simp [u8s, Lib.bytesOf, ordT]
  | x :: r, y :: s, h, h2 => by
    have hx : x < 256 := h x (by simp)
    have hy : y < 256 := h2 y (by simp)
    have ih := lt_ord (a := r) (b := s) (fun z hz => h z (List.mem_cons_of_mem _ hz)) (fun z hz => h2 z (List.mem_cons_of_mem _ hz))
    rw [u8s_cons, u8s_cons, List.cons_lt_cons_iff, u8_lt hx hy, u8_inj hx hy, ih, ordT]
    rcases Nat.lt_trichotomy x y with q | q | q
    · rw [if_pos q]; simp [q]
    · subst q; simp
    · rw [if_neg (by omega), if_pos q]; simp; omega
theorem sorted_is {H : Type} {b nn : Nat} {D : DataW H} {R : Value → Option (DataW H × List MemPlace)} {w : World} (hown : w.ownsMap Tryz.prog 9 R b nn D) {ss : List (List UInt8)} (hp : ss.Perm (strKeys D))
    {L : List (List Nat)} (ha : Asc L) (hu : ∀ x ∈ L, U8 x) (hm : ∀ x, x ∈ L.map u8s ↔ has D (.string x) = true) :
    ss.mergeSort (fun x y => decide (x ≤ y)) = L.map u8s ∧ ss.length = L.length := by
  have hpw : (L.map u8s).Pairwise (fun x y => x < y) := by
    rw [List.pairwise_map]
    refine List.Pairwise.imp_of_mem ?_ ha
    intro x y hx hy h
    exact (lt_ord (hu x hx) (hu y hy)).2 h
  have hnd : (L.map u8s).Nodup := hpw.imp fun {x y} h e => by subst e; exact List.lt_irrefl _ h
  obtain ⟨es, hD, hpe, _⟩ := hown.entries (string_keyed Tryz.underlying9)
  obtain ⟨es', hD', hko⟩ := hown.keysOf
  obtain rfl : es = es' := by rw [hD] at hD'; simpa using hD'
  subst hD
  have hS := perm_strKeys hpe (fun p hp => by obtain ⟨v, hv⟩ := hko p hp; obtain ⟨x, _, hx, _⟩ := Maps.keyOf_str Tryz.underlying9 hv; exact ⟨x, hx⟩) hnd hm
  have hperm : ss.Perm (L.map u8s) := hp.trans hS.symm
  refine ⟨?_, by rw [hperm.length_eq, List.length_map]⟩
  have h1 := mergeSort_of_perm hperm
  have h2 : (L.map u8s).mergeSort leB = L.map u8s := List.mergeSort_of_pairwise (hpw.imp fun {x y} h => by simp only [leB, decide_eq_true_eq]; exact List.le_of_lt h)
  exact h1.trans h2
end Go.Proofs.YthibbgmicmfkfaaGreat
-- part D10d
namespace Go.Proofs.YthibbgmicmfkfaaGreat
open Go.RowKit
def OwnM (w : World) (base : Nat) (A : Option Addr) (c : Nat) (xs : List Nat) : Prop :=
  ∃ g cur, A = some ⟨g, 0, none⟩ ∧ base ≤ g ∧ w.heap[g]? = some (.cells cur 5 (c, c + 1)) ∧ xs.length ≤ c ∧ c ≤ 9223372036854775807 ∧ cur.size = c ∧ cur.toList.take xs.length = xs.map fun x : Nat => Value.int .u8 (x : Int)
section
variable {w w' : World} {base c : Nat} {A : Option Addr} {xs : List Nat}
theorem OwnM.ext (h : OwnM w base A c xs) (he : Ext w w') : OwnM w' base A c xs := by
  obtain ⟨g, cur, h1, h2, h3, h4⟩ := h
  exact ⟨g, cur, h1, h2, (he.block g (Array.getElem?_eq_some_iff.1 h3).1).trans h3, h4⟩
theorem OwnM.grown (h : OwnM w base A c xs) {row : Option Nat} (hg : w.grownBy w' row) (hne : ∀ a, A = some a → some a.block ≠ row) : OwnM w' base A c xs := by
  obtain ⟨g, cur, h1, h2, h3, h4⟩ := h
  exact ⟨g, cur, h1, h2, (hg.block g (Array.getElem?_eq_some_iff.1 h3).1 (hne _ h1)).trans h3, h4⟩
theorem OwnM.mono (h : OwnM w base A c xs) {base' : Nat} (hb : base' ≤ base) : OwnM w base' A c xs := by
  obtain ⟨g, cur, h1, h2, h4⟩ := h
  exact ⟨g, cur, h1, Nat.le_trans hb h2, h4⟩
theorem OwnM.block (h : OwnM w base A c xs) : ∀ a, A = some a → base ≤ a.block ∧ a.block < w.heap.size := by
  obtain ⟨g, cur, rfl, h2, h3, _⟩ := h
  intro a ha
  injection ha with ha
  subst ha
  exact ⟨h2, (Array.getElem?_eq_some_iff.1 h3).1⟩
theorem OwnM.cap (h : OwnM w base A c xs) : xs.length ≤ c ∧ c ≤ 9223372036854775807 := by
  obtain ⟨g, cur, _, _, _, h4, h5, _⟩ := h
  exact ⟨h4, h5⟩
theorem OwnM.rd (h : OwnM w base A c xs) : Rd .u8 w A xs.length xs := by
  obtain ⟨g, cur, rfl, h2, h3, h4, h5, h6, h7⟩ := h
  refine ⟨rfl, fun hn => ⟨g, 0, rfl, (Array.getElem?_eq_some_iff.1 h3).1, fun j hj => ?_⟩⟩
  rw [cell_of_row w g (0 + j) cur _ _ h3, Nat.zero_add]
  have h1 : (cur.toList.take xs.length)[j]? = some (Value.int .u8 ((xs.getD j 0 : Nat) : Int)) := by rw [h7, List.getElem?_map, List.getElem?_eq_getElem hj]; simp [List.getD, hj]
  rw [List.getElem?_take, if_pos hj] at h1
  simpa using h1
theorem own_neM {base' c' : Nat} {A' : Option Addr} {ts : List Sl} (h : OwnT w base A c ts) (k : OwnM w base' A' c' xs) : ∀ a, A' = some a → some a.block ≠ (Value.slice A ts.length c).ownBlock := by
  rintro a rfl e
  rcases h.2 with ⟨hv, _⟩ | ⟨g, cap, cur, hv, hg, hh, _⟩
  · rw [hv] at e; simp [Value.ownBlock] at e
  · rw [hv] at e
    simp [Value.ownBlock] at e
    obtain ⟨g', cur', hA, _, hh', _⟩ := k
    injection hA with hA
    subst hA
    simp at e
    subst e
    rw [hh] at hh'
    injection hh' with hh'
    injection hh' with h1 h2 h3
    exact absurd h2 (by decide)
end
theorem conv_back (W : World) {xs : List Nat} (hu : U8 xs) (hl : xs.length ≤ 1000000) : ∃ w' c, (convert 9 22 (.string (sstr xs))).run Tryz.prog W = .ok (.slice (some ⟨W.heap.size, 0, none⟩) xs.length c) w' ∧ OwnM w' W.heap.size (some ⟨W.heap.size, 0, none⟩) c xs ∧ Ext W w' := by
  have hsz := sstr_size xs
  refine ⟨Lib.bytesWorld W 5 (sstr xs), grownCap W xs.length 0 5, ?_, ?_, ?_⟩
  · have := Lib.run_convert_string_bytes (P := Tryz.prog) W 9 22 5 (sstr xs) Tryz.underlying9 Tryz.underlying22 Tryz.underlying5
    rw [this, hsz]
  · have hge := grownCap_ge W xs.length 0 5
    have hle := grownCap_le_maxLen W xs.length 0 5 (by unfold maxLen; omega)
    have hcs : (Lib.bytesCells W 5 (sstr xs)).size = grownCap W xs.length 0 5 := by
      unfold Lib.bytesCells
      rw [hsz]
      have : (sstr xs).data.size = xs.length := hsz
      simp [this]
      omega
    refine ⟨W.heap.size, Lib.bytesCells W 5 (sstr xs), rfl, Nat.le_refl _, ?_, hge, by simpa [maxLen] using hle, hcs, ?_⟩
    · have := Lib.bytesWorld_at_new W 5 (sstr xs)
      rw [this, hcs]
    · have e1 : (sstr xs).data.toList.map (fun b : UInt8 => Value.int .u8 (b.toNat : Int)) = xs.map fun x : Nat => Value.int .u8 (x : Int) := by
        rw [sstr_list, ← n8s_u8s hu]
        simp only [n8s, List.map_map]
        rw [show (List.map UInt8.toNat (u8s xs)) = xs from n8s_u8s hu]
        rfl
      unfold Lib.bytesCells
      rw [Array.toList_append, Array.toList_map, e1, List.take_append_of_le_length (by simp), List.take_of_length_le (by simp)]
  · have hs := Lib.bytesWorld_size W 5 (sstr xs)
    refine ⟨rfl, rfl, rfl, by omega, fun i hi => Lib.bytesWorld_at_old W 5 (sstr xs) i hi⟩
structure TxtsM (w : World) (base : Nat) (ts : List Sl) : Prop where
  own : ∀ s ∈ ts, OwnM w base s.A s.c s.body
  apart : ts.Pairwise fun s t => ∀ p q, s.A = some p → t.A = some q → p.block < q.block
section
variable {w w' : World} {base c : Nat} {A : Option Addr} {ts : List Sl}
theorem TxtsM.nil (w : World) (base : Nat) : TxtsM w base [] := ⟨fun s hs => (by cases hs), List.Pairwise.nil⟩
theorem TxtsM.ext (h : TxtsM w base ts) (he : Ext w w') : TxtsM w' base ts := ⟨fun s hs => (h.own s hs).ext he, h.apart⟩
theorem TxtsM.mono (h : TxtsM w base ts) {base' : Nat} (hb : base' ≤ base) : TxtsM w base' ts := ⟨fun s hs => (h.own s hs).mono hb, h.apart⟩
theorem TxtsM.far (h : TxtsM w base ts) {g : Nat} (hg : w.grownBy w' (some g)) (hb : g < base) : TxtsM w' base ts :=
  ⟨fun s hs => (h.own s hs).grown hg (fun a ha e => by
    injection e with e
    have := ((h.own s hs).block a ha).1
    omega), h.apart⟩
theorem TxtsM.grown (h : TxtsM w base ts) {base' : Nat} {us : List Sl} (k : OwnT w base' A c us) (hg : w.grownBy w' (Value.slice A us.length c).ownBlock) : TxtsM w' base ts :=
  ⟨fun s hs => (h.own s hs).grown hg (own_neM k (h.own s hs)), h.apart⟩
theorem TxtsM.lt (h : TxtsM w base ts) : ∀ t ∈ ts, ∀ p, t.A = some p → p.block < w.heap.size := fun t ht p hp => ((h.own t ht).block p hp).2
theorem TxtsM.rd (h : TxtsM w base ts) : ∀ s ∈ ts, Rd .u8 w s.A s.body.length s.body := fun s hs => (h.own s hs).rd
theorem TxtsM.snoc (h : TxtsM w base ts) {s : Sl} {base' : Nat} (hs : OwnM w base' s.A s.c s.body) (hb : base ≤ base') (hl : ∀ t ∈ ts, ∀ p, t.A = some p → p.block < base') : TxtsM w base (ts ++ [s]) := by
  refine ⟨fun t ht => ?_, ?_⟩
  · rcases List.mem_append.1 ht with h1 | h1
    · exact h.own t h1
    · simp at h1; subst h1; exact hs.mono hb
  · rw [List.pairwise_append]
    refine ⟨h.apart, by simp, fun t ht f' hf' p q hp hq => ?_⟩
    simp at hf'
    subst hf'
    exact Nat.lt_of_lt_of_le (hl t ht p hp) (hs.block q hq).1
end
def shStr : Shape (List Nat) := ⟨fun x => [.string (sstr x)], 1, fun _ => rfl, by intro x u hu; simp at hu; subst hu; rfl⟩
theorem strs_all : ∀ L : List (List Nat), (L.map u8s).map encStr = shStr.all L
  | [] => rfl
  | x :: r => by
    rw [Shape.all_cons, ← strs_all r]
    rfl
theorem strs_of {w : World} {base n : Nat} {v : Value} {L : List (List Nat)} (h : w.ownsRow base 9 1 v n ((L.map u8s).map encStr)) (hn : n = L.length) : ∃ A c, v = .slice A L.length c ∧ OwnG shStr 9 w base A c L := by
  subst hn
  rw [strs_all] at h
  rcases h.2 with ⟨hv, h0⟩ | ⟨g, cap, cur, hv, _⟩
  · exact ⟨none, 0, by rw [hv, h0], by rw [hv] at h; unfold OwnG; rw [h0] at h ⊢; exact h⟩
  · exact ⟨some ⟨g, 0, none⟩, cap, hv, by rw [hv] at h; exact h⟩
end Go.Proofs.YthibbgmicmfkfaaGreat
-- part D10e
namespace Go.Proofs.YthibbgmicmfkfaaGreat
open Go.RowKit Go.Maps Go.WideMaps
theorem isLong10_any (A : Option Addr) (n c : Nat) (w : World) :
    Calls Tryz.prog 203 #[.slice A n c] w fun e w' => e = .returned (.bool (decide (200 < n))) ∧ w' = w := by
  by_cases h : 200 < n
  · rw [decide_eq_true h]
    go_enter Tryz.func203, Tryz.ntmps203
    go_wp2
    go_ret
    exact ⟨by simp <;> omega, rfl⟩
  · rw [decide_eq_false h]
    go_enter Tryz.func203, Tryz.ntmps203
    go_wp2
    go_ret
    exact ⟨by simp <;> omega, rfl⟩
theorem indexLong10_any (A : Option Addr) (n c : Nat) (ss : List Sl) (w : World) (hx : RdL w A n ss) (hn : n ≤ 140737488355328) :
    Calls Tryz.prog 206 #[.slice A n c, .func (.func 203) #[] #[]] w fun e w' => ∃ r : Int, e = .returned (.int .i64 r) ∧ w' = w ∧ decide (0 ≤ r) = anyLong (bodies ss) := by
  have Hl := Lib.hid hx.1
  obtain ⟨R, hR⟩ : ∃ R, R = anyLong (bodies ss) := ⟨_, rfl⟩
  rw [← hR]
  have HR := Lib.hid hR
  clear hR
  go_enter Tryz.func206, Tryz.ntmps206
  go_wp2
  go_loopw [5, 8] (fun _ i wr => ∃ j : Nat, j ≤ n ∧ i = .int .i64 j ∧ wr = w ∧ Hid (anyLong (bodies (ss.take j)) = false)) (fun _ i _ => n - (intOf i).toNat)
  case atStart => exact ⟨0, Nat.zero_le _, rfl, rfl, rfl⟩
  case round =>
    obtain ⟨j, hj, rfl, rfl, HA⟩ := hrel
    by_cases hlt : j < n
    · obtain ⟨b, o, s, rfl, hf, h1⟩ := hx.at_ hlt
      obtain ⟨sA, sc, body⟩ := s
      simp only at h1
      have e0 : bodies (ss.take (j + 1)) = bodies (ss.take j) ++ [body] := by rw [List.take_add_one, hf]; unfold bodies; rw [List.map_append]; rfl
      by_cases hb : 200 < body.length
      · have hfin := Lib.hid (show true = R by rw [HR.out]; exact (anyLong_iff.2 ⟨body, List.mem_map.2 ⟨_, List.mem_of_getElem? hf, rfl⟩, hb⟩).symm)
        clear e0 hf
        obtain ⟨m, hm⟩ : ∃ m, m = body.length := ⟨_, rfl⟩
        rw [← hm] at h1 hb
        clear hm
        have hd : decide (200 < m) = true := decide_eq_true hb
        go_wp2_with (refine (isLong10_any _ _ _ _).mono ?_; rintro e w1 ⟨rfl, rfl⟩; rw [hd])
        go_ret
        exact ⟨_, rfl, rfl, by rw [← hfin.out]; exact decide_eq_true (by omega)⟩
      · have hN := Lib.hid (show anyLong (bodies (ss.take (j + 1))) = false by rw [e0, anyLong, List.any_append]; simp [anyLong] at HA; simp <;> first | omega | (refine ⟨HA.out, by omega⟩))
        clear e0 hf
        obtain ⟨m, hm⟩ : ∃ m, m = body.length := ⟨_, rfl⟩
        rw [← hm] at h1 hb
        clear hm
        have hd : decide (200 < m) = false := decide_eq_false hb
        go_wp2_with (refine (isLong10_any _ _ _ _).mono ?_; rintro e w1 ⟨rfl, rfl⟩; rw [hd])
        go_roundw
        case rel => exact ⟨j + 1, by omega, by go_num, by first | trivial | rfl, hN⟩
        case measure => simp [intOf]; omega
    · obtain rfl : j = n := by omega
      have hfin := Lib.hid (show false = R by rw [HR.out, ← HA.out, List.take_of_length_le (by rw [Hl.out]; exact Nat.le_refl _)])
      go_wp2
      go_ret
      exact ⟨_, rfl, by first | trivial | rfl, by rw [← hfin.out]; rfl⟩
theorem containsLong10_any (A : Option Addr) (n c : Nat) (ss : List Sl) (w : World) (hx : RdL w A n ss) (hn : n ≤ 140737488355328) :
    Calls Tryz.prog 181 #[.slice A n c, .func (.func 203) #[] #[]] w fun e w' => e = .returned (.bool (anyLong (bodies ss))) ∧ w' = w := by
  have H := Lib.hid (indexLong10_any A n c ss w hx hn)
  clear hx
  go_enter Tryz.func181, Tryz.ntmps181
  go_wp2_with fail
  refine H.out.mono ?_
  rintro e w1 ⟨r, rfl, rfl, hr⟩
  have Hr := Lib.hid hr
  clear hr
  go_wp2
  go_ret
  exact ⟨by rw [← Hr.out]; simp, by first | trivial | rfl⟩
theorem lawK : Keyed Tryz.prog 9 := string_keyed Tryz.underlying9
theorem run_mkM (w : World) : (Instr.makeMap 222 none).run Tryz.prog w = .ok (.map (some w.heap.size)) (w.alloc (.map #[] 0)) := by
  simp [Instr.makeMap, Result.andThen]
theorem zero_int (w : World) : (zeroValue 3).run Tryz.prog w = .ok (.int .i64 0) w := by
  rw [Tryz.zeroValue3]
noncomputable abbrev elI (H : Type) : Value → Option (DataW H × List MemPlace) := plainElem Tryz.prog 3
theorem i64_min : IntKind.i64.min = -9223372036854775808 := by decide
theorem i64_max : IntKind.i64.max = 9223372036854775807 := by decide
theorem elI_mk {H : Type} (i : Nat) (hi : i ≤ 1000000) : elI H (.int .i64 (i : Int)) = some (.lit (.int .i64 (i : Int)), []) := by
  refine plainElem_int Tryz.underlying3 ?_
  have h1 : IntKind.i64.min ≤ (i : Int) := by rw [i64_min]; omega
  have h2 : (i : Int) ≤ IntKind.i64.max := by rw [i64_max]; omega
  simp [Lit.wf, h1]
  omega
theorem key_of (xs : List Nat) (h : xs.length ≤ 140737488355328) : keyOf Tryz.prog 9 (.string (sstr xs)) = some (.string (u8s xs)) := by
  have := keyOf_string_mk (P := Tryz.prog) (k := 9) Tryz.underlying9 (s := sstr xs) (by rw [sstr_size]; unfold maxLen; omega)
  rw [this, sstr_list]
def keyL (xs : List Nat) : Lit := .string (u8s xs)
def D0of (ss : List (List Nat)) : DataW Unit := setOf (.lit (.int .i64 0)) (ss.map keyL)
theorem D0of_snoc (ss : List (List Nat)) (t : List Nat) : D0of (ss ++ [t]) = (D0of ss).put (keyL t) (.lit (.int .i64 0)) := by unfold D0of; rw [List.map_append]; exact setOf_snoc ..
theorem D0of_key (ss : List (List Nat)) : ∀ x ∈ ss.map keyL, WideAt.IsKeyLit x := by
  intro x hx
  obtain ⟨s, _, rfl⟩ := List.mem_map.1 hx
  exact trivial
theorem D0of_has (ss : List (List Nat)) (x : List UInt8) : has (D0of ss) (.string x) = true ↔ x ∈ ss.map u8s := by
  unfold D0of
  rw [has_setOf _ _ _ (D0of_key ss), List.any_eq_true]
  constructor
  · rintro ⟨l, hl, h⟩
    obtain ⟨s, hs, rfl⟩ := List.mem_map.1 hl
    have : u8s s = x := by simpa [keyL, Lit.sameKey] using h
    rw [← this]
    exact List.mem_map.2 ⟨s, hs, rfl⟩
  · intro h
    obtain ⟨s, hs, rfl⟩ := List.mem_map.1 h
    exact ⟨keyL s, List.mem_map.2 ⟨s, hs, rfl⟩, by simp [keyL, Lit.sameKey]⟩
theorem D0of_map (ss : List (List Nat)) : IsMap (D0of ss) := (tidy_setOf _ _ (D0of_key ss)).isMap
def NumD (D : DataW Unit) (L : List (List Nat)) (j : Nat) : Prop := IsMap D ∧ ∀ i x, i < j → L[i]? = some x → ∀ z, D.atKey (keyL x) z = .lit (.int .i64 (i : Int))
theorem NumD.step {D : DataW Unit} {L : List (List Nat)} {j : Nat} {t : List Nat} (h : NumD D L j) (ha : Asc L) (hu : ∀ x ∈ L, U8 x) (ht : L[j]? = some t) : NumD (D.put (keyL t) (.lit (.int .i64 (j : Int)))) L (j + 1) := by
  refine ⟨h.1.put _ _, fun i x hi hx z => ?_⟩
  by_cases hij : i = j
  · subst hij
    rw [ht] at hx
    injection hx with hx
    subst hx
    exact atKey_put_same h.1 (show WideAt.IsKeyLit (keyL t) from trivial) _ _
  · rw [atKey_put_other (fun e => ?_) _ _]
    · exact h.2 i x (by omega) hx z
    · have e1 : u8s x = u8s t := by injection e
      have hxt : x = t := u8s_eq (hu x (List.mem_of_getElem? hx)) (hu t (List.mem_of_getElem? ht)) e1
      subst hxt
      obtain ⟨q1, e2⟩ := List.getElem?_eq_some_iff.1 hx
      obtain ⟨q2, e3⟩ := List.getElem?_eq_some_iff.1 ht
      have := List.pairwise_iff_getElem.1 ha i j q1 q2 (by omega)
      rw [e2, e3, ordT_self] at this
      omega
theorem own_neG {T1 T2 : Type} {s1 : Shape T1} {s2 : Shape T2} {e1 e2 : TypeId} {w : World} {base base' c c' : Nat} {A A' : Option Addr} {xs : List T1} {ys : List T2} (hne : e1 ≠ e2) (h : OwnG s1 e1 w base A c xs) (k : OwnG s2 e2 w base' A' c' ys) : ∀ a, A' = some a → some a.block ≠ (Value.slice A xs.length c).ownBlock := by
  rintro a rfl e
  rcases h.2 with ⟨hv, _⟩ | ⟨g, cap, cur, hv, hg, hh, _⟩
  · rw [hv] at e; simp [Value.ownBlock] at e
  · rw [hv] at e
    simp [Value.ownBlock] at e
    rcases k.2 with ⟨hv', _⟩ | ⟨g', cap', cur', hv', _, hh', _⟩
    · cases hv'
    · injection hv' with hA
      injection hA with hA
      subst hA
      simp at e
      subst e
      rw [hh] at hh'
      injection hh' with hh'
      injection hh' with h1 h2 h3
      exact hne h2
theorem OwnG.far {T : Type} {s : Shape T} {e : TypeId} {w w' : World} {base c b : Nat} {A : Option Addr} {xs : List T} (h : OwnG s e w base A c xs) (hg : w.grownBy w' (some b)) (hb : b < base) : OwnG s e w' base A c xs :=
  h.grown hg (fun a ha q => by
    injection q with q
    have := (h.block a ha).1
    omega)
theorem size_of_owns {w : World} {R : Value → Option (DataW Unit × List MemPlace)} {g n : Nat} {D : DataW Unit} (h : w.ownsMap Tryz.prog 9 R g n D) : Maps.size D ≤ n := by
  obtain ⟨es, clock, hb, F, hs, rfl⟩ := h
  rw [size_eq, length_sorted]
  simpa using hs
theorem row_above {base c n g : Nat} {A : Option Addr} (h : ∀ a, A = some a → base ≤ a.block) (hg : g < base) : some g ≠ (Value.slice A n c).ownBlock := by
  cases A with
  | none => simp [Value.ownBlock]
  | some a =>
    intro e
    simp [Value.ownBlock] at e
    have := h a rfl
    omega
def IdxPost (R : List (List Nat) × List Nat × Int) (w : World) (e : Ending) (w' : World) : Prop :=
  ∃ A' c' us B cB, e = .returned (.tuple #[.slice A' us.length c', .slice B R.2.1.length cB, .int .i64 R.2.2]) ∧ bodies us = R.1 ∧ OwnT w' w.heap.size A' c' us ∧ TxtsM w' w.heap.size us ∧ Own .i64 3 w' w.heap.size B cB R.2.1 ∧ Ext w w'
theorem IdxPost.bad {w w' : World} (R : List (List Nat) × List Nat × Int) {E : Int} (h : R = ([], [], E)) (he : Ext w w') : IdxPost R w (.returned (.tuple #[.slice none 0 0, .slice none 0 0, .int .i64 E])) w' := by
  subst h
  exact ⟨none, 0, [], none, 0, rfl, rfl, OwnG.nil .., TxtsM.nil .., Own.nil .., he⟩
theorem IdxPost.good {w w' : World} (R : List (List Nat) × List Nat × Int) {us : List Sl} {ns : List Nat} {A B : Option Addr} {m c n cB : Nat} (h : R = (bodies us, ns, 0)) (hm : us.length = m) (hn : ns.length = n) (ho : OwnT w' w.heap.size A c us) (ht : TxtsM w' w.heap.size us) (hB : Own .i64 3 w' w.heap.size B cB ns) (he : Ext w w') :
    IdxPost R w (.returned (.tuple #[.slice A m c, .slice B n cB, .int .i64 0])) w' := by
  subst h hm hn
  exact ⟨A, c, us, B, cB, rfl, rfl, ho, ht, hB, he⟩
end Go.Proofs.YthibbgmicmfkfaaGreat
namespace Go.Proofs.YthibbgmicmfkfaaGreat
open Go.RowKit Go.Maps Go.WideMaps
set_option maxRecDepth 100000
theorem bodies_mem_of' {w : World} {A : Option Addr} {n : Nat} {ss : List Sl} (h : TxL w A n ss) : ∀ x ∈ bodies ss, U8 x := by
  intro x hx
  obtain ⟨s, hs, rfl⟩ := List.mem_map.1 hx
  exact (h.each s hs).u8
theorem Ext.grownBy' {w w' : World} (h : Ext w w') : w.grownBy w' none := ⟨h.os, h.tape, h.output, h.size, fun i hi _ => h.block i hi⟩
set_option maxHeartbeats 3200000 in
set_option maxRecDepth 100000 in
theorem pindex_any (A : Option Addr) (n c : Nat) (ss : List Sl) (w : World) (hx : TxL w A n ss) (hn : n ≤ 140737488355328) :
    Calls Tryz.prog 177 #[.slice A n c] w (IdxPost (idxR (bodies ss)) w) := by
  have Hl := Lib.hid hx.len
  have hbl : (bodies ss).length = n := by rw [bodies_len, Hl.out]
  have HL := Lib.hid (containsLong10_any A n c ss w hx.rd hn)
  by_cases hbig : 4096 < n
  · have HR := Lib.hid (idxR_bad (ss := bodies ss) (.inl (by rw [hbl]; exact hbig)))
    clear hbl HL
    go_enter Tryz.func177, Tryz.ntmps177
    go_wp2_with fail
    go_ret3
    exact IdxPost.bad _ HR.out (Ext.refl w)
  · cases hany : anyLong (bodies ss) with
    | true =>
      have HR := Lib.hid (idxR_bad (.inr hany))
      rw [hany] at HL
      clear hbl hany
      go_enter Tryz.func177, Tryz.ntmps177
      go_wp2_with fail
      refine HL.out.mono ?_
      rintro e w1 ⟨rfl, rfl⟩
      go_wp2
      go_ret3
      exact IdxPost.bad _ HR.out (Ext.refl _)
    | false =>
      have HR := Lib.hid (idxR_good (by rw [hbl]; omega) hany)
      have hb4 : n ≤ 4096 := by omega
      rw [hany] at HL
      have Hbl := Lib.hid hbl
      have Hany := Lib.hid hany
      have Hx := Lib.hid hx
      obtain ⟨L, hL⟩ : ∃ L, L = dents (bodies ss) := ⟨_, rfl⟩
      rw [← hL] at HR
      have HLe := Lib.hid hL
      have hmk := run_mkM
      clear hbl hany hx hL
      go_enter Tryz.func177, Tryz.ntmps177
      go_wp2_with fail
      refine HL.out.mono ?_
      rintro e w1 ⟨rfl, rfl⟩
      obtain ⟨w, hw⟩ : ∃ w, w = w1 := ⟨_, rfl⟩
      subst hw
      go_wp2_with fail
      clear hmk
      obtain ⟨g, hg⟩ : ∃ g, g = w.heap.size := ⟨_, rfl⟩
      have hown0 := World.ownsMap_made (H := Unit) w Tryz.prog 9 (elI Unit)
      rw [← hg] at hown0 ⊢
      have Hg := Lib.hid hg
      have Hown0 := Lib.hid hown0
      clear hown0 hg
      go_loopw [7, 24] (fun _ i wr => ∃ j : Nat, j ≤ n ∧ i = .int .i64 j ∧ Hid (wr.ownsMap Tryz.prog 9 (elI Unit) g j (D0of ((bodies ss).take j))) ∧ Hid (Ext w wr)) (fun _ i _ => n - (intOf i).toNat)
      case atStart => exact ⟨0, Nat.zero_le _, rfl, Hown0.out, (Ext.refl w).alloc _⟩
      case round =>
        clear Hown0
        obtain ⟨j, hj, rfl, HM, HE⟩ := hrel
        by_cases hlt : j < n
        · obtain ⟨b, o, s, rfl, hf, hc, hs⟩ := (Hx.out.ext HE.out).at_ hlt
          have hbj := bodies_at hf
          have htk : (bodies ss).take (j + 1) = (bodies ss).take j ++ [s.body] := by
            obtain ⟨h1, h2⟩ := List.getElem?_eq_some_iff.1 hbj
            rw [List.take_succ_eq_append_getElem h1, h2]
          have hrd := hs.rd
          have hln := hs.len
          obtain ⟨sA, sc, body⟩ := s
          simp only at hc hrd hln htk
          have kst := conv_str (c := sc) hrd
          have Hk := Lib.hid (key_of body hln)
          have HD := Lib.hid (show D0of ((bodies ss).take (j + 1)) = (D0of ((bodies ss).take j)).put (keyL body) (.lit (.int .i64 0)) by rw [htk, D0of_snoc])
          obtain ⟨bl, hbl⟩ : ∃ bl, bl = body.length := ⟨_, rfl⟩
          rw [← hbl] at hc kst
          clear hf hbj htk hrd hln hs hbl
          go_wp2_with (at_mapUpdate; refine wpList_mapUpdate_own _ rfl _ _ _ 222 rfl 9 3 lawK Tryz.underlying222 (elI Unit) g j _ rfl HM.out (by unfold maxLen; omega) _ _ _ rfl rfl Hk.out _ [] (elI_mk 0 (by omega)) ?_; intro w2 hown2 hgrow2)
          have hown3 : w2.ownsMap Tryz.prog 9 (elI Unit) g (j + 1) (D0of ((bodies ss).take (j + 1))) := by rw [HD.out]; exact hown2
          have HN := Lib.hid hown3
          have HE2 := Lib.hid (show Ext w w2 from grownBy_ext HE.out hgrow2 (fun g' hg' => by injection hg' with hg'; have := Hg.out; omega))
          clear hown2 hown3 hgrow2 kst
          go_wp2_with fail
          go_roundw
          case rel => exact ⟨j + 1, by omega, by go_num, HN.out, HE2.out⟩
          case measure => simp [intOf]; omega
        · obtain rfl : n = j := by omega
          have hmm := HM.out
          rw [List.take_of_length_le (by rw [Hbl.out]; exact Nat.le_refl _)] at hmm
          have HM2 := Lib.hid hmm
          clear hmm HM
          obtain ⟨W1, hW1⟩ : ∃ W1, W1 = wr := ⟨_, rfl⟩
          rw [← hW1] at HM2 HE ⊢
          have hgl := HM2.out.lt
          have hsz := size_of_owns HM2.out
          clear hW1
          go_wp2_with fail
          refine (keys_any _ _).mono ?_
          rintro e w2 ⟨rfl, rfl⟩
          go_wp2_with fail
          refine (sortedKeys_any (H := Unit) g n _ (elI Unit) W1 HM2.out (by unfold maxLen; omega) (by omega)).mono ?_
          rintro e w3 ⟨v, ks, rfl, hperm, hrow, he3⟩
          have hLa : Asc L := by rw [HLe.out]; exact dents_asc _
          have hLu : ∀ x ∈ L, U8 x := by rw [HLe.out]; exact fun x h => bodies_mem_of' Hx.out x (dents_mem.1 h)
          have hLn : L.length ≤ n := by rw [HLe.out]; exact dents_len n _ Hbl.out
          have hLs : ∀ x ∈ L, x.length ≤ 200 := by rw [HLe.out]; exact dents_short Hany.out
          obtain ⟨hsort, hlen⟩ := sorted_is HM2.out hperm hLa hLu (fun x => by
            rw [D0of_has, List.mem_map, List.mem_map, HLe.out]
            constructor
            · rintro ⟨a, ha, h⟩; exact ⟨a, dents_mem.1 ha, h⟩
            · rintro ⟨a, ha, h⟩; exact ⟨a, dents_mem.2 ha, h⟩)
          rw [hsort] at hrow
          obtain ⟨AS, cS, rfl, hstr⟩ := strs_of hrow hlen
          have hE3 : Ext W1 w3 := Ext.trans ((Ext.refl _).alloc _) he3
          have hM3 : w3.ownsMap Tryz.prog 9 (elI Unit) g n (D0of (bodies ss)) := HM2.out.kept hE3.grownBy' (by simp)
          have hW3 : g < w3.heap.size := Nat.lt_of_lt_of_le hgl hE3.size
          have hstr2 := hstr.mono (base' := W1.heap.size) (by simp)
          obtain ⟨N, hN⟩ : ∃ N, N = L.length := ⟨_, rfl⟩
          rw [← hN] at hLn ⊢
          have HLa := Lib.hid hLa
          have HLu := Lib.hid hLu
          have HLs := Lib.hid hLs
          have HN := Lib.hid hN
          have HM3 := Lib.hid hM3
          have Hstr := Lib.hid hstr2
          have HE3 := Lib.hid (HE.out.trans hE3)
          have hgw : w.heap.size ≤ g := by rw [Hg.out]; exact Nat.le_refl _
          have hwg3 : w.heap.size ≤ w3.heap.size := HE3.out.size
          obtain ⟨W3, hW3e⟩ : ∃ W3, W3 = w3 := ⟨_, rfl⟩
          rw [← hW3e] at HM3 Hstr HE3 hW3 hwg3 ⊢
          clear hLa hLu hLs hN hM3 hstr hstr2 hE3 he3 hrow hsort hlen hperm hW3e hsz
          go_wp2_with fail
          go_loopw [8, 9, 10, 36] (fun v _ _ i wr => ∃ (j : Nat) (A' : Option Addr) (c' : Nat) (us : List Sl) (D : DataW Unit), j ≤ N ∧ i = .int .i64 j ∧ v = .slice A' j c' ∧ Hid (us.length = j ∧ bodies us = L.take j) ∧ Hid (OwnT wr W3.heap.size A' c' us ∧ TxtsM wr W3.heap.size us) ∧ Hid (wr.ownsMap Tryz.prog 9 (elI Unit) g (n + j) D ∧ NumD D L j) ∧ Hid (OwnG shStr 9 wr W1.heap.size AS cS L) ∧ Hid (Ext w wr ∧ W3.heap.size ≤ wr.heap.size)) (fun _ _ _ i _ => N - (intOf i).toNat)
          case atStart => exact ⟨0, none, 0, [], _, Nat.zero_le _, rfl, rfl, ⟨rfl, rfl⟩, ⟨OwnG.nil .., TxtsM.nil ..⟩, ⟨HM3.out, D0of_map _, fun i x hi => absurd hi (by omega)⟩, Hstr.out, HE3.out, Nat.le_refl _⟩
          case round =>
            clear HM3 Hstr HE3
            obtain ⟨j, A', c', us, D, hj, rfl, rfl, HU, HO, HMD, HS, HE⟩ := hrel
            by_cases hlt : j < N
            · obtain ⟨b, x, rfl, _, hbl, hxj, hcx, _⟩ := HS.out.at_ (j := j) (by rw [← HN.out]; exact hlt)
              have hc0 := hcx 0 (.string (sstr x)) rfl
              rw [show j * shStr.sz + 0 = j by show j * 1 + 0 = j; omega] at hc0
              have hxl := HLs.out x (List.mem_of_getElem? hxj)
              have hxu := HLu.out x (List.mem_of_getElem? hxj)
              have Hk := Lib.hid (key_of x (by omega))
              have HND := Lib.hid (HMD.out.2.step HLa.out HLu.out hxj)
              have Htk := Lib.hid (take_nextG L j hxj)
              have Hxu := Lib.hid hxu
              have hx1 : x.length ≤ 1000000 := by omega
              clear hxj hcx hxu
              go_wp2_with (first
                | (at_mapUpdate; refine wpList_mapUpdate_own _ rfl _ _ _ 222 rfl 9 3 lawK Tryz.underlying222 (elI Unit) g (n + j) _ rfl HMD.out.1 (by unfold maxLen; omega) _ _ _ rfl rfl Hk.out _ [] (elI_mk j (by omega)) ?_; intro w5 hown5 hg5; obtain ⟨w6, c6, hcv, hO6, hE6⟩ := conv_back w5 Hxu.out hx1; have Hown5 := Lib.hid hown5; have Hg5 := Lib.hid hg5; have HO6 := Lib.hid hO6; have HE6 := Lib.hid hE6; clear hown5 hg5 hO6 hE6)
                | (at_builtin; refine wpList_pushT (w0 := _) ⟨some ⟨w5.heap.size, 0, none⟩, c6, x⟩ rfl _ _ rfl (((HO.out.1.far Hg5.out hW3).ext HE6.out).ext ((Ext.refl w6).alloc (.cells #[.slice (some ⟨w5.heap.size, 0, none⟩) x.length c6] 22))) j HU.out.1 rfl rfl (heap_alloc_new _ _) (by omega) (Below.refl _ _) (by have := HE.out.2; have := Hg5.out.size; have := HE6.out.size; simp; omega) ?_; intro A7 c7 w7 hown7 hg7 _ _)
                | fail)
              have hX : Ext w6 (w6.alloc (.cells #[.slice (some ⟨w5.heap.size, 0, none⟩) x.length c6] 22)) := (Ext.refl w6).alloc _
              have hOT := ((HO.out.1.far Hg5.out hW3).ext HE6.out).ext hX
              have hg7' := hg7
              rw [← HU.out.1] at hg7'
              have HM7 := Lib.hid (((Hown5.out.kept HE6.out.grownBy' (by simp)).alloc (.cells #[.slice (some ⟨w5.heap.size, 0, none⟩) x.length c6] 22)).kept hg7 (row_above (fun a ha => (HO.out.1.block a ha).1) hW3))
              have HS7 := Lib.hid ((((HS.out.far Hg5.out hgl).ext HE6.out).ext hX).grown hg7' (own_neG (by decide) hOT (((HS.out.far Hg5.out hgl).ext HE6.out).ext hX)))
              have HT7 := Lib.hid ((((HO.out.2.far Hg5.out hW3).ext HE6.out).snoc (s := ⟨some ⟨w5.heap.size, 0, none⟩, c6, x⟩) HO6.out (Nat.le_trans HE.out.2 Hg5.out.size) (fun t ht p hp => (HO.out.2.far Hg5.out hW3).lt t ht p hp)).ext hX |>.grown hOT hg7')
              have HE7 := Lib.hid (show Ext w w7 ∧ W3.heap.size ≤ w7.heap.size from by
                have h5 : Ext w w5 := grownBy_ext HE.out.1 Hg5.out (fun g' hg' => by injection hg' with hg'; omega)
                have h6 := (h5.trans HE6.out).trans hX
                refine ⟨grownBy_ext h6 hg7 (fun g' hg' => ?_), ?_⟩
                · cases hA : A' with
                  | none => rw [hA] at hg'; simp [Value.ownBlock] at hg'
                  | some a =>
                    rw [hA] at hg'
                    simp [Value.ownBlock] at hg'
                    have := (HO.out.1.block a hA).1
                    omega
                · have := HE.out.2; have := Hg5.out.size; have := HE6.out.size; have := hX.size; have := hg7.size; omega)
              have HO7 := Lib.hid hown7
              have HU7 := Lib.hid (show (us ++ [(⟨some ⟨w5.heap.size, 0, none⟩, c6, x⟩ : Sl)]).length = j + 1 ∧ bodies (us ++ [⟨some ⟨w5.heap.size, 0, none⟩, c6, x⟩]) = L.take (j + 1) from ⟨by rw [List.length_append, HU.out.1]; rfl, by rw [Htk.out, ← HU.out.2]; unfold bodies; rw [List.map_append]; rfl⟩)
              clear hOT hg7 hg7' hown7 hX hcv
              go_wp2_with fail
              go_roundw
              case rel => exact ⟨j + 1, A7, c7, _, _, by omega, by go_num, rfl, HU7.out, ⟨HO7.out, HT7.out⟩, ⟨HM7.out, HND.out⟩, HS7.out, HE7.out⟩
              case measure => simp [intOf]; omega
            · obtain rfl : j = N := by omega
              have hLt : L.take j = L := List.take_of_length_le (by rw [← HN.out]; exact Nat.le_refl _)
              have hub := HU.out.2
              rw [hLt] at hub
              obtain ⟨vals, hvals⟩ : ∃ vals, vals = (bodies ss).map (fun s => skN s L) := ⟨_, rfl⟩
              have HR2 := Lib.hid (show idxR (bodies ss) = (bodies us, vals, 0) by rw [HR.out, hub, hvals])
              have hvl : vals.length = n := by rw [hvals, List.length_map, Hbl.out]
              have Hvl := Lib.hid hvl
              have Hvals := Lib.hid hvals
              obtain ⟨W5, hW5⟩ : ∃ W5, W5 = wr := ⟨_, rfl⟩
              rw [← hW5] at HO HMD HE HS ⊢
              have HlU := Lib.hid HU.out.1
              clear hLt hub hvals hvl hW5
              go_wp2_with (first | (at_make; refine wpList_mk .i64 3 rfl _ _ 140 rfl 8 Tryz.underlying140 Tryz.infoInt _ _ n rfl rfl rfl rfl (by omega) (by omega) ?_; intro w7 hown7 he7) | fail)
              have h0 : Own .i64 3 w7 W5.heap.size (some ⟨W5.heap.size, 0, none⟩) n (vals.take 0 ++ List.replicate (n - 0) 0) := hown7
              have H0 := Lib.hid h0
              have He7 := Lib.hid he7
              clear hown7 h0 he7
              go_loopw [12, 13, 55] (fun _ _ i wr => ∃ q : Nat, q ≤ n ∧ i = .int .i64 q ∧ Hid (Own .i64 3 wr W5.heap.size (some ⟨W5.heap.size, 0, none⟩) n (vals.take q ++ List.replicate (n - q) 0)) ∧ Hid (Ext W5 wr)) (fun _ _ i _ => n - (intOf i).toNat)
              case atStart => exact ⟨0, Nat.zero_le _, rfl, H0.out, He7.out⟩
              case round =>
                clear H0 He7
                obtain ⟨q, hq, rfl, HNs, HE5⟩ := hrel
                by_cases hlt2 : q < n
                · obtain ⟨b, o, s, rfl, hf, hc, hs⟩ := (Hx.out.ext (HE.out.1.trans HE5.out)).at_ hlt2
                  have hbj := bodies_at hf
                  have hrd := hs.rd
                  have hln := hs.len
                  have hmem : s.body ∈ L := by rw [HLe.out]; exact dents_mem.2 (List.mem_of_getElem? hbj)
                  have hat0 := HMD.out.2.2 _ s.body (by rw [HN.out]; exact (List.getElem?_eq_some_iff.1 (skN_at HLa.out hmem)).1) (skN_at HLa.out hmem) (.lit (.int .i64 0))
                  have hvq : vals[q]? = some (skN s.body L) := by rw [Hvals.out, List.getElem?_map, hbj]; rfl
                  obtain ⟨f, hfv⟩ : ∃ f, f = skN s.body L := ⟨_, rfl⟩
                  rw [← hfv] at hat0 hvq
                  obtain ⟨sA, sc, body⟩ := s
                  simp only at hc hrd hln hat0
                  have kst := conv_str (c := sc) hrd
                  have Hk := Lib.hid (key_of body hln)
                  have Hat := Lib.hid hat0
                  have HMq := Lib.hid (HMD.out.1.kept HE5.out.grownBy' (by simp))
                  obtain ⟨bl, hbl⟩ : ∃ bl, bl = body.length := ⟨_, rfl⟩
                  rw [← hbl] at hc kst
                  have hlen7 : (vals.take q ++ List.replicate (n - q) 0).length = n := by rw [List.length_append, List.length_take, List.length_replicate, Hvl.out]; omega
                  obtain ⟨b2, hb2, hbase, hblt, hcell, hfro, hset⟩ := HNs.out.at_ (j := q) (by rw [hlen7]; exact hlt2)
                  injection hb2 with hb2
                  injection hb2 with hb2
                  subst hb2
                  obtain ⟨hs1, hs2⟩ := hset f
                  have hstep : (vals.take q ++ List.replicate (n - q) 0).set q f = vals.take (q + 1) ++ List.replicate (n - (q + 1)) 0 := by
                    have hlq : (vals.take q).length = q := by rw [List.length_take, Hvl.out]; omega
                    rw [take_nextG vals q hvq, List.set_append_right _ _ (by omega), hlq, Nat.sub_self, show n - q = (n - (q + 1)) + 1 by omega, List.replicate_succ, List.set_cons_zero, List.append_assoc]
                    rfl
                  rw [hstep] at hs1
                  have Hs1 := Lib.hid hs1
                  have HE6 := Lib.hid (HE5.out.setCell (p := ⟨W5.heap.size, q, none⟩) (Nat.le_refl _) (.int .i64 (f : Int)))
                  obtain ⟨old, hold⟩ : ∃ v, v = Value.int .i64 (((vals.take q ++ List.replicate (n - q) 0).getD q 0 : Nat) : Int) := ⟨_, rfl⟩
                  rw [← hold] at hcell
                  clear hold hs1 hs2 hset hstep hlen7 hf hbj hrd hln hs hmem hat0 hvq hfv hbl hbase
                  go_wp2_with (first
                    | (at_lookup; refine wpList_lookup_own_int _ rfl _ _ 222 rfl 9 3 .i64 lawK Tryz.underlying222 Tryz.underlying3 (zero_int _) g _ _ rfl HMq.out _ _ rfl Hk.out ?_; intro cc hat hwc; obtain rfl : cc = (f : Int) := (by have h9 := hat.symm.trans Hat.out; injection h9 with h9; injection h9); clear hat hwc)
                    | fail)
                  go_roundw
                  case rel => exact ⟨q + 1, by omega, by go_num, Hs1.out, HE6.out⟩
                  case measure => simp [intOf]; omega
                · obtain rfl : n = q := by omega
                  have hN2 := HNs.out
                  rw [Nat.sub_self, List.replicate_zero, List.append_nil, List.take_of_length_le (by rw [Hvl.out]; exact Nat.le_refl _)] at hN2
                  have HNf := Lib.hid hN2
                  clear hN2
                  go_wp2_with fail
                  go_ret3
                  exact IdxPost.good _ HR2.out HlU.out Hvl.out ((HO.out.1.mono hwg3).ext HE5.out) ((HO.out.2.mono hwg3).ext HE5.out) (HNf.out.mono HE.out.1.size) (HE.out.1.trans HE5.out)
open Go.RowKit
theorem packB_u8 (wd : Nat) (vs : List Nat) : U8 (packB wd vs) := U8_wd.2 (upk_wd 8 _ _)
theorem unpE_bounds {N len : Nat} {wd cnt : Int} (h : unpE N len wd cnt = 0) : 0 ≤ wd ∧ wd ≤ 64 ∧ 0 ≤ cnt ∧ cnt ≤ 4096 ∧ wd * cnt ≤ 8 * (len : Int) ∧ 8 * (len : Int) - wd * cnt < 8 ∧ N < 2 ^ (wd * cnt).toNat := by
  unfold unpE at h
  by_cases h1 : wd < 0 ∨ 64 < wd ∨ cnt < 0 ∨ 4096 < cnt
  · rw [if_pos h1] at h; omega
  · rw [if_neg h1] at h
    by_cases h2 : 8 * (len : Int) < wd * cnt
    · rw [if_pos h2] at h; omega
    · rw [if_neg h2] at h
      by_cases h3 : 8 ≤ 8 * (len : Int) - wd * cnt
      · rw [if_pos h3] at h; omega
      · rw [if_neg h3] at h
        by_cases h4 : 2 ^ (wd * cnt).toNat ≤ N
        · rw [if_pos h4] at h; omega
        · exact ⟨by omega, by omega, by omega, by omega, by omega, by omega, by omega⟩
theorem pack_unp {bs : List Nat} {wd n : Nat} (hw : wd ≤ 64) (hn : n ≤ 4096) (hu : U8 bs) (h : unpE (pk 8 bs) bs.length (wd : Int) (n : Int) = 0) :
    packE (wd : Int) (upk wd n (pk 8 bs)) = 0 ∧ packL (wd : Int) (upk wd n (pk 8 bs)) = bs := by
  obtain ⟨_, _, _, _, h5, h6, h7⟩ := unpE_bounds h
  have hm : (wd : Int) * (n : Int) = ((wd * n : Nat) : Int) := by norm_cast
  rw [hm] at h5 h6 h7
  rw [Int.toNat_natCast] at h7
  have hl := upk_len wd n (pk 8 bs)
  have hwd := wdt_le.2 (upk_wd wd n (pk 8 bs))
  have hE : packE (wd : Int) (upk wd n (pk 8 bs)) = 0 := packE_ok (by omega) (by omega) (by omega)
  refine ⟨hE, ?_⟩
  unfold packL
  rw [if_pos hE, Int.toNat_natCast]
  unfold packB
  rw [hl, pk_upk, Nat.mod_eq_of_lt h7, show (wd * n + 7) / 8 = bs.length from by omega]
  exact upk_pk (U8_wd.1 hu)
def wfor (n : Nat) : Nat := if n = 0 then 0 else bl (n - 1)
theorem wfor_le {n : Nat} (h : n ≤ 4096) : wfor n ≤ 12 := by
  unfold wfor
  split
  · omega
  · exact bl_le.2 (by have : (2 : Nat) ^ 12 = 4096 := by decide
                      omega)
theorem wfor_wd {n : Nat} {us : List Nat} (h : ∀ u ∈ us, u < n) : Wd (wfor n) us := by
  intro u hu
  have h1 := h u hu
  unfold wfor
  rw [if_neg (by omega)]
  have h2 := bl_le.1 (Nat.le_refl (bl (n - 1)))
  omega
def entB (L : List (List Nat)) : List Nat := (L.map fun s => vput s.length ++ s).flatten
theorem entB_cons (s : List Nat) (r : List (List Nat)) : entB (s :: r) = vput s.length ++ (s ++ entB r) := by simp [entB]
theorem entB_step {L : List (List Nat)} {j : Nat} {s : List Nat} (h : L[j]? = some s) : entB (L.drop j) = vput s.length ++ (s ++ entB (L.drop (j + 1))) := by
  obtain ⟨h1, rfl⟩ := List.getElem?_eq_some_iff.1 h
  rw [List.drop_eq_getElem_cons h1, entB_cons]
theorem entB_len : ∀ (L : List (List Nat)), (∀ s ∈ L, s.length ≤ 200) → (entB L).length ≤ 210 * L.length
  | [], _ => by simp [entB]
  | s :: r, h => by
    have h1 := h s (by simp)
    have h2 := vput_le (u := s.length) (by omega)
    have h3 := entB_len r (fun x hx => h x (by simp [hx]))
    rw [entB_cons, List.length_append, List.length_append, List.length_cons]
    omega
theorem entB_u8 : ∀ (L : List (List Nat)), (∀ s ∈ L, U8 s) → U8 (entB L)
  | [], _ => by intro v hv; cases hv
  | s :: r, h => by
    intro v hv
    rw [entB_cons] at hv
    rcases List.mem_append.1 hv with hv | hv
    · exact vput_u8 _ v hv
    · rcases List.mem_append.1 hv with hv | hv
      · exact h s (by simp) v hv
      · exact entB_u8 r (fun x hx => h x (by simp [hx])) v hv
def dencW (L : List (List Nat)) (ns : List Nat) : List Nat := (vput L.length ++ entB L) ++ (vput ns.length ++ packB (wfor L.length) ns)
def dcodes (ss : List (List Nat)) : List Nat := ss.map fun s => skN s (dents ss)
def denc (ss : List (List Nat)) : List Nat := dencW (dents ss) (dcodes ss)
def dencR (ss : List (List Nat)) : List Nat × Int := if 4096 < ss.length ∨ anyLong ss = true then ([], 4) else (denc ss, 0)
theorem dencR_bad {ss : List (List Nat)} (h : 4096 < ss.length ∨ anyLong ss = true) : dencR ss = ([], 4) := if_pos h
theorem dencR_good {ss : List (List Nat)} (h : ss.length ≤ 4096) (h2 : anyLong ss = false) : dencR ss = (denc ss, 0) := if_neg (fun q => by
  rcases q with q | q
  · omega
  · rw [h2] at q; cases q)
theorem dcodes_len (ss : List (List Nat)) : (dcodes ss).length = ss.length := List.length_map ..
theorem dcodes_lt {ss : List (List Nat)} : ∀ u ∈ dcodes ss, u < (dents ss).length := by
  intro u hu
  obtain ⟨s, hs, rfl⟩ := List.mem_map.1 hu
  exact (List.getElem?_eq_some_iff.1 (skN_at (dents_asc ss) (dents_mem.2 hs))).1
theorem packB_len {wd : Nat} {vs : List Nat} : (packB wd vs).length = (wd * vs.length + 7) / 8 := upk_len ..
theorem denc_len {ss : List (List Nat)} (hn : ss.length ≤ 4096) (h : anyLong ss = false) : (denc ss).length ≤ 1000000 := by
  have h1 := dents_len ss.length ss rfl
  have h2 := entB_len (dents ss) (fun x hx => anyLong_no h x (dents_mem.1 hx))
  have h3 := vput_le (u := (dents ss).length) (by omega)
  have h4 := vput_le (u := (dcodes ss).length) (by rw [dcodes_len]; omega)
  have h5 := wfor_le (n := (dents ss).length) (by omega)
  have h6 : wfor (dents ss).length * (dcodes ss).length ≤ 12 * 4096 := Nat.mul_le_mul h5 (by rw [dcodes_len]; exact hn)
  unfold denc dencW
  rw [List.length_append, List.length_append, List.length_append, packB_len]
  omega
theorem denc_u8 {ss : List (List Nat)} (h : ∀ s ∈ ss, U8 s) : U8 (denc ss) := by
  intro v hv
  unfold denc dencW at hv
  rcases List.mem_append.1 hv with hv | hv
  · rcases List.mem_append.1 hv with hv | hv
    · exact vput_u8 _ v hv
    · exact entB_u8 _ (fun x hx => h x (dents_mem.1 hx)) v hv
  · rcases List.mem_append.1 hv with hv | hv
    · exact vput_u8 _ v hv
    · exact packB_u8 _ _ v hv
theorem pack_good {L : List (List Nat)} {ns : List Nat} (hL : L.length ≤ 4096) (hn : ns.length ≤ 4096) (h : ∀ u ∈ ns, u < L.length) : packE (wfor L.length : Int) ns = 0 ∧ packL (wfor L.length : Int) ns = packB (wfor L.length) ns := by
  have h1 := wfor_le hL
  have h2 := wdt_le.2 (wfor_wd h)
  have hE : packE (wfor L.length : Int) ns = 0 := packE_ok (by omega) (by omega) (by omega)
  refine ⟨hE, ?_⟩
  unfold packL
  rw [if_pos hE, Int.toNat_natCast]
def dtx (bs : List Nat) (a : Int) : List Nat × Int × Int :=
  if (vget bs a).2.2 ≠ 0 then ([], 0, (vget bs a).2.2) else if 200 < (vget bs a).1 then ([], 0, 4) else
  if (bs.length : Int) - (vget bs a).2.1 < (vget bs a).1 then ([], 0, 2) else (cut bs (vget bs a).2.1.toNat (vget bs a).1, (vget bs a).2.1 + ((vget bs a).1 : Int), 0)
section
variable {bs : List Nat} {a n e : Int} {k : Nat}
theorem dtx_err (h : vget bs a = (k, n, e)) (he : e ≠ 0) : dtx bs a = ([], 0, e) := by unfold dtx; rw [h]; exact if_pos he
theorem dtx_long (h : vget bs a = (k, n, 0)) (hk : 200 < k) : dtx bs a = ([], 0, 4) := by unfold dtx; rw [h, if_neg (fun q => q rfl), if_pos hk]
theorem dtx_short (h : vget bs a = (k, n, 0)) (hk : k ≤ 200) (hs : (bs.length : Int) - n < k) : dtx bs a = ([], 0, 2) := by
  unfold dtx; rw [h, if_neg (fun q => q rfl), if_neg (by simp only; omega), if_pos hs]
theorem dtx_yes (h : vget bs a = (k, n, 0)) (hk : k ≤ 200) (hs : (k : Int) ≤ (bs.length : Int) - n) : dtx bs a = (cut bs n.toNat k, n + (k : Int), 0) := by
  unfold dtx; rw [h, if_neg (fun q => q rfl), if_neg (by simp only; omega), if_neg (by simp only; omega)]
end
theorem dtx_ok {bs s : List Nat} {a n : Int} (hb : U8 bs) (h : dtx bs a = (s, n, 0)) : 0 ≤ a ∧ a ≤ n ∧ n ≤ bs.length ∧ s.length ≤ 200 ∧ U8 s ∧ vput s.length ++ s = (bs.drop a.toNat).take (n.toNat - a.toNat) := by
  rcases h1 : vget bs a with ⟨k, n1, e1⟩
  by_cases g1 : e1 = 0
  · subst g1
    by_cases hk : 200 < k
    · rw [dtx_long h1 hk] at h; injection h with _ h; injection h with _ h; exact absurd h (by decide)
    · by_cases hs : (bs.length : Int) - n1 < k
      · rw [dtx_short h1 (by omega) hs] at h; injection h with _ h; injection h with _ h; exact absurd h (by decide)
      · rw [dtx_yes h1 (by omega) (by omega)] at h
        injection h with hs1 h
        injection h with hn1 _
        obtain ⟨a1, a2, a3, a4, a5⟩ := vget_at hb h1
        have hcl : (cut bs n1.toNat k).length = k := cut_len (by omega)
        subst hs1
        refine ⟨a1, by omega, by omega, by omega, cut_u8 hb _ _, ?_⟩
        rw [hcl, a5, ← hn1]
        unfold cut
        have e1 : n1.toNat = a.toNat + (n1.toNat - a.toNat) := by omega
        have e3 : (n1 + (k : Int)).toNat - a.toNat = (n1.toNat - a.toNat) + k := by omega
        rw [e3, List.take_add, List.drop_drop, ← e1]
  · rw [dtx_err h1 g1] at h; injection h with _ h; injection h with _ h; exact absurd h g1
def dnA (bs : List Nat) : Nat → Int → List (List Nat) → List (List Nat) × Int × Int
  | 0, a, acc => (acc, a, 0)
  | n + 1, a, acc => if (dtx bs a).2.2 ≠ 0 then ([], 0, (dtx bs a).2.2) else if 0 < acc.length ∧ 0 ≤ ordT (acc.getD (acc.length - 1) []) (dtx bs a).1 then ([], 0, 5) else dnA bs n (dtx bs a).2.1 (acc ++ [(dtx bs a).1])
section
variable {bs s : List Nat} {n : Nat} {a m e : Int} {acc : List (List Nat)}
theorem dnA_err (h : dtx bs a = (s, m, e)) (he : e ≠ 0) : dnA bs (n + 1) a acc = ([], 0, e) := by rw [dnA, h]; exact if_pos he
theorem dnA_form (h : dtx bs a = (s, m, 0)) (ho : 0 < acc.length ∧ 0 ≤ ordT (acc.getD (acc.length - 1) []) s) : dnA bs (n + 1) a acc = ([], 0, 5) := by rw [dnA, h, if_neg (fun q => q rfl)]; exact if_pos ho
theorem dnA_next (h : dtx bs a = (s, m, 0)) (ho : ¬ (0 < acc.length ∧ 0 ≤ ordT (acc.getD (acc.length - 1) []) s)) : dnA bs (n + 1) a acc = dnA bs n m (acc ++ [s]) := by rw [dnA, h, if_neg (fun q => q rfl)]; exact if_neg ho
end
theorem asc_snoc {acc : List (List Nat)} {s : List Nat} (h : Asc acc) (ho : ¬ (0 < acc.length ∧ 0 ≤ ordT (acc.getD (acc.length - 1) []) s)) : Asc (acc ++ [s]) := by
  refine List.pairwise_append.2 ⟨h, by simp, fun x hx y hy => ?_⟩
  simp at hy
  subst hy
  obtain ⟨i, hi⟩ := List.getElem?_of_mem hx
  obtain ⟨q1, e1⟩ := List.getElem?_eq_some_iff.1 hi
  have hl : acc.length - 1 < acc.length := by omega
  have hlast : ordT (acc.getD (acc.length - 1) []) y < 0 := by
    rcases Int.lt_or_le (ordT (acc.getD (acc.length - 1) []) y) 0 with h1 | h1
    · exact h1
    · exact absurd ⟨by omega, h1⟩ ho
  have hg : acc.getD (acc.length - 1) [] = acc[acc.length - 1] := by simp [List.getD, hl]
  rw [hg] at hlast
  by_cases hie : i = acc.length - 1
  · subst hie; rw [← e1]; exact hlast
  · have := List.pairwise_iff_getElem.1 h i (acc.length - 1) q1 hl (by omega)
    rw [e1] at this
    exact ordT_trans this hlast
theorem dnA_ok {bs : List Nat} (hb : U8 bs) : ∀ (n : Nat) {a m : Int} {acc L : List (List Nat)}, Asc acc → 0 ≤ a → a ≤ bs.length → dnA bs n a acc = (L, m, 0) →
    ∃ T, L = acc ++ T ∧ T.length = n ∧ 0 ≤ m ∧ a ≤ m ∧ m ≤ bs.length ∧ entB T = (bs.drop a.toNat).take (m.toNat - a.toNat) ∧ Asc L ∧ ∀ s ∈ T, s.length ≤ 200 ∧ U8 s
  | 0, a, m, acc, L, ha, h0, h1, h => by
    injection h with e1 h
    injection h with e2 _
    subst e1 e2
    exact ⟨[], by simp, rfl, h0, Int.le_refl _, h1, by rw [Nat.sub_self]; rfl, ha, fun s hs => by cases hs⟩
  | n + 1, a, m, acc, L, ha, h0, h1, h => by
    rcases hd : dtx bs a with ⟨s, m1, e⟩
    by_cases he : e = 0
    · subst he
      by_cases ho : 0 < acc.length ∧ 0 ≤ ordT (acc.getD (acc.length - 1) []) s
      · rw [dnA_form hd ho] at h; injection h with _ h; injection h with _ h; exact absurd h (by decide)
      · rw [dnA_next hd ho] at h
        obtain ⟨q1, q2, q3, q4, q5, q6⟩ := dtx_ok hb hd
        obtain ⟨T, r1, r2, r3, r4, r5, r6, r7, r8⟩ := dnA_ok hb n (asc_snoc ha ho) (by omega) q3 h
        refine ⟨s :: T, by rw [r1]; simp, by simp [r2], r3, by omega, r5, ?_, r7, ?_⟩
        · have e2 : m.toNat - a.toNat = (m1.toNat - a.toNat) + (m.toNat - m1.toNat) := by omega
          have e3 : a.toNat + (m1.toNat - a.toNat) = m1.toNat := by omega
          rw [entB_cons, ← List.append_assoc, q6, r6, e2, List.take_add, List.drop_drop, e3]
        · intro x hx
          rcases List.mem_cons.1 hx with rfl | hx
          · exact ⟨q4, q5⟩
          · exact r8 x hx
    · rw [dnA_err hd he] at h; injection h with _ h; injection h with _ h; exact absurd h he
def meant (us : List Nat) (n : Nat) : Bool := decide (∀ u ∈ us, u < n) && (List.range n).all fun i => decide (i ∈ us)
theorem meant_iff {us : List Nat} {n : Nat} : meant us n = true ↔ (∀ u ∈ us, u < n) ∧ ∀ i, i < n → i ∈ us := by simp [meant]
def txtsOf (L : List (List Nat)) (us : List Nat) : List (List Nat) := us.map fun u => L.getD u []
def ddec (bs : List Nat) : List (List Nat) × Int :=
  if (vget bs 0).2.2 ≠ 0 then ([], (vget bs 0).2.2) else if 4096 < (vget bs 0).1 then ([], 4) else
  if (dnA bs (vget bs 0).1 (vget bs 0).2.1 []).2.2 ≠ 0 then ([], (dnA bs (vget bs 0).1 (vget bs 0).2.1 []).2.2) else
  ddecB bs (dnA bs (vget bs 0).1 (vget bs 0).2.1 []).1 (dnA bs (vget bs 0).1 (vget bs 0).2.1 []).2.1
where
  ddecB (bs : List Nat) (L : List (List Nat)) (a : Int) : List (List Nat) × Int :=
    if (vget bs a).2.2 ≠ 0 then ([], (vget bs a).2.2) else if 4096 < (vget bs a).1 then ([], 4) else
    ddecC L (bs.drop (vget bs a).2.1.toNat) (vget bs a).1
  ddecC (L : List (List Nat)) (r : List Nat) (n : Nat) : List (List Nat) × Int :=
    if unpE (pk 8 r) r.length (wfor L.length : Int) (n : Int) ≠ 0 then ([], unpE (pk 8 r) r.length (wfor L.length : Int) (n : Int)) else
    if meant (unpL (pk 8 r) r.length (wfor L.length : Int) (n : Int)) L.length = false then ([], 5) else (txtsOf L (unpL (pk 8 r) r.length (wfor L.length : Int) (n : Int)), 0)
theorem ddec_e1 {bs : List Nat} {k : Nat} {n e : Int} (h : vget bs 0 = (k, n, e)) (he : e ≠ 0) : ddec bs = ([], e) := by unfold ddec; rw [h]; exact if_pos he
theorem ddec_long {bs : List Nat} {k : Nat} {n : Int} (h : vget bs 0 = (k, n, 0)) (hk : 4096 < k) : ddec bs = ([], 4) := by unfold ddec; rw [h, if_neg (fun q => q rfl), if_pos hk]
theorem ddec_e2 {bs : List Nat} {k : Nat} {n m e : Int} {L : List (List Nat)} (h : vget bs 0 = (k, n, 0)) (hk : k ≤ 4096) (h2 : dnA bs k n [] = (L, m, e)) (he : e ≠ 0) : ddec bs = ([], e) := by
  unfold ddec; rw [h, if_neg (fun q => q rfl), if_neg (by simp only; omega)]; simp only [h2]; rw [if_pos he]
theorem ddec_go {bs : List Nat} {k : Nat} {n m : Int} {L : List (List Nat)} (h : vget bs 0 = (k, n, 0)) (hk : k ≤ 4096) (h2 : dnA bs k n [] = (L, m, 0)) : ddec bs = ddec.ddecB bs L m := by
  unfold ddec; rw [h, if_neg (fun q => q rfl), if_neg (by simp only; omega)]; simp only [h2]; rw [if_neg (fun q => q rfl)]
section
variable {bs : List Nat} {L : List (List Nat)} {a n e : Int} {k : Nat}
theorem ddecB_err (h : vget bs a = (k, n, e)) (he : e ≠ 0) : ddec.ddecB bs L a = ([], e) := by unfold ddec.ddecB; rw [h]; exact if_pos he
theorem ddecB_long (h : vget bs a = (k, n, 0)) (hk : 4096 < k) : ddec.ddecB bs L a = ([], 4) := by unfold ddec.ddecB; rw [h, if_neg (fun q => q rfl), if_pos hk]
theorem ddecB_go (h : vget bs a = (k, n, 0)) (hk : k ≤ 4096) : ddec.ddecB bs L a = ddec.ddecC L (bs.drop n.toNat) k := by unfold ddec.ddecB; rw [h, if_neg (fun q => q rfl), if_neg (by simp only; omega)]
theorem ddecC_err {r : List Nat} (h : unpE (pk 8 r) r.length (wfor L.length : Int) (k : Int) ≠ 0) : ddec.ddecC L r k = ([], unpE (pk 8 r) r.length (wfor L.length : Int) (k : Int)) := if_pos h
theorem ddecC_form {r us : List Nat} (h : unpE (pk 8 r) r.length (wfor L.length : Int) (k : Int) = 0) (h2 : unpL (pk 8 r) r.length (wfor L.length : Int) (k : Int) = us) (hm : meant us L.length = false) : ddec.ddecC L r k = ([], 5) := by
  unfold ddec.ddecC; rw [if_neg (fun q => q h), h2, if_pos hm]
theorem ddecC_yes {r us : List Nat} (h : unpE (pk 8 r) r.length (wfor L.length : Int) (k : Int) = 0) (h2 : unpL (pk 8 r) r.length (wfor L.length : Int) (k : Int) = us) (hm : meant us L.length = true) : ddec.ddecC L r k = (txtsOf L us, 0) := by
  unfold ddec.ddecC; rw [if_neg (fun q => q h), h2, if_neg (by rw [hm]; decide)]
end
theorem skN_of {L : List (List Nat)} {x : List Nat} {i : Nat} (ha : Asc L) (h : L[i]? = some x) : skN x L = i := by
  have h2 := skN_at ha (List.mem_of_getElem? h)
  obtain ⟨q1, e1⟩ := List.getElem?_eq_some_iff.1 h
  obtain ⟨q2, e2⟩ := List.getElem?_eq_some_iff.1 h2
  rcases Nat.lt_trichotomy (skN x L) i with g | g | g
  · have := List.pairwise_iff_getElem.1 ha _ _ q2 q1 g
    rw [e1, e2, ordT_self] at this; omega
  · exact g
  · have := List.pairwise_iff_getElem.1 ha _ _ q1 q2 g
    rw [e1, e2, ordT_self] at this; omega
theorem ddec_ok {bs : List Nat} {ss : List (List Nat)} (hb : U8 bs) (h : ddec bs = (ss, 0)) : denc ss = bs ∧ ss.length ≤ 4096 ∧ anyLong ss = false ∧ ∀ s ∈ ss, U8 s ∧ s.length ≤ 200 := by
  rcases h1 : vget bs 0 with ⟨k, n, e⟩
  by_cases he : e = 0
  · subst he
    by_cases hk : 4096 < k
    · rw [ddec_long h1 hk] at h; injection h with _ h; exact absurd h (by decide)
    · obtain ⟨a1, a2, a3, a4, a5⟩ := vget_at hb h1
      rcases h2 : dnA bs k n [] with ⟨L, m, e2⟩
      by_cases he2 : e2 = 0
      · subst he2
        rw [ddec_go h1 (by omega) h2] at h
        obtain ⟨T, r1, r2, r3, r4, r5, r6, r7, r8⟩ := dnA_ok hb k (acc := []) List.Pairwise.nil (by omega) a3 h2
        rw [List.nil_append] at r1
        subst r1
        rcases h3 : vget bs m with ⟨k2, n2, e3⟩
        by_cases he3 : e3 = 0
        · subst he3
          by_cases hk2 : 4096 < k2
          · rw [ddecB_long h3 hk2] at h; injection h with _ h; exact absurd h (by decide)
          · obtain ⟨b1, b2, b3, b4, b5⟩ := vget_at hb h3
            rw [ddecB_go h3 (by omega)] at h
            obtain ⟨r, hr⟩ : ∃ r, r = bs.drop n2.toNat := ⟨_, rfl⟩
            rw [← hr] at h
            have hru : U8 r := by rw [hr]; exact u8_drop hb _
            by_cases hu : unpE (pk 8 r) r.length (wfor L.length : Int) (k2 : Int) = 0
            · have hus := unp_ok hu
              rw [Int.toNat_natCast, Int.toNat_natCast] at hus
              obtain ⟨us, huse⟩ : ∃ us, us = upk (wfor L.length) k2 (pk 8 r) := ⟨_, rfl⟩
              rw [← huse] at hus
              have hul : us.length = k2 := by rw [huse]; exact upk_len ..
              cases hm : meant us L.length with
              | false => rw [ddecC_form hu hus hm] at h; injection h with _ h; exact absurd h (by decide)
              | true =>
                rw [ddecC_yes hu hus hm] at h
                injection h with h _
                obtain ⟨m1, m2⟩ := meant_iff.1 hm
                have hget : ∀ u, u < L.length → L[u]? = some (L.getD u []) := fun u hu => by simp [List.getD, hu]
                have hmem : ∀ x, x ∈ ss ↔ x ∈ L := fun x => by
                  rw [← h]
                  unfold txtsOf
                  rw [List.mem_map]
                  constructor
                  · rintro ⟨u, hu, rfl⟩; exact List.mem_of_getElem? (hget u (m1 u hu))
                  · intro hx
                    obtain ⟨i, hi⟩ := List.getElem?_of_mem hx
                    have hil := (List.getElem?_eq_some_iff.1 hi).1
                    refine ⟨i, m2 i hil, ?_⟩
                    have := hget i hil
                    rw [hi] at this
                    injection this with this
                    exact this.symm
                have hd : dents ss = L := Asc.ext (dents_asc ss) r7 (fun x => by rw [dents_mem, hmem])
                have hc : dcodes ss = us := by
                  unfold dcodes
                  rw [hd, ← h]
                  unfold txtsOf
                  rw [List.map_map]
                  conv => rhs; rw [← List.map_id us]
                  refine List.map_congr_left fun u hu => ?_
                  exact skN_of r7 (hget u (m1 u hu))
                have hwl := wfor_le (n := L.length) (by omega)
                have hpk := (pack_unp (wd := wfor L.length) (n := k2) (by omega) (by omega) hru hu).2
                rw [← huse] at hpk
                have hpb : packB (wfor L.length) us = r := by rw [← hpk, (pack_good (by omega) (by omega) m1).2]
                have hlen : ss.length = k2 := by rw [← h]; unfold txtsOf; rw [List.length_map, hul]
                refine ⟨?_, by omega, ?_, fun s hs => ?_⟩
                · unfold denc
                  rw [hd, hc]
                  unfold dencW
                  rw [hul, hpb, r2, a5, r6, b5, hr]
                  have e1 : (0 : Int).toNat = 0 := rfl
                  rw [e1, List.drop_zero, Nat.sub_zero]
                  have e2 : (bs.take n.toNat) ++ ((bs.drop n.toNat).take (m.toNat - n.toNat)) = bs.take m.toNat := by
                    conv => rhs; rw [show m.toNat = n.toNat + (m.toNat - n.toNat) by omega, List.take_add]
                  have e3 : (bs.drop m.toNat).take (n2.toNat - m.toNat) ++ bs.drop n2.toNat = bs.drop m.toNat := by
                    conv => lhs; rhs; rw [show n2.toNat = m.toNat + (n2.toNat - m.toNat) by omega, ← List.drop_drop]
                    rw [List.take_append_drop]
                  rw [e2, e3, List.take_append_drop]
                · cases q : anyLong ss with
                  | false => rfl
                  | true =>
                    obtain ⟨s, hs, hl⟩ := anyLong_iff.1 q
                    have := (r8 s ((hmem s).1 hs)).1
                    omega
                · exact ⟨(r8 s ((hmem s).1 hs)).2, (r8 s ((hmem s).1 hs)).1⟩
            · rw [ddecC_err hu] at h; injection h with _ h; exact absurd h hu
        · rw [ddecB_err h3 he3] at h; injection h with _ h; exact absurd h he3
      · rw [ddec_e2 h1 (by omega) h2 he2] at h; injection h with _ h; exact absurd h he2
  · rw [ddec_e1 h1 he] at h; injection h with _ h; exact absurd h he
variable {w w' w0 : World} {base c n : Nat} {A : Option Addr} {ts ss : List Sl}
theorem TxL.of_own (h : OwnT w base A c ts) (ht : Txts w base ts) (hn : ts.length = n) (hu : ∀ t ∈ ts, U8 t.body ∧ t.body.length ≤ 140737488355328) : TxL w A n ts := by
  subst hn
  exact ⟨h.rdL, fun t hm => ⟨ht.rd t hm, (hu t hm).1, (ht.own t hm).cap.1, (ht.own t hm).cap.2, (hu t hm).2⟩⟩
theorem TxL.same (h : TxL w A n ss) : ∀ s ∈ ss, Rd .u8 w s.A s.body.length s.body ∧ s.body.length ≤ 140737488355328 := fun s hs => ⟨(h.each s hs).rd, (h.each s hs).len⟩
theorem TxL.rds (h : TxL w A n ss) : ∀ s ∈ ss, Rd .u8 w s.A s.body.length s.body := fun s hs => (h.each s hs).rd
theorem bodies_all {P : List Nat → Prop} {ss ts : List Sl} (hb : bodies ts = bodies ss) (h : ∀ s ∈ ss, P s.body) : ∀ t ∈ ts, P t.body := by
  intro t ht
  have h1 : t.body ∈ bodies ss := by rw [← hb]; exact List.mem_map.2 ⟨t, ht, rfl⟩
  obtain ⟨s, hs, e⟩ := List.mem_map.1 h1
  rw [← e]
  exact h s hs
theorem TxL.all (h : TxL w A n ss) : ∀ s ∈ ss, U8 s.body ∧ s.body.length ≤ 140737488355328 := fun s hs => ⟨(h.each s hs).u8, (h.each s hs).len⟩
theorem isLong11_any (A : Option Addr) (n c : Nat) (w : World) :
    Calls Tryz.prog 182 #[.slice A n c] w fun e w' => e = .returned (.bool (decide (200 < n))) ∧ w' = w := by
  by_cases h : 200 < n
  · rw [decide_eq_true h]
    go_enter Tryz.func182, Tryz.ntmps182
    go_wp2
    go_ret
    exact ⟨by simp <;> omega, rfl⟩
  · rw [decide_eq_false h]
    go_enter Tryz.func182, Tryz.ntmps182
    go_wp2
    go_ret
    exact ⟨by simp <;> omega, rfl⟩
theorem indexLong11_any (A : Option Addr) (n c : Nat) (ss : List Sl) (w : World) (hx : RdL w A n ss) (hn : n ≤ 140737488355328) :
    Calls Tryz.prog 206 #[.slice A n c, .func (.func 182) #[] #[]] w fun e w' => ∃ r : Int, e = .returned (.int .i64 r) ∧ w' = w ∧ decide (0 ≤ r) = anyLong (bodies ss) := by
  have Hl := Lib.hid hx.1
  obtain ⟨R, hR⟩ : ∃ R, R = anyLong (bodies ss) := ⟨_, rfl⟩
  rw [← hR]
  have HR := Lib.hid hR
  clear hR
  go_enter Tryz.func206, Tryz.ntmps206
  go_wp2
  go_loopw [5, 8] (fun _ i wr => ∃ j : Nat, j ≤ n ∧ i = .int .i64 j ∧ wr = w ∧ Hid (anyLong (bodies (ss.take j)) = false)) (fun _ i _ => n - (intOf i).toNat)
  case atStart => exact ⟨0, Nat.zero_le _, rfl, rfl, rfl⟩
  case round =>
    obtain ⟨j, hj, rfl, rfl, HA⟩ := hrel
    by_cases hlt : j < n
    · obtain ⟨b, o, s, rfl, hf, h1⟩ := hx.at_ hlt
      obtain ⟨sA, sc, body⟩ := s
      simp only at h1
      have e0 : bodies (ss.take (j + 1)) = bodies (ss.take j) ++ [body] := by rw [List.take_add_one, hf]; unfold bodies; rw [List.map_append]; rfl
      by_cases hb : 200 < body.length
      · have hfin := Lib.hid (show true = R by rw [HR.out]; exact (anyLong_iff.2 ⟨body, List.mem_map.2 ⟨_, List.mem_of_getElem? hf, rfl⟩, hb⟩).symm)
        clear e0 hf
        obtain ⟨m, hm⟩ : ∃ m, m = body.length := ⟨_, rfl⟩
        rw [← hm] at h1 hb
        clear hm
        have hd : decide (200 < m) = true := decide_eq_true hb
        go_wp2_with (refine (isLong11_any _ _ _ _).mono ?_; rintro e w1 ⟨rfl, rfl⟩; rw [hd])
        go_ret
        exact ⟨_, rfl, rfl, by rw [← hfin.out]; exact decide_eq_true (by omega)⟩
      · have hN := Lib.hid (show anyLong (bodies (ss.take (j + 1))) = false by rw [e0, anyLong, List.any_append]; simp [anyLong] at HA; simp <;> first | omega | (refine ⟨HA.out, by omega⟩))
        clear e0 hf
        obtain ⟨m, hm⟩ : ∃ m, m = body.length := ⟨_, rfl⟩
        rw [← hm] at h1 hb
        clear hm
        have hd : decide (200 < m) = false := decide_eq_false hb
        go_wp2_with (refine (isLong11_any _ _ _ _).mono ?_; rintro e w1 ⟨rfl, rfl⟩; rw [hd])
        go_roundw
        case rel => exact ⟨j + 1, by omega, by go_num, by first | trivial | rfl, hN⟩
        case measure => simp [intOf]; omega
    · obtain rfl : j = n := by omega
      have hfin := Lib.hid (show false = R by rw [HR.out, ← HA.out, List.take_of_length_le (by rw [Hl.out]; exact Nat.le_refl _)])
      go_wp2
      go_ret
      exact ⟨_, rfl, by first | trivial | rfl, by rw [← hfin.out]; rfl⟩
theorem containsLong11_any (A : Option Addr) (n c : Nat) (ss : List Sl) (w : World) (hx : RdL w A n ss) (hn : n ≤ 140737488355328) :
    Calls Tryz.prog 181 #[.slice A n c, .func (.func 182) #[] #[]] w fun e w' => e = .returned (.bool (anyLong (bodies ss))) ∧ w' = w := by
  have H := Lib.hid (indexLong11_any A n c ss w hx hn)
  clear hx
  go_enter Tryz.func181, Tryz.ntmps181
  go_wp2_with fail
  refine H.out.mono ?_
  rintro e w1 ⟨r, rfl, rfl, hr⟩
  have Hr := Lib.hid hr
  clear hr
  go_wp2
  go_ret
  exact ⟨by rw [← Hr.out]; simp, by first | trivial | rfl⟩
theorem isWhole_any (j : Nat) (w : World) (hj : j ≤ 140737488355328) :
    Calls Tryz.prog 183 #[.int .i64 (j : Int)] w fun e w' => e = .returned (.bool (decide (j % 16 = 0))) ∧ w' = w := by
  by_cases h : j % 16 = 0
  · rw [decide_eq_true h]
    have hd : (((j : Int) % 16 : Int) == 0) = true := by rw [beq_iff_eq]; omega
    go_enter Tryz.func183, Tryz.ntmps183
    go_wp2
    go_ret
    exact ⟨by simp <;> omega, rfl⟩
  · rw [decide_eq_false h]
    go_enter Tryz.func183, Tryz.ntmps183
    go_wp2
    go_ret
    exact ⟨by simp <;> omega, rfl⟩
def pencR (ss : List (List Nat)) : List Nat × Int := if 4096 < ss.length ∨ anyLong ss = true then ([], 4) else (penc ss, 0)
theorem pencR_bad {ss : List (List Nat)} (h : 4096 < ss.length ∨ anyLong ss = true) : pencR ss = ([], 4) := if_pos h
theorem pencR_good {ss : List (List Nat)} (h : ss.length ≤ 4096) (h2 : anyLong ss = false) : pencR ss = (penc ss, 0) := if_neg (fun q => by
  rcases q with q | q
  · omega
  · rw [h2] at q; cases q)
def PEncPost (R : List Nat × Int) (w : World) (e : Ending) (w' : World) : Prop :=
  ∃ A' c', e = .returned (.tuple #[.slice A' R.1.length c', .int .i64 R.2]) ∧ Own .u8 5 w' w.heap.size A' c' R.1 ∧ Ext w w'
theorem PEncPost.bad {w w' : World} (R : List Nat × Int) {E : Int} (h : R = ([], E)) (he : Ext w w') : PEncPost R w (.returned (.tuple #[.slice none 0 0, .int .i64 E])) w' := by
  subst h
  exact ⟨none, 0, rfl, Own.nil .., he⟩
theorem PEncPost.good {w w' : World} (R : List Nat × Int) {xs : List Nat} {A : Option Addr} {m c : Nat} (h : R = (xs, 0)) (hm : xs.length = m) (ho : Own .u8 5 w' w.heap.size A c xs) (he : Ext w w') : PEncPost R w (.returned (.tuple #[.slice A m c, .int .i64 0])) w' := by
  subst h
  subst hm
  exact ⟨A, c, rfl, ho, he⟩
end Go.Proofs.YthibbgmicmfkfaaGreat
