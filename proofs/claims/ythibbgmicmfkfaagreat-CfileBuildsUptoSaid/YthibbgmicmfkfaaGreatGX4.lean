import Derived.Test.YthibbgmicmfkfaaGreatGX3
import Derived.Test.YthibbgmicmfkfaaGreatRows
import Derived.JoinedCond
import Derived.Deep.CondSized
import Derived.Lib.SmallJoins
import Derived.Deep.Slices
import Derived.Lib.AppendZeros
import Derived.Lib.SliceRun
import Derived.Laws.CopyOwn
import Derived.Deep.RegionLaw
import Derived.Deep.WholeRow
import Derived.Stop.BytesEq
namespace Go.Proofs.YthibbgmicmfkfaaGreat
theorem bulk_pos {H : Type} (d : DataW H) : 1 ≤ Rows.uptoBulk d := by
  cases d with
  | lit l => cases l <;> simp [Rows.uptoBulk]
  | _ => simp [Rows.uptoBulk]
theorem bulk_length {H : Type} (l : List (DataW H)) : l.length ≤ Rows.uptoBulkAll l := by
  induction l with
  | nil => simp
  | cons d r ih => have := bulk_pos d; simp only [List.length_cons, Rows.uptoBulkAll]; omega
theorem bulk_len {H : Type} {d : DataW H} {len : Nat} (h : len = 0 ∨ ∃ elems spare, d = .slice elems spare ∧ elems.length = len) : len ≤ Rows.uptoBulk d := by
  rcases h with rfl | ⟨elems, spare, rfl, rfl⟩
  · exact Nat.zero_le _
  · have := bulk_length elems
    simp only [Rows.uptoBulk]
    omega
theorem upto_bulk {H : Type} {ds : List (DataW H)} (h : Rows.uptoSmall H ds = true) : Rows.uptoBulkAll ds ≤ 1048576 := of_decide_eq_true h
open Go.ChangeShapes Go.WideShapes Go.ChangeAt Go.RowKit
def Sz {H : Type} (P : Program) (t : TypeId) (d : DataW H) : Prop := ∀ n ∈ d.weights P t, n ≤ reachBytes
section
variable {H : Type} {P : Program}
theorem sz_top {ts : List TypeId} {ds : List (DataW H)} (h : (DataW.weightsEach P ts ds).all (· ≤ reachBytes) = true) (j : Nat) {t : TypeId} {d : DataW H} (ht : ts[j]? = some t) (hd : ds[j]? = some d) : Sz P t d := by
  intro n hn
  have := List.all_eq_true.1 h _ (DataW.weights_mem_each ht hd n hn)
  simpa using this
theorem sz_part {t : TypeId} {fs : Array Field} {parts : List (DataW H)} (h : Sz P t (.agg parts)) (hu : P.underlying t = some (.struct fs)) (j : Nat) {f : Field} {d : DataW H} (hf : fs[j]? = some f) (hd : parts[j]? = some d) : Sz P f.type d := by
  intro n hn
  refine h n ?_
  simp only [DataW.weights, hu]
  refine DataW.weights_mem_each (j := j) (t := f.type) ?_ hd n hn
  rw [List.getElem?_map, Array.getElem?_toList, hf]
  rfl
theorem weights_mem_all {e : TypeId} : ∀ {ds : List (DataW H)} {d : DataW H}, d ∈ ds → ∀ n ∈ d.weights P e, n ∈ DataW.weightsAll P e ds
  | d0 :: r, d, hd, n, hn => by
    simp only [DataW.weightsAll, List.mem_append]
    rcases List.mem_cons.1 hd with rfl | hd
    · exact .inl hn
    · exact .inr (weights_mem_all hd n hn)
theorem sz_elem {t e : TypeId} {elems spare : List (DataW H)} (h : Sz P t (.slice elems spare)) (hu : P.underlying t = some (.slice e)) {d : DataW H} (hd : d ∈ elems) : Sz P e d := by
  intro n hn
  refine h n ?_
  simp only [DataW.weights, hu, List.mem_cons, List.mem_append]
  exact .inr (.inl (weights_mem_all hd n hn))
theorem sz_len {t e : TypeId} {elems spare : List (DataW H)} (h : Sz P t (.slice elems spare)) (hu : P.underlying t = some (.slice e)) : (elems.length + spare.length) * P.bytesOf e ≤ reachBytes := by
  refine h _ ?_
  simp [DataW.weights, hu]
theorem open_u8 {enc : TypeId × Value → H} {W : World} {t e : TypeId} {fuel : Nat} {v : Value} {d : DataW H} {p : List MemPlace}
    (ht : P.underlying t = some (.slice e)) (he : P.underlying e = some (.int .u8)) (hc : P.cellsOf e = 1) (hby : P.bytesOf e = 1)
    (h : DataW.trod enc P W 0 (fun _ => true) true fuel t [v] = some (d, p)) (hs : Sz P t d) :
    ∃ (a : Option Addr) (cap : Nat) (xs : List Nat), v = .slice a xs.length cap ∧ Rd .u8 W a xs.length xs ∧ U8 xs ∧ xs.length ≤ cap ∧ xs.length * 1 ≤ 140737488351232 ∧ xs.length ≤ Rows.uptoBulk d := by
  rcases open_ints ht he hc h with ⟨hcs, hx⟩ | ⟨x, l, c, zs, hcs, _, hl, hm, hz, hx, hcell, hwz⟩
  · injection hcs with hcs
    exact ⟨none, 0, [], hcs, Rd.nil .., (by intro v hv; cases hv), Nat.zero_le _, by simp, Nat.zero_le _⟩
  · injection hcs with hcs
    simp only [Prod.mk.injEq] at hx
    obtain ⟨rfl, _⟩ := hx
    have hzl : zs.length = c := by simpa using hz
    have hr := sz_len hs ht
    rw [hby] at hr
    simp only [lits, List.length_map, List.length_take, List.length_drop, reachBytes] at hr
    have hw : ∀ i, i < l → 0 ≤ zs.getD i 0 ∧ zs.getD i 0 < 256 := by
      intro i hi
      have hlt : i < zs.length := by omega
      have := wf_u8 (hwz _ (List.getElem_mem hlt))
      simpa [List.getD, hlt] using this
    have hxl : ((zs.take l).map Int.toNat).length = l := by rw [List.length_map, List.length_take]; omega
    refine ⟨some x, c, (zs.take l).map Int.toNat, by rw [hxl]; exact hcs, ?_, ?_, by omega, by omega, ?_⟩
    · rw [hxl]
      refine ⟨hxl, fun hn => ?_⟩
      have hc0 := hcell 0 (by omega)
      obtain ⟨b, o, spot⟩ := x
      have hspot : spot = none := by simpa [Addr.add] using World.cell?_spot hc0
      subst hspot
      refine ⟨b, o, rfl, ?_, fun i hi => ?_⟩
      · have hb := World.block_lt_of_cell? W _ hc0
        simpa [Addr.add] using hb
      · have h1 := hcell i (by omega)
        rw [add_plain] at h1
        rw [h1]
        have h2 := (hw i hi).1
        have hlt : i < zs.length := by omega
        have h3 : (((zs.take l).map Int.toNat).getD i 0 : Nat) = (zs.getD i 0).toNat := by simp [List.getD, hi, hlt]
        rw [h3, Int.toNat_of_nonneg h2]
    · intro v hv
      obtain ⟨n, hn, rfl⟩ := List.mem_map.1 hv
      have := wf_u8 (hwz _ (List.mem_of_mem_take hn))
      omega
    · rw [hxl]
      exact bulk_len (.inr ⟨_, _, rfl, by simp [lits]; omega⟩)
end
set_option maxRecDepth 100000 in
theorem open_parts {H : Type} {enc : TypeId × Value → H} {W : World} {n0 n1 n2 : Nat} {v0 v1 v2 : Value} {y0 y1 y2 : DataW H × List MemPlace}
    (h0 : DataW.trod enc Tryz.prog W 0 (fun _ => true) true n0 4 [v0] = some y0) (h1 : DataW.trod enc Tryz.prog W 0 (fun _ => true) true n1 2 [v1] = some y1) (h2 : DataW.trod enc Tryz.prog W 0 (fun _ => true) true n2 22 [v2] = some y2) (hs : Sz Tryz.prog 22 y2.1) :
    ∃ x : Ci, Value.agg #[v0, v1, v2] = x.v ∧ v0 = .bool x.nul ∧ v1 = .int .i64 x.num ∧ v2 = .slice x.A x.txt.length x.c ∧ x.In W ∧ x.txt.length ≤ Rows.uptoBulk y2.1 := by
  obtain ⟨b, e0, _⟩ := DataW.trod_bool Tryz.underlying4 h0
  obtain ⟨k, e1, _, wk⟩ := DataW.trod_int Tryz.underlying2 h1
  obtain ⟨a, c, xs, e2, hr, hu, hl, hz, hb⟩ := open_u8 Tryz.underlying22 Tryz.underlying5 (by kernel_rfl) (by kernel_rfl) h2 hs
  injection e0 with e0
  injection e1 with e1
  have wb := wf_i64 wk
  subst e0 e1 e2
  exact ⟨⟨b, k, a, c, xs⟩, rfl, rfl, rfl, rfl, ⟨hr, hu, wb.1, wb.2, hz⟩, hb⟩
open Go.ChangeShapes Go.WideShapes Go.ChangeAt Go.RowKit Go.Deep
theorem nodes3 {H : Type} {enc : TypeId × Value → H} {P : Program} {W : World} {t : TypeId} {f0 f1 f2 : Field} {fuel : Nat} {cs : List Value} {x : DataW H × List MemPlace} (hs : P.underlying t = some (.struct #[f0, f1, f2])) (hone : oneCellFields P #[f0, f1, f2] = true) (hC : P.cellsOf t = 3)
    (h : DataW.trod enc P W 0 (fun _ => true) true fuel t cs = some x) :
    ∃ v0 v1 v2 y0 y1 y2 n, cs = [v0, v1, v2] ∧ x = (.agg [y0.1, y1.1, y2.1], y0.2 ++ (y1.2 ++ y2.2)) ∧ DataW.trod enc P W 0 (fun _ => true) true n f0.type [v0] = some y0 ∧ DataW.trod enc P W 0 (fun _ => true) true n f1.type [v1] = some y1 ∧ DataW.trod enc P W 0 (fun _ => true) true n f2.type [v2] = some y2 := by
  obtain ⟨y0, y1, y2, n, rfl, hl, h0, h1, h2⟩ := trod_struct3 hs h
  rw [hC] at hl
  match cs, hl with
  | [v0, v1, v2], _ =>
    obtain ⟨o0, k0⟩ := hone_of hone 0 f0 rfl
    obtain ⟨o1, k1⟩ := hone_of hone 1 f1 rfl
    obtain ⟨o2, k2⟩ := hone_of hone 2 f2 rfl
    exact ⟨v0, v1, v2, y0, y1, y2, n, rfl, rfl, by simpa [o0, k0] using h0, by simpa [o1, k1] using h1, by simpa [o2, k2] using h2⟩
section
variable {H : Type} {enc : TypeId × Value → H} {W : World}
theorem open_rows {t e : TypeId} {k bytes : Nat} {T : Type} {cells : T → List Value} {Q : T → DataW H → Prop} {fuel : Nat} {v : Value} {d : DataW H} {p : List MemPlace} (ht : Tryz.prog.underlying t = some (.slice e)) (hk : Tryz.prog.cellsOf e = k) (hk0 : 0 < k) (hby : Tryz.prog.bytesOf e = bytes)
    (hone : ∀ {n : Nat} {cs : List Value} {x : DataW H × List MemPlace}, DataW.trod enc Tryz.prog W 0 (fun _ => true) true n e cs = some x → Sz Tryz.prog e x.1 → ∃ c : T, cs = cells c ∧ Q c x.1)
    (h : DataW.trod enc Tryz.prog W 0 (fun _ => true) true fuel t [v] = some (d, p)) (hs : Sz Tryz.prog t d) :
    ∃ (a : Option Addr) (cap : Nat) (xs : List T), v = .slice a xs.length cap ∧ xs.length ≤ cap ∧ cap ≤ 9223372036854775807 ∧ xs.length * bytes ≤ 140737488351232 ∧ xs.length ≤ Rows.uptoBulk d ∧
      (∀ c ∈ xs, ∃ dd, Q c dd) ∧ (0 < xs.length → ∃ b o, a = some ⟨b, o, none⟩ ∧ b < W.heap.size ∧ ∀ j c, xs[j]? = some c → ∀ i u, (cells c)[i]? = some u → W.cell? ⟨b, o + j * k + i, none⟩ = some u) := by
  rcases open_slice ht h with ⟨hcs, hx⟩ | ⟨a, l, c, m, n, D, Pl, hcs, _, hl, hcm, hm, hx, hcell⟩
  · injection hcs with hcs
    exact ⟨none, 0, [], hcs, Nat.zero_le _, by decide, by simp, Nat.zero_le _, (by intro c hc; cases hc), fun hn => absurd hn (by simp)⟩
  · injection hcs with hcs
    simp only [Prod.mk.injEq] at hx
    obtain ⟨rfl, _⟩ := hx
    have hmc : m = c := by simpa using hm
    subst hmc
    have hr := sz_len hs ht
    rw [hby] at hr
    simp only [List.length_map, List.length_range, reachBytes] at hr
    have each : ∀ i, i < l → ∃ q : T, W.cells? 0 (a.add (i * k)) k = some (cells q) ∧ Q q (D i) := by
      intro i hi
      obtain ⟨cs', h1, h2⟩ := hcell i (by omega)
      rw [hk] at h1
      obtain ⟨q, e1, e2⟩ := hone h2 (sz_elem hs ht (List.mem_map.2 ⟨i, List.mem_range.2 hi, rfl⟩))
      exact ⟨q, by rw [h1, e1], e2⟩
    by_cases hl0 : l = 0
    · subst hl0
      exact ⟨some a, m, [], hcs, Nat.zero_le _, hcm, by simp, Nat.zero_le _, (by intro c hc; cases hc), fun hn => absurd hn (by simp)⟩
    · obtain ⟨q0, _⟩ := each 0 (by omega)
      have each' : ∀ i, ∃ q : T, i < l → W.cells? 0 (a.add (i * k)) k = some (cells q) ∧ Q q (D i) := by
        intro i
        by_cases hi : i < l
        · obtain ⟨q, hq⟩ := each i hi
          exact ⟨q, fun _ => hq⟩
        · exact ⟨q0, fun h => absurd h hi⟩
      obtain ⟨q, hq⟩ := Classical.axiomOfChoice each'
      have hxl : ((List.range l).map q).length = l := by simp
      refine ⟨some a, m, (List.range l).map q, by rw [hxl]; exact hcs, by rw [hxl]; exact hl, hcm, ?_, ?_, ?_, fun hn => ?_⟩
      · rw [hxl]
        have : l + (m - l) = m := by omega
        rw [this] at hr
        exact Nat.le_trans (Nat.mul_le_mul_right _ hl) hr
      · rw [hxl]
        exact bulk_len (.inr ⟨_, _, rfl, by simp⟩)
      · intro c hc
        obtain ⟨i, hi, rfl⟩ := List.mem_map.1 hc
        exact ⟨_, (hq i (List.mem_range.1 hi)).2⟩
      · obtain ⟨b, o, spot⟩ := a
        have hall : ∀ i, i < l → ∀ r u, (cells (q i))[r]? = some u → W.cell? ((⟨b, o, spot⟩ : Addr).add (i * k) |>.add r) = some u := by
          intro i hi r u hu
          obtain ⟨_, hlen, hc⟩ := World.cells?_some (hq i hi).1
          have hr := (List.getElem?_eq_some_iff.1 hu).1
          rw [hc r (by omega), hu]
        have hl1 : 0 < l := by omega
        obtain ⟨_, hlen0, hc0⟩ := World.cells?_some (hq 0 hl1).1
        have hu0 : (cells (q 0))[0]? = some (cells (q 0))[0] := List.getElem?_eq_getElem (by omega)
        have hz := hall 0 hl1 0 _ hu0
        have hspot : spot = none := by simpa [Addr.add] using World.cell?_spot hz
        subst hspot
        refine ⟨b, o, rfl, ?_, fun j c hj i u hu => ?_⟩
        · have hb := World.block_lt_of_cell? W _ hz
          simpa [Addr.add] using hb
        · rw [List.getElem?_map, Option.map_eq_some_iff] at hj
          obtain ⟨i', hi', rfl⟩ := hj
          obtain ⟨g1, g2⟩ := List.getElem?_eq_some_iff.1 hi'
          simp at g1 g2
          subst g2
          have := hall j g1 i u hu
          rwa [add_plain, add_plain] at this
end
theorem u8_cap {H : Type} {enc : TypeId × Value → H} {P : Program} {W : World} {t e : TypeId} {fuel : Nat} {a : Option Addr} {n cap : Nat} {y : DataW H × List MemPlace}
    (ht : P.underlying t = some (.slice e)) (he : P.underlying e = some (.int .u8)) (hc : P.cellsOf e = 1)
    (h : DataW.trod enc P W 0 (fun _ => true) true fuel t [.slice a n cap] = some y) : n ≤ cap ∧ cap ≤ 9223372036854775807 := by
  rcases open_ints ht he hc h with ⟨hcs, hx⟩ | ⟨x, l, c, zs, hcs, _, hl, hm, hz, hx, hcell, hwz⟩
  · simp at hcs
    obtain ⟨_, rfl, rfl⟩ := hcs
    exact ⟨Nat.le_refl _, by decide⟩
  · simp at hcs
    obtain ⟨_, rfl, rfl⟩ := hcs
    exact ⟨hl, hm⟩
section
variable {H : Type} {enc : TypeId × Value → H} {W : World}
set_option maxRecDepth 100000 in
theorem open_cell3c {fuel : Nat} {cs : List Value} {x : DataW H × List MemPlace} (h : DataW.trod enc Tryz.prog W 0 (fun _ => true) true fuel 61 cs = some x) (hs : Sz Tryz.prog 61 x.1) :
    ∃ c : Ci, cs = c.cells ∧ c.In W ∧ c.txt.length ≤ c.c ∧ c.c ≤ 9223372036854775807 := by
  obtain ⟨v0, v1, v2, y0, y1, y2, n, rfl, rfl, h0, h1, h2⟩ := nodes3 Tryz.underlying61 (by kernel_rfl) (by kernel_rfl) h
  have hs2 := sz_part hs Tryz.underlying61 2 rfl rfl
  obtain ⟨c, _, e0, e1, e2, hin, hb⟩ := open_parts h0 h1 h2 hs2
  subst e0 e1 e2
  exact ⟨c, rfl, hin, u8_cap Tryz.underlying22 Tryz.underlying5 (by kernel_rfl) h2⟩
set_option maxRecDepth 100000 in
theorem open_rowC {a : Option Addr} {len cap : Nat} {d : DataW H} {p : List MemPlace} (h : DataW.Trod enc Tryz.prog W 0 (fun _ => true) true 25 (.slice a len cap) d p) (hs : Sz Tryz.prog 25 d) :
    ∃ xs : List Ci, RdX W a len xs ∧ len * 40 ≤ 140737488351232 ∧ (∀ x ∈ xs, x.txt.length ≤ x.c ∧ x.c ≤ 9223372036854775807) ∧ len ≤ cap ∧ cap ≤ 9223372036854775807 := by
  obtain ⟨fuel, hf⟩ := h
  obtain ⟨a', cap', xs, e, h1, h2, h3, h4, h5, h6⟩ := open_rows (k := 3) (bytes := 40) (cells := Ci.cells) (Q := fun c _ => c.In W ∧ c.txt.length ≤ c.c ∧ c.c ≤ 9223372036854775807) Tryz.underlying25 (by kernel_rfl) (by decide) (by kernel_rfl) (fun h hs => open_cell3c h hs) hf hs
  injection e with e1 e2 e3
  subst e1 e2 e3
  refine ⟨xs, ⟨rfl, fun hn => ?_⟩, h3, fun x hx => (h5 x hx).elim fun _ q => q.2, h1, h2⟩
  obtain ⟨b, o, ea, hb, hc⟩ := h6 hn
  refine ⟨b, o, ea, hb, fun j x hj => ⟨?_, ?_, ?_, ?_⟩⟩
  · exact hc j x hj 0 _ rfl
  · exact hc j x hj 1 _ rfl
  · exact hc j x hj 2 _ rfl
  · obtain ⟨_, hin⟩ := h5 x (List.mem_of_getElem? hj)
    exact hin.1
end
def SzG {H : Type} (P : Program) (t : TypeId) (d : DataW H) : Prop := ∀ n ∈ d.weights P t, n ≤ reachBytes
section
variable {H : Type} {P : Program}
theorem sz_topG {ts : List TypeId} {ds : List (DataW H)} (h : (DataW.weightsEach P ts ds).all (· ≤ reachBytes) = true) (j : Nat) {t : TypeId} {d : DataW H} (ht : ts[j]? = some t) (hd : ds[j]? = some d) : SzG P t d := by
  intro n hn
  have := List.all_eq_true.1 h _ (DataW.weights_mem_each ht hd n hn)
  simpa using this
theorem weights_mem_allG {e : TypeId} : ∀ {ds : List (DataW H)} {d : DataW H}, d ∈ ds → ∀ n ∈ d.weights P e, n ∈ DataW.weightsAll P e ds
  | d0 :: r, d, hd, n, hn => by
    simp only [DataW.weightsAll, List.mem_append]
    rcases List.mem_cons.1 hd with rfl | hd
    · exact .inl hn
    · exact .inr (weights_mem_allG hd n hn)
theorem sz_elemG {t e : TypeId} {elems spare : List (DataW H)} (h : SzG P t (.slice elems spare)) (hu : P.underlying t = some (.slice e)) {d : DataW H} (hd : d ∈ elems) : SzG P e d := by
  intro n hn
  refine h n ?_
  simp only [DataW.weights, hu, List.mem_cons, List.mem_append]
  exact .inr (.inl (weights_mem_allG hd n hn))
theorem sz_lenG {t e : TypeId} {elems spare : List (DataW H)} (h : SzG P t (.slice elems spare)) (hu : P.underlying t = some (.slice e)) : (elems.length + spare.length) * P.bytesOf e ≤ reachBytes := by
  refine h _ ?_
  simp [DataW.weights, hu]
end
section
variable {H : Type} {enc : TypeId × Value → H} {W : World}
theorem open_rowsG {t e : TypeId} {k bytes : Nat} {T : Type} {cells : T → List Value} {Q : T → DataW H → Prop} {fuel : Nat} {v : Value} {d : DataW H} {p : List MemPlace} (ht : Tryz.prog.underlying t = some (.slice e)) (hk : Tryz.prog.cellsOf e = k) (hk0 : 0 < k) (hby : Tryz.prog.bytesOf e = bytes)
    (hone : ∀ {n : Nat} {cs : List Value} {x : DataW H × List MemPlace}, DataW.trod enc Tryz.prog W 0 (fun _ => true) true n e cs = some x → SzG Tryz.prog e x.1 → ∃ c : T, cs = cells c ∧ Q c x.1)
    (h : DataW.trod enc Tryz.prog W 0 (fun _ => true) true fuel t [v] = some (d, p)) (hs : SzG Tryz.prog t d) :
    ∃ (a : Option Addr) (cap : Nat) (xs : List T), v = .slice a xs.length cap ∧ xs.length ≤ cap ∧ cap ≤ 9223372036854775807 ∧ xs.length * bytes ≤ 140737488351232 ∧ xs.length ≤ Rows.uptoBulk d ∧
      (∀ c ∈ xs, ∃ dd, Q c dd) ∧ (0 < xs.length → ∃ b o, a = some ⟨b, o, none⟩ ∧ b < W.heap.size ∧ ∀ j c, xs[j]? = some c → ∀ i u, (cells c)[i]? = some u → W.cell? ⟨b, o + j * k + i, none⟩ = some u) := by
  rcases open_slice ht h with ⟨hcs, hx⟩ | ⟨a, l, c, m, n, D, Pl, hcs, _, hl, hcm, hm, hx, hcell⟩
  · injection hcs with hcs
    exact ⟨none, 0, [], hcs, Nat.zero_le _, by decide, by simp, Nat.zero_le _, (by intro c hc; cases hc), fun hn => absurd hn (by simp)⟩
  · injection hcs with hcs
    simp only [Prod.mk.injEq] at hx
    obtain ⟨rfl, _⟩ := hx
    have hmc : m = c := by simpa using hm
    subst hmc
    have hr := sz_lenG hs ht
    rw [hby] at hr
    simp only [List.length_map, List.length_range, reachBytes] at hr
    have each : ∀ i, i < l → ∃ q : T, W.cells? 0 (a.add (i * k)) k = some (cells q) ∧ Q q (D i) := by
      intro i hi
      obtain ⟨cs', h1, h2⟩ := hcell i (by omega)
      rw [hk] at h1
      obtain ⟨q, e1, e2⟩ := hone h2 (sz_elemG hs ht (List.mem_map.2 ⟨i, List.mem_range.2 hi, rfl⟩))
      exact ⟨q, by rw [h1, e1], e2⟩
    by_cases hl0 : l = 0
    · subst hl0
      exact ⟨some a, m, [], hcs, Nat.zero_le _, hcm, by simp, Nat.zero_le _, (by intro c hc; cases hc), fun hn => absurd hn (by simp)⟩
    · obtain ⟨q0, _⟩ := each 0 (by omega)
      have each' : ∀ i, ∃ q : T, i < l → W.cells? 0 (a.add (i * k)) k = some (cells q) ∧ Q q (D i) := by
        intro i
        by_cases hi : i < l
        · obtain ⟨q, hq⟩ := each i hi
          exact ⟨q, fun _ => hq⟩
        · exact ⟨q0, fun h => absurd h hi⟩
      obtain ⟨q, hq⟩ := Classical.axiomOfChoice each'
      have hxl : ((List.range l).map q).length = l := by simp
      refine ⟨some a, m, (List.range l).map q, by rw [hxl]; exact hcs, by rw [hxl]; exact hl, hcm, ?_, ?_, ?_, fun hn => ?_⟩
      · rw [hxl]
        have : l + (m - l) = m := by omega
        rw [this] at hr
        exact Nat.le_trans (Nat.mul_le_mul_right _ hl) hr
      · rw [hxl]
        exact bulk_len (.inr ⟨_, _, rfl, by simp⟩)
      · intro c hc
        obtain ⟨i, hi, rfl⟩ := List.mem_map.1 hc
        exact ⟨_, (hq i (List.mem_range.1 hi)).2⟩
      · obtain ⟨b, o, spot⟩ := a
        have hall : ∀ i, i < l → ∀ r u, (cells (q i))[r]? = some u → W.cell? ((⟨b, o, spot⟩ : Addr).add (i * k) |>.add r) = some u := by
          intro i hi r u hu
          obtain ⟨_, hlen, hc⟩ := World.cells?_some (hq i hi).1
          have hr := (List.getElem?_eq_some_iff.1 hu).1
          rw [hc r (by omega), hu]
        have hl1 : 0 < l := by omega
        obtain ⟨_, hlen0, hc0⟩ := World.cells?_some (hq 0 hl1).1
        have hu0 : (cells (q 0))[0]? = some (cells (q 0))[0] := List.getElem?_eq_getElem (by omega)
        have hz := hall 0 hl1 0 _ hu0
        have hspot : spot = none := by simpa [Addr.add] using World.cell?_spot hz
        subst hspot
        refine ⟨b, o, rfl, ?_, fun j c hj i u hu => ?_⟩
        · have hb := World.block_lt_of_cell? W _ hz
          simpa [Addr.add] using hb
        · rw [List.getElem?_map, Option.map_eq_some_iff] at hj
          obtain ⟨i', hi', rfl⟩ := hj
          obtain ⟨g1, g2⟩ := List.getElem?_eq_some_iff.1 hi'
          simp at g1 g2
          subst g2
          have := hall j g1 i u hu
          rwa [add_plain, add_plain] at this
end
section
variable {H : Type} {enc : TypeId × Value → H} {W : World}
theorem open_textL {fuel : Nat} {cs : List Value} {d : DataW H} {p : List MemPlace}
    (h : DataW.trod enc Tryz.prog W 0 (fun _ => true) true fuel 22 cs = some (d, p)) (hs : SzG Tryz.prog 22 d) : ∃ s : Sl, cs = [s.v] ∧ TxI W s ∧ s.body.length ≤ 140737488351232 := by
  have ht : Tryz.prog.underlying 22 = some (.slice 5) := Tryz.underlying22
  have he : Tryz.prog.underlying 5 = some (.int .u8) := Tryz.underlying5
  have hc : Tryz.prog.cellsOf 5 = 1 := by kernel_rfl
  have hby : Tryz.prog.bytesOf 5 = 1 := by kernel_rfl
  rcases open_ints ht he hc h with ⟨hcs, hx⟩ | ⟨x, l, c, zs, hcs, _, hl, hm, hz, hx, hcell, hwz⟩
  · exact ⟨⟨none, 0, []⟩, hcs, ⟨Rd.nil .., (by intro v hv; cases hv), Nat.zero_le _, by decide, by decide⟩, by decide⟩
  · simp only [Prod.mk.injEq] at hx
    obtain ⟨rfl, _⟩ := hx
    have hzl : zs.length = c := by simpa using hz
    have hr := sz_lenG hs ht
    rw [hby] at hr
    simp only [lits, List.length_map, List.length_take, List.length_drop, reachBytes] at hr
    have hw : ∀ i, i < l → 0 ≤ zs.getD i 0 ∧ zs.getD i 0 < 256 := by
      intro i hi
      have hlt : i < zs.length := by omega
      have := wf_u8 (hwz _ (List.getElem_mem hlt))
      simpa [List.getD, hlt] using this
    have hxl : ((zs.take l).map Int.toNat).length = l := by rw [List.length_map, List.length_take]; omega
    have hm2 : c ≤ 9223372036854775807 := by simpa [maxLen] using hm
    refine ⟨⟨some x, c, (zs.take l).map Int.toNat⟩, by rw [hcs, Sl.v, hxl], ⟨?_, ?_, by rw [hxl]; exact hl, hm2, by rw [hxl]; omega⟩, by rw [hxl]; omega⟩
    · rw [hxl]
      refine ⟨hxl, fun hn => ?_⟩
      have hc0 := hcell 0 (by omega)
      obtain ⟨b, o, spot⟩ := x
      have hspot : spot = none := by simpa [Addr.add] using World.cell?_spot hc0
      subst hspot
      refine ⟨b, o, rfl, ?_, fun i hi => ?_⟩
      · have hb := World.block_lt_of_cell? W _ hc0
        simpa [Addr.add] using hb
      · have h1 := hcell i (by omega)
        rw [add_plain] at h1
        rw [h1]
        have h2 := (hw i hi).1
        have hlt : i < zs.length := by omega
        have h3 : (((zs.take l).map Int.toNat).getD i 0 : Nat) = (zs.getD i 0).toNat := by simp [List.getD, hi, hlt]
        rw [h3, Int.toNat_of_nonneg h2]
    · intro v hv
      obtain ⟨n, hn, rfl⟩ := List.mem_map.1 hv
      have := wf_u8 (hwz _ (List.mem_of_mem_take hn))
      omega
set_option maxRecDepth 100000 in
theorem open_textsL {a : Option Addr} {len cap : Nat} {d : DataW H} {p : List MemPlace} (h : DataW.Trod enc Tryz.prog W 0 (fun _ => true) true 33 (.slice a len cap) d p) (hs : SzG Tryz.prog 33 d) :
    ∃ ss : List Sl, TxL W a len ss ∧ len * 24 ≤ 140737488351232 ∧ len ≤ Rows.uptoBulk d ∧ (∀ s ∈ ss, s.body.length ≤ 140737488351232) := by
  obtain ⟨fuel, hf⟩ := h
  obtain ⟨a', cap', xs, e, h1, h2, h3, h4, h5, h6⟩ := open_rowsG (k := 1) (bytes := 24) (cells := shS.cells) (Q := fun s _ => TxI W s ∧ s.body.length ≤ 140737488351232) (v := .slice a len cap) Tryz.underlying33 (by kernel_rfl) (by decide) (by kernel_rfl) (fun h hs => open_textL h hs) hf hs
  injection e with e1 e2 e3
  subst e1 e2 e3
  exact ⟨xs, ⟨RdG.rdL ⟨rfl, h6⟩, fun s hs => (h5 s hs).elim fun _ h => h.1⟩, h3, h4, fun s hs => (h5 s hs).elim fun _ h => h.2⟩
end
def cb (s : Nat) : Nat := if s % 2 = 1 then s / 2 ^^^ 2197175160 else s / 2
def cN : Nat → Nat → Nat
  | 0, s => s
  | k + 1, s => cN k (cb s)
theorem cb_odd {s : Nat} (h : s % 2 = 1) : cb s = s / 2 ^^^ 2197175160 := by simp [cb, h]
theorem cb_even {s : Nat} (h : s % 2 = 0) : cb s = s / 2 := by simp [cb, h]
theorem xor4 (a b c d : Nat) : (a ^^^ b) ^^^ (c ^^^ d) = (a ^^^ c) ^^^ (b ^^^ d) := by
  rw [Nat.xor_assoc, Nat.xor_assoc, ← Nat.xor_assoc b, Nat.xor_comm b c, Nat.xor_assoc c]
theorem xor_can (a b : Nat) : (a ^^^ b) ^^^ b = a := by rw [Nat.xor_assoc, Nat.xor_self, Nat.xor_zero]
theorem xor_half (a b : Nat) : (a ^^^ b) / 2 = a / 2 ^^^ b / 2 := Nat.xor_div_two_pow (n := 1)
theorem xor_par (a b : Nat) : (a ^^^ b) % 2 = (a % 2 ^^^ b % 2) := by have := Nat.xor_mod_two_pow (a := a) (b := b) (n := 1); simpa using this
theorem cb_xor (a b : Nat) : cb (a ^^^ b) = cb a ^^^ cb b := by
  have hp := xor_par a b
  have hh := xor_half a b
  rcases Nat.mod_two_eq_zero_or_one a with h1 | h1 <;> rcases Nat.mod_two_eq_zero_or_one b with h2 | h2 <;> rw [h1, h2] at hp
  · rw [cb_even hp, cb_even h1, cb_even h2, hh]
  · rw [cb_odd hp, cb_even h1, cb_odd h2, hh, Nat.xor_assoc]
  · rw [cb_odd hp, cb_odd h1, cb_even h2, hh, Nat.xor_assoc, Nat.xor_assoc, Nat.xor_comm (b / 2)]
  · rw [cb_even hp, cb_odd h1, cb_odd h2, hh, xor4, Nat.xor_self, Nat.xor_zero]
theorem cN_xor (k a b : Nat) : cN k (a ^^^ b) = cN k a ^^^ cN k b := by
  induction k generalizing a b with
  | zero => rfl
  | succ k ih => simp only [cN]; rw [cb_xor, ih]
theorem cb_dbl (x : Nat) : cb (2 * x) = x := by rw [cb_even (by omega)]; omega
theorem cN_shift (k x : Nat) : cN k (2 ^ k * x) = x := by
  induction k with
  | zero => simp [cN]
  | succ k ih => rw [cN, Nat.pow_succ, Nat.mul_comm (2 ^ k) 2, Nat.mul_assoc, cb_dbl, ih]
theorem cN_add (j k s : Nat) : cN (j + k) s = cN k (cN j s) := by
  induction j generalizing s with
  | zero => simp [cN]
  | succ j ih => rw [Nat.succ_add, cN, ih, cN]
theorem cN_succ (k s : Nat) : cN (k + 1) s = cb (cN k s) := by rw [cN_add]; rfl
theorem cb_lt {s : Nat} (h : s < 4294967296) : cb s < 4294967296 := by
  unfold cb
  split
  · exact Nat.xor_lt_two_pow (n := 32) (by omega) (by omega)
  · omega
theorem cN_lt (k : Nat) {s : Nat} (h : s < 4294967296) : cN k s < 4294967296 := by
  induction k generalizing s with
  | zero => exact h
  | succ k ih => exact ih (cb_lt h)
theorem xor_lt32 {a b : Nat} (ha : a < 4294967296) (hb : b < 4294967296) : a ^^^ b < 4294967296 := Nat.xor_lt_two_pow (n := 32) ha hb
theorem lowhigh {w v x : Nat} (h : v < 2 ^ w) : v + 2 ^ w * x = v ^^^ 2 ^ w * x := by
  have h1 : (v ^^^ 2 ^ w * x) % 2 ^ w = v := by rw [Nat.xor_mod_two_pow, Nat.mul_mod_right, Nat.xor_zero, Nat.mod_eq_of_lt h]
  have h2 : (v ^^^ 2 ^ w * x) / 2 ^ w = x := by rw [Nat.xor_div_two_pow, Nat.div_eq_of_lt h, Nat.zero_xor, Nat.mul_div_cancel_left _ (Nat.two_pow_pos w)]
  have := Nat.mod_add_div (v ^^^ 2 ^ w * x) (2 ^ w)
  rw [h1, h2] at this
  exact this
def creg (s : Nat) (bs : List Nat) : Nat := cN (8 * bs.length) (s ^^^ pk 8 bs)
theorem creg_nil (s : Nat) : creg s [] = s := by simp [creg, pk, cN]
theorem creg_cons (s : Nat) {v : Nat} {r : List Nat} (hv : v < 256) : creg s (v :: r) = creg (cN 8 (s ^^^ v)) r := by
  unfold creg
  rw [List.length_cons, Nat.mul_succ, Nat.add_comm, cN_add, pk, lowhigh (w := 8) (by simpa using hv), ← Nat.xor_assoc, cN_xor 8, cN_shift]
theorem creg_append {a : List Nat} (ha : U8 a) (s : Nat) (b : List Nat) : creg s (a ++ b) = creg (creg s a) b := by
  induction a generalizing s with
  | nil => rw [creg_nil]; rfl
  | cons v r ih =>
    have hv : v < 256 := ha v List.mem_cons_self
    rw [List.cons_append, creg_cons s hv, creg_cons s hv, ih (fun x hx => ha x (List.mem_cons_of_mem _ hx))]
theorem creg_snoc {a : List Nat} (ha : U8 a) (s : Nat) {v : Nat} (hv : v < 256) : creg s (a ++ [v]) = cN 8 (creg s a ^^^ v) := by
  rw [creg_append ha, creg_cons _ hv, creg_nil]
theorem creg_lt {a : List Nat} (ha : U8 a) {s : Nat} (hs : s < 4294967296) : creg s a < 4294967296 := by
  induction a generalizing s with
  | nil => rw [creg_nil]; exact hs
  | cons v r ih =>
    have hv : v < 256 := ha v List.mem_cons_self
    rw [creg_cons s hv]
    exact ih (fun x hx => ha x (List.mem_cons_of_mem _ hx)) (cN_lt 8 (xor_lt32 hs (by omega)))
def crc (bs : List Nat) : Nat := creg 4294967295 bs ^^^ 4294967295
theorem crc_lt {a : List Nat} (ha : U8 a) : crc a < 4294967296 := xor_lt32 (creg_lt ha (by decide)) (by decide)
theorem crc_nil : crc [] = 0 := by rw [crc, creg_nil, Nat.xor_self]
theorem crc_reg (a : List Nat) : crc a ^^^ 4294967295 = creg 4294967295 a := by rw [crc, xor_can]
def sld (bs : List Nat) : Prop := 4 ≤ bs.length ∧ pk 8 (bs.drop (bs.length - 4)) = crc (bs.take (bs.length - 4))
instance (bs : List Nat) : Decidable (sld bs) := by unfold sld; infer_instance
theorem u8_append {a b : List Nat} (h : U8 a) (k : U8 b) : U8 (a ++ b) := fun v hv => (List.mem_append.1 hv).elim (h v) (k v)
theorem sld_split {t q : List Nat} (hq : q.length = 4) : sld (t ++ q) ↔ pk 8 q = crc t := by
  unfold sld
  rw [List.length_append, hq, Nat.add_sub_cancel, List.drop_left, List.take_left]
  exact ⟨fun h => h.2, fun h => ⟨by omega, h⟩⟩
theorem sld_seal {t : List Nat} (ht : U8 t) : sld (t ++ upk 8 4 (crc t)) := by
  rw [sld_split (upk_len 8 4 _), pk_upk]
  exact Nat.mod_eq_of_lt (crc_lt ht)
def ext (s : Nat) (b : List Nat) : Nat := creg (s ^^^ 4294967295) b ^^^ 4294967295
theorem ext_crc {a : List Nat} (ha : U8 a) (b : List Nat) : ext (crc a) b = crc (a ++ b) := by rw [ext, crc_reg, ← creg_append ha]; rfl
theorem moved_bits {r : Nat} (hr : r < 4294967296) : bits .xor .u32 ((r : Int) / 2) (bits .and .u32 2197175160 (IntKind.u32.wrap (-(bits .and .u32 (r : Int) 1)))) = ((cb r : Nat) : Int) := by
  have h1 : bits .and .u32 (r : Int) 1 = ((r % 2 : Nat) : Int) := by
    rw [show (1 : Int) = ((1 : Nat) : Int) from rfl, u32_and_nat _ _ hr (by decide), Nat.and_one_is_mod]
  rw [h1, show (r : Int) / 2 = ((r / 2 : Nat) : Int) from rfl]
  rcases Nat.mod_two_eq_zero_or_one r with h | h
  · rw [h, cb_even h, show IntKind.u32.wrap (-((0 : Nat) : Int)) = ((0 : Nat) : Int) from by decide, show (2197175160 : Int) = ((2197175160 : Nat) : Int) from rfl, u32_and_nat _ _ (by decide) (by decide), Nat.and_zero, u32_xor_nat _ _ (by omega) (by decide), Nat.xor_zero]
  · rw [h, cb_odd h, show IntKind.u32.wrap (-((1 : Nat) : Int)) = ((4294967295 : Nat) : Int) from by decide, show (2197175160 : Int) = ((2197175160 : Nat) : Int) from rfl, u32_and_nat _ _ (by decide) (by decide), show 2197175160 &&& 4294967295 = 2197175160 from by decide, u32_xor_nat _ _ (by omega) (by decide)]
theorem not_bits {s : Nat} (hs : s < 4294967296) : bits .xor .u32 IntKind.u32.max (s : Int) = ((s ^^^ 4294967295 : Nat) : Int) := by
  rw [show IntKind.u32.max = ((4294967295 : Nat) : Int) from rfl, u32_xor_nat _ _ (by decide) hs, Nat.xor_comm]
open Go.RowKit
set_option maxRecDepth 100000
theorem ret_int' {k : IntKind} {a b : Int} (h : a = b) : Ending.returned (.int k a) = .returned (.int k b) := by rw [h]
theorem step_bits {s : Nat} (hs : s < 4294967296) : bits .xor .u32 ((s : Int) / 2) 2197175160 = ((s / 2 ^^^ 2197175160 : Nat) : Int) := by
  rw [show (s : Int) / 2 = ((s / 2 : Nat) : Int) from rfl, show (2197175160 : Int) = ((2197175160 : Nat) : Int) from rfl, u32_xor_nat _ _ (by omega) (by omega)]
set_option maxHeartbeats 400000 in
theorem refSum_any (A : Option Addr) (n c : Nat) (bs : List Nat) (w : World) (hx : Rd .u8 w A n bs) (hu : U8 bs) (hn : n ≤ 180000000000000) :
    Calls Tryz.prog 73 #[.slice A n c] w fun e w' => e = .returned (.int .u32 (crc bs : Nat)) ∧ w = w' := by
  have hl := hx.len
  obtain ⟨M, hM⟩ : ∃ M : Nat, M = 4294967295 := ⟨_, rfl⟩
  have hfin : crc bs = creg M bs ^^^ M := by rw [hM]; rfl
  have hMl : M < 4294967296 := by omega
  have Hl := Lib.hid hl
  have Hf := Lib.hid hfin
  clear hl hfin
  go_enter Tryz.func73, Tryz.ntmps73
  go_wp2
  go_loop [3, 4, 5] (fun s i _ => ∃ j : Nat, j ≤ n ∧ i = .int .i64 j ∧ s = .int .u32 (creg M (bs.take j) : Nat)) (fun _ i _ => n - (intOf i).toNat)
  case atStart => exact ⟨0, Nat.zero_le _, rfl, by rw [hM, List.take_zero, creg_nil]; rfl⟩
  case round =>
    obtain ⟨j, hj, rfl, rfl⟩ := hrel
    have hR : creg M (bs.take j) < 4294967296 := creg_lt (u8_take hu j) hMl
    by_cases hlt : j < n
    · obtain ⟨b, o, rfl, hbl, hc⟩ := hx.at_ hlt
      have hv := hu.at_ j
      have hnext : creg M (bs.take (j + 1)) = cN 8 (creg M (bs.take j) ^^^ bs.getD j 0) := by
        rw [take_next _ _ (by have := Hl.out; omega), creg_snoc (u8_take hu j) _ hv]
      obtain ⟨x, hx'⟩ : ∃ x, x = bs.getD j 0 := ⟨_, rfl⟩
      obtain ⟨R, hR'⟩ : ∃ R, R = creg M (bs.take j) := ⟨_, rfl⟩
      rw [← hx'] at hc hv hnext
      rw [← hR'] at hR hnext ⊢
      have hxo : bits .xor .u32 (R : Int) (x : Int) = ((R ^^^ x : Nat) : Int) := u32_xor_nat _ _ hR (by omega)
      have hlt2 : R ^^^ x < 4294967296 := xor_lt32 hR (by omega)
      obtain ⟨T, hT⟩ : ∃ T, T = R ^^^ x := ⟨_, rfl⟩
      rw [← hT] at hxo hlt2 hnext
      have Hn := Lib.hid hnext
      clear hnext hT hR' hx'
      go_wp2
      go_loop [3, 5] (fun s k => ∃ t : Nat, t ≤ 8 ∧ k = .int .i64 t ∧ s = .int .u32 (cN t T : Nat)) (fun _ k => 8 - (intOf k).toNat)
      case atStart => exact ⟨0, by omega, rfl, rfl⟩
      case round =>
        obtain ⟨t, ht, rfl, rfl⟩ := hrel
        have hS := cN_lt t hlt2
        have hN := cN_succ t T
        obtain ⟨S, hS'⟩ : ∃ S, S = cN t T := ⟨_, rfl⟩
        rw [← hS'] at hS hN ⊢
        have HS := Lib.hid hS'
        clear hS'
        by_cases ht8 : t < 8
        · have hst := step_bits hS
          by_cases hodd : S % 2 = 1
          · rw [cb_odd hodd] at hN
            have HN := Lib.hid hN
            clear hN
            go_wp2
            go_round
            case rel => exact ⟨t + 1, by omega, by go_num, by rw [HN.out]⟩
            case measure => simp [intOf]; omega
          · rw [cb_even (by omega)] at hN
            have HN := Lib.hid hN
            clear hN
            go_wp2
            go_round
            case rel => exact ⟨t + 1, by omega, by go_num, by rw [HN.out]; go_num⟩
            case measure => simp [intOf]; omega
        · obtain rfl : t = 8 := by omega
          go_wp2
          go_round
          case rel => exact ⟨j + 1, by omega, by go_num, by rw [Hn.out, HS.out]⟩
          case measure => simp [intOf]; omega
    · obtain rfl : j = n := by omega
      rw [List.take_of_length_le (Nat.le_of_eq Hl.out)] at hR ⊢
      have hxo : bits .xor .u32 (creg M bs : Int) (M : Int) = ((creg M bs ^^^ M : Nat) : Int) := u32_xor_nat _ _ hR hMl
      rw [← Hf.out, hM] at hxo
      rw [hM]
      go_wp2
      go_ret
      exact ⟨ret_int' hxo, rfl⟩
set_option maxHeartbeats 400000 in
theorem low_any (v m : Nat) (w : World) (hv : v < 18446744073709551616) (hm : m ≤ 64) :
    Calls Tryz.prog 72 #[.int .u64 v, .int .i64 m] w fun e w' => ∃ A' c', e = .returned (.slice A' m c') ∧ Own .u8 5 w' w.heap.size A' c' (upk 8 m v) ∧ Ext w w' := by
  have Hs := Lib.hid (fun j => upk_snoc 8 j v)
  have Hv := Lib.hid hv
  clear hv
  go_enter Tryz.func72, Tryz.ntmps72
  go_wp2
  go_loopw [0, 5, 6] (fun y o i wr => ∃ (j : Nat) (A' : Option Addr) (c' : Nat), j ≤ m ∧ i = .int .i64 j ∧ y = .int .u64 (v / 2 ^ (8 * j) : Nat) ∧ o = .slice A' j c' ∧ Own .u8 5 wr w.heap.size A' c' (upk 8 j v) ∧ Below w.heap.size w wr) (fun _ _ i _ => m - (intOf i).toNat)
  case atStart => exact ⟨0, _, _, Nat.zero_le _, rfl, by rw [Nat.mul_zero, Nat.pow_zero, Nat.div_one], rfl, Own.made _ _ _ (Nat.le_refl _), (Ext.refl w).alloc _⟩
  case round =>
    obtain ⟨j, A', c', hj, rfl, rfl, rfl, hown, hb⟩ := hrel
    have hz := hb.size
    have hs := Hs.out j
    have hd : v / 2 ^ (8 * (j + 1)) = v / 2 ^ (8 * j) / 256 := by rw [Nat.mul_succ, Nat.pow_add, Nat.div_div_eq_div_mul]
    have hy : v / 2 ^ (8 * j) < 18446744073709551616 := Nat.lt_of_le_of_lt (Nat.div_le_self _ _) Hv.out
    obtain ⟨y, hy'⟩ : ∃ y, y = v / 2 ^ (8 * j) := ⟨_, rfl⟩
    rw [← hy'] at hs hd hy ⊢
    have HS := Lib.hid hs
    have HD := Lib.hid hd
    have Htl := Lib.hid (upk_len 8 j v)
    clear hs hd hy'
    by_cases hlt : j < m
    · have hmm : IntKind.u8.wrap ((y : Int) % 256) = (y : Int) % 256 := IntWalk.u8_in _ (by omega)
      go_wp2_with (at_builtin; refine wpList_push .u8 (y % 2 ^ 8) 5 rfl _ _ 22 rfl _ 1 Tryz.underlying22 Tryz.infoU8 rfl hown j Htl.out rfl rfl (by omega) (by omega) (by omega) hb hz ?_; intro A1 c1 w1 hown1 hb1 hz1)
      go_roundw
      case rel => exact ⟨j + 1, A1, c1, by omega, by go_num, by rw [HD.out]; go_num, rfl, by rw [HS.out]; exact hown1, hb1⟩
      case measure => simp [intOf]; omega
    · obtain rfl : j = m := by omega
      go_wp2
      go_ret
      exact ⟨_, _, rfl, hown, hb⟩
theorem moved_any (r : Nat) (w : World) (hr : r < 4294967296) :
    Calls Tryz.prog 153 #[.int .u32 (r : Int)] w fun e w' => e = .returned (.int .u32 (cb r : Nat)) ∧ w = w' := by
  have H := Lib.hid (moved_bits hr)
  go_enter Tryz.func153, Tryz.ntmps153
  go_wp2
  go_ret
  exact ⟨ret_int' H.out, rfl⟩
set_option maxHeartbeats 400000 in
theorem extend_any (s : Nat) (A : Option Addr) (n c : Nat) (bs : List Nat) (w : World) (hs : s < 4294967296) (hx : Rd .u8 w A n bs) (hu : U8 bs) (hn : n ≤ 180000000000000) :
    Calls Tryz.prog 117 #[.int .u32 (s : Int), .slice A n c] w fun e w' => e = .returned (.int .u32 (ext s bs : Nat)) ∧ w = w' := by
  have hl := hx.len
  have hno := not_bits hs
  obtain ⟨M, hM⟩ : ∃ M : Nat, M = s ^^^ 4294967295 := ⟨_, rfl⟩
  rw [← hM] at hno
  have hfin : ext s bs = creg M bs ^^^ 4294967295 := by rw [hM]; rfl
  have hMl : M < 4294967296 := by rw [hM]; exact xor_lt32 hs (by decide)
  have Hl := Lib.hid hl
  have Hf := Lib.hid hfin
  clear hl hfin hM
  go_enter Tryz.func117, Tryz.ntmps117
  go_wp2
  go_loop [5, 7, 12] (fun s _ i => ∃ j : Nat, j ≤ n ∧ i = .int .i64 j ∧ s = .int .u32 (creg M (bs.take j) : Nat)) (fun _ _ i => n - (intOf i).toNat)
  case atStart => exact ⟨0, Nat.zero_le _, rfl, by rw [List.take_zero, creg_nil]⟩
  case round =>
    clear hno
    obtain ⟨j, hj, rfl, rfl⟩ := hrel
    have hR : creg M (bs.take j) < 4294967296 := creg_lt (u8_take hu j) hMl
    by_cases hlt : j < n
    · obtain ⟨b, o, rfl, hbl, hc⟩ := hx.at_ hlt
      have hv := hu.at_ j
      have hnext : creg M (bs.take (j + 1)) = cN 8 (creg M (bs.take j) ^^^ bs.getD j 0) := by
        rw [take_next _ _ (by have := Hl.out; omega), creg_snoc (u8_take hu j) _ hv]
      obtain ⟨x, hx'⟩ : ∃ x, x = bs.getD j 0 := ⟨_, rfl⟩
      obtain ⟨R, hR'⟩ : ∃ R, R = creg M (bs.take j) := ⟨_, rfl⟩
      rw [← hx'] at hc hv hnext
      rw [← hR'] at hR hnext ⊢
      have hxo : bits .xor .u32 (R : Int) (x : Int) = ((R ^^^ x : Nat) : Int) := u32_xor_nat _ _ hR (by omega)
      have hlt2 : R ^^^ x < 4294967296 := xor_lt32 hR (by omega)
      obtain ⟨T, hT⟩ : ∃ T, T = R ^^^ x := ⟨_, rfl⟩
      rw [← hT] at hxo hlt2 hnext
      have Hn := Lib.hid hnext
      clear hnext hT hR' hx'
      go_wp2
      go_loop [5, 20] (fun s k => ∃ t : Nat, t ≤ 8 ∧ k = .int .i64 t ∧ s = .int .u32 (cN t T : Nat)) (fun _ k => 8 - (intOf k).toNat)
      case atStart => exact ⟨0, by omega, rfl, rfl⟩
      case round =>
        obtain ⟨t, ht, rfl, rfl⟩ := hrel
        have hS := cN_lt t hlt2
        have hN := cN_succ t T
        obtain ⟨S, hS'⟩ : ∃ S, S = cN t T := ⟨_, rfl⟩
        rw [← hS'] at hS hN ⊢
        have HS := Lib.hid hS'
        have HN := Lib.hid hN
        clear hS' hN
        by_cases ht8 : t < 8
        · go_wp2_with fail
          refine (moved_any S _ hS).mono ?_
          rintro e w1 ⟨rfl, rfl⟩
          go_wp2_with fail
          go_round
          case rel => exact ⟨t + 1, by omega, by go_num, by rw [HN.out]⟩
          case measure => simp [intOf]; omega
        · obtain rfl : t = 8 := by omega
          go_wp2
          go_round
          case rel => exact ⟨j + 1, by omega, by go_num, by rw [Hn.out, HS.out]⟩
          case measure => simp [intOf]; omega
    · obtain rfl : j = n := by omega
      rw [List.take_of_length_le (Nat.le_of_eq Hl.out)] at hR ⊢
      have hxo := not_bits hR
      rw [← Hf.out] at hxo
      have Hxo := Lib.hid hxo
      clear hxo
      go_wp2
      go_ret
      exact ⟨ret_int' Hxo.out, rfl⟩
set_option maxHeartbeats 400000 in
theorem sum_any (A : Option Addr) (n c : Nat) (xss : List (List Nat)) (w : World) (hx : RdSS w A n xss) (hu : U8s xss) (hn : ∀ xs ∈ xss, xs.length ≤ 180000000000000) (hm : n ≤ 180000000000000) :
    Calls Tryz.prog 76 #[.slice A n c] w fun e w' => e = .returned (.int .u32 (crc xss.flatten : Nat)) ∧ w = w' := by
  have Hl := Lib.hid hx.len
  go_enter Tryz.func76, Tryz.ntmps76
  go_wp2
  go_loop [3, 5, 8] (fun s _ i => ∃ j : Nat, j ≤ n ∧ i = .int .i64 j ∧ s = .int .u32 (crc (cat xss j) : Nat)) (fun _ _ i => n - (intOf i).toNat)
  case atStart => exact ⟨0, Nat.zero_le _, rfl, by rw [cat_zero, crc_nil]; rfl⟩
  case round =>
    obtain ⟨j, hj, rfl, rfl⟩ := hrel
    have hR : crc (cat xss j) < 4294967296 := crc_lt (hu.cat j)
    by_cases hlt : j < n
    · obtain ⟨b, o, a, m, c2, rfl, hbl, hc, hrd⟩ := hx.at_ hlt
      have hjl : j < xss.length := by have := Hl.out; omega
      have hnext : ext (crc (cat xss j)) (xss.getD j []) = crc (cat xss (j + 1)) := by rw [ext_crc (hu.cat j), cat_succ hjl]
      have hle : m ≤ 180000000000000 := by
        have h1 := hn _ (List.getElem_mem hjl)
        have h2 := hrd.len
        rw [show xss.getD j [] = xss[j] from by simp [List.getD, hjl]] at h2
        omega
      have huj := hu.at_ j
      obtain ⟨R, hR'⟩ : ∃ R, R = crc (cat xss j) := ⟨_, rfl⟩
      obtain ⟨ys, hys⟩ : ∃ ys, ys = xss.getD j [] := ⟨_, rfl⟩
      rw [← hR'] at hR hnext ⊢
      rw [← hys] at hnext hrd huj
      have Hn := Lib.hid hnext
      clear hnext hR' hys
      go_wp2_with fail
      refine (extend_any R _ _ _ _ _ hR hrd huj hle).mono ?_
      rintro e w1 ⟨rfl, rfl⟩
      go_wp2_with fail
      go_round
      case rel => exact ⟨j + 1, by omega, by go_num, by rw [Hn.out]⟩
      case measure => simp [intOf]; omega
    · obtain rfl : j = n := by omega
      have hfin : cat xss j = xss.flatten := by rw [← cat_all]; rw [Hl.out]
      rw [hfin] at hR ⊢
      clear hfin
      go_wp2
      go_ret
      exact ⟨rfl, rfl⟩
set_option maxRecDepth 100000 in
theorem grow_any (n : Nat) (w : World) (hn : n ≤ 180000000000000) :
    Calls Tryz.prog 149 #[.slice none 0 0, .int .i64 (n : Int)] w fun e w' => ∃ A' c', e = .returned (.slice A' 0 c') ∧ Own .u8 5 w' w.heap.size A' c' [] ∧ Ext w w' := by
  obtain ⟨i, hi0, hz, hsz, hbs⟩ := info_parts Tryz.infoU8
  have hG0 : 0 ≤ grownCap w n 0 5 := Nat.zero_le _
  by_cases h0 : 0 < n
  · have hrz : ∀ ty, (Builtin.append_ #[22, 3] ty #[.slice none 0 0, .int .i64 (n : Int)]).run Tryz.prog w = .ok (.slice (some ⟨w.heap.size, 0, none⟩) n (grownCap w n 0 5)) (w.drew.alloc (.cells (Builtin.zeroCells (Value.int .u8 0).cells n ++ Builtin.zeroCells (Value.int .u8 0).cells (grownCap w n 0 5 - n)) 5)) :=
      fun ty => Lib.run_append_nil_zeros w 22 3 ty 5 i _ .i64 .i64 Tryz.underlying22 Tryz.underlying3 hi0 hz n h0 (by omega) (by omega) (by rw [hbs]; omega)
    have hge := grownCap_ge w n 0 5
    have hle := grownCap_le_maxLen w n 0 5 (by unfold maxLen; omega)
    obtain ⟨G, hG⟩ : ∃ G, G = grownCap w n 0 5 := ⟨_, rfl⟩
    rw [← hG] at hrz hge hle
    have hle2 : G ≤ 9223372036854775807 := by simpa [maxLen] using hle
    clear hG
    have hown : Own .u8 5 (w.drew.alloc (.cells (Builtin.zeroCells (Value.int .u8 0).cells n ++ Builtin.zeroCells (Value.int .u8 0).cells (G - n)) 5)) w.heap.size (some ⟨w.heap.size, 0, none⟩) G [] :=
      ⟨by simp, .inr ⟨w.heap.size, G, _, rfl, Nat.le_refl _, heap_alloc_new w.drew _, Nat.zero_le _, hle, by simp only [Array.size_append, size_zeroCells]; simp [Value.cells]; omega, by simp⟩⟩
    have Hown := Lib.hid hown
    clear hown
    go_enter Tryz.func149, Tryz.ntmps149
    go_wp2_with (at_builtin; refine Lib.wpList_append_run _ rfl _ _ _ _ rfl _ _ rfl rfl _ _ (hrz _) ?_)
    go_ret
    exact ⟨_, _, rfl, Hown.out, (Ext.refl w).drew.alloc _⟩
  · obtain rfl : n = 0 := by omega
    clear hG0
    go_enter Tryz.func149, Tryz.ntmps149
    go_wp2
    go_ret
    exact ⟨_, _, rfl, Own.nil .., Ext.refl w⟩
set_option maxHeartbeats 400000 in
theorem concat_any (A : Option Addr) (n c : Nat) (xss : List (List Nat)) (w : World) (hx : RdSS w A n xss) (hn : xss.flatten.length ≤ 180000000000000) (hm : n ≤ 180000000000000) :
    Calls Tryz.prog 109 #[.slice A n c] w fun e w' => ∃ A' c', e = .returned (.slice A' xss.flatten.length c') ∧ Own .u8 5 w' w.heap.size A' c' xss.flatten ∧ Ext w w' := by
  have Hl := Lib.hid hx.len
  obtain ⟨N, hN⟩ : ∃ N, N = xss.flatten.length := ⟨_, rfl⟩
  rw [← hN] at hn ⊢
  have HN := Lib.hid hN
  clear hN
  go_enter Tryz.func109, Tryz.ntmps109
  go_wp2
  go_loop [3, 5, 11] (fun s _ i => ∃ j : Nat, j ≤ n ∧ i = .int .i64 j ∧ s = .int .i64 ((cat xss j).length : Nat)) (fun _ _ i => n - (intOf i).toNat)
  case atStart => exact ⟨0, Nat.zero_le _, rfl, by rw [cat_zero]; rfl⟩
  case round =>
    obtain ⟨j, hj, rfl, rfl⟩ := hrel
    have hle := cat_le (xss := xss) (j := j)
    rw [← HN.out] at hle
    by_cases hlt : j < n
    · obtain ⟨b, o, a, m, c2, rfl, hbl, hc, hrd⟩ := hx.at_ hlt
      have hjl : j < xss.length := by have := Hl.out; omega
      have hle2 := cat_le (xss := xss) (j := j + 1)
      rw [← HN.out] at hle2
      have hnext := congrArg List.length (cat_succ hjl)
      rw [List.length_append, hrd.len] at hnext
      rw [hnext] at hle2
      obtain ⟨R, hR'⟩ : ∃ R, R = (cat xss j).length := ⟨_, rfl⟩
      rw [← hR'] at hle hle2 hnext ⊢
      have Hn := Lib.hid hnext
      clear hnext hR' hrd
      go_wp2_with fail
      go_round
      case rel => exact ⟨j + 1, by omega, by go_num, by rw [Hn.out]; go_num⟩
      case measure => simp [intOf]; omega
    · obtain rfl : j = n := by omega
      have hfin : (cat xss j).length = N := by rw [HN.out, ← cat_all, Hl.out]
      rw [hfin]
      clear hfin hle
      go_wp2_with fail
      refine (grow_any N _ hn).mono ?_
      rintro e w1 ⟨A1, c1, rfl, hown1, he1⟩
      go_wp2_with fail
      go_loopw [6, 8, 27] (fun v _ i wr => ∃ (q : Nat) (A' : Option Addr) (c' : Nat), q ≤ j ∧ i = .int .i64 q ∧ v = .slice A' (cat xss q).length c' ∧ Own .u8 5 wr w.heap.size A' c' (cat xss q) ∧ Below w.heap.size w wr) (fun _ _ i _ => j - (intOf i).toNat)
      case atStart => exact ⟨0, _, _, Nat.zero_le _, rfl, rfl, hown1, he1⟩
      case round =>
        clear hown1 he1
        obtain ⟨q, A', c', hq, rfl, rfl, hown, hb⟩ := hrel
        have hz := hb.size
        by_cases hlt : q < j
        · obtain ⟨b, o, a, m, c2, rfl, hbl, hc, hrd⟩ := (hx.ext hb).at_ hlt
          have hjl : q < xss.length := by have := Hl.out; omega
          have hle2 := cat_le (xss := xss) (j := q + 1)
          rw [← HN.out] at hle2
          have hcs := cat_succ hjl
          have hnext := congrArg List.length hcs
          rw [List.length_append, hrd.len] at hnext
          rw [hnext] at hle2
          obtain ⟨ys, hys⟩ : ∃ ys, ys = xss.getD q [] := ⟨_, rfl⟩
          rw [← hys] at hrd hcs
          obtain ⟨X, hX⟩ : ∃ X, X = cat xss q := ⟨_, rfl⟩
          rw [← hX] at hown hle2 hnext hcs ⊢
          obtain ⟨R, hR⟩ : ∃ R, X.length = R := ⟨_, rfl⟩
          rw [hR] at hle2 hnext ⊢
          have Hn := Lib.hid hnext
          have Hcs := Lib.hid hcs
          have HR := Lib.hid hR
          clear hnext hcs hys hX hR
          go_wp2_with (at_builtin; refine wpList_pushes .u8 5 rfl _ _ 22 rfl _ 1 Tryz.underlying22 Tryz.infoU8 rfl hown R HR.out rfl rfl hrd (by omega) (by omega) hb hz ?_; intro A1 c1 w1 hown1 hb1 hz1)
          go_roundw
          case rel => exact ⟨q + 1, A1, c1, by omega, by go_num, by rw [Hn.out], by rw [Hcs.out]; exact hown1, hb1⟩
          case measure => simp [intOf]; omega
        · obtain rfl : q = j := by omega
          have hfin : cat xss q = xss.flatten := by rw [← cat_all]; rw [Hl.out]
          rw [hfin, ← HN.out]
          rw [hfin] at hown
          clear hfin
          go_wp2
          go_ret
          exact ⟨_, _, rfl, hown, hb⟩
theorem ownLit (w : World) (xs : List Nat) (hl : xs.length ≤ 9223372036854775807) : Own .u8 5 (w.alloc (.cells (xs.map fun x : Nat => Value.int .u8 (x : Int)).toArray 5)) w.heap.size (some ⟨w.heap.size, 0, none⟩) xs.length xs :=
  ⟨by simp, .inr ⟨w.heap.size, xs.length, _, rfl, Nat.le_refl _, heap_alloc_new w _, Nat.le_refl _, by simpa [maxLen] using hl, by simp, by rw [Nat.mul_one]; exact List.take_of_length_le (by simp)⟩⟩
def sl (bs : List Nat) : List Nat := bs ++ upk 8 4 (crc bs)
theorem sl_len (bs : List Nat) : (sl bs).length = bs.length + 4 := by rw [sl, List.length_append, upk_len]
theorem sl_u8 {bs : List Nat} (h : U8 bs) : U8 (sl bs) := u8_append h (U8_wd.2 (upk_wd _ _ _))
set_option maxHeartbeats 400000 in
theorem refSeal_any (A : Option Addr) (n c : Nat) (bs : List Nat) (w : World) (hx : Rd .u8 w A n bs) (hu : U8 bs) (hn : n + 4 ≤ 180000000000000) :
    Calls Tryz.prog 37 #[.slice A n c] w fun e w' => ∃ A' c', e = .returned (.slice A' (n + 4 : Nat) c') ∧ Own .u8 5 w' w.heap.size A' c' (sl bs) ∧ Ext w w' := by
  have hcr := crc_lt hu
  go_enter Tryz.func37, Tryz.ntmps37
  go_wp2_with fail
  refine (refSum_any _ _ _ _ _ hx hu (by omega)).mono ?_
  rintro e w1 ⟨rfl, rfl⟩
  go_wp2_with fail
  refine (low_any (crc bs) 4 _ (by omega) (by omega)).mono ?_
  rintro e w1 ⟨A1, c1, rfl, hown1, he1⟩
  go_wp2_with fail
  refine (cat_any _ _ _ _ _ _ _ _ _ (hx.ext he1) hown1.rd (by rw [upk_len]; exact hn)).mono ?_
  rintro e w2 ⟨A2, c2, rfl, hown2, he2⟩
  go_wp2
  go_ret
  exact ⟨_, _, rfl, hown2.mono he1.size, he1.trans he2⟩
theorem four_upk (s : Nat) : upk 8 4 s = [s % 256, s / 256 % 256, s / 65536 % 256, s / 16777216 % 256] := by
  simp only [upk, Nat.div_div_eq_div_mul]
def FourPost (s : Nat) (w : World) (e : Ending) (w' : World) : Prop :=
  ∃ a b c d : Nat, upk 8 4 s = [a, b, c, d] ∧ e = .returned (.agg #[.int .u8 (a : Int), .int .u8 (b : Int), .int .u8 (c : Int), .int .u8 (d : Int)]) ∧ Ext w w'
theorem written_any (s : Nat) (w : World) (hs : s < 4294967296) : Calls Tryz.prog 75 #[.int .u32 (s : Int)] w (FourPost s w) := by
  have hd : s / 16777216 % 256 = s / 16777216 := by omega
  have H := Lib.hid ((four_upk s).trans (by rw [hd]))
  clear hd
  go_enter Tryz.func75, Tryz.ntmps75
  go_wp2
  refine bodyPost_ret (v := .agg #[.int .u8 ((s % 256 : Nat) : Int), .int .u8 ((s / 256 % 256 : Nat) : Int), .int .u8 ((s / 65536 % 256 : Nat) : Int), .int .u8 ((s / 16777216 : Nat) : Int)]) (by simp [results, Tryz.results75, go_sem]) rfl ?_
  exact ⟨_, _, _, _, H.out, rfl, (Ext.refl w).alloc _⟩
set_option maxHeartbeats 400000 in
theorem seal_any (A : Option Addr) (n c : Nat) (bs : List Nat) (w : World) (hx : Rd .u8 w A n bs) (hu : U8 bs) (hn : n + 4 ≤ 180000000000000) :
    Calls Tryz.prog 111 #[.slice A n c] w fun e w' => ∃ A' c', e = .returned (.slice A' (n + 4 : Nat) c') ∧ Own .u8 5 w' w.heap.size A' c' (sl bs) ∧ Ext w w' := by
  have hcr := crc_lt hu
  have hl := hx.len
  have hf1 : [bs].flatten = bs := by simp
  have H1 := RdSS.one 22 w (c := c) rfl hx
  have hl2 : ∀ xs ∈ [bs], xs.length ≤ 180000000000000 := by intro v hv; simp at hv; subst hv; omega
  have Hf1 := Lib.hid hf1
  have HH1 := Lib.hid H1
  have Hl2 := Lib.hid hl2
  clear hf1 H1 hl2 hl
  go_enter Tryz.func111, Tryz.ntmps111
  go_wp2_with fail
  refine (sum_any _ _ _ [bs] _ HH1.out (fun v hv => by simp at hv; subst hv; exact hu) Hl2.out (by omega)).mono ?_
  rintro e w1 ⟨rfl, rfl⟩
  rw [Hf1.out]
  go_wp2_with fail
  refine (written_any _ _ hcr).mono ?_
  rintro e w2 ⟨a, b, c', d, hf, rfl, he2⟩
  have h4 := Rd.lit_at .u8 99 w2 [a, b, c', d] rfl (n := 4) rfl
  have hxw := (((hx.ext ((Ext.refl w).alloc (.cells #[.slice A n c] 22))).ext he2).ext ((Ext.refl w2).alloc (.cells #[.int .u8 (a : Int), .int .u8 (b : Int), .int .u8 (c' : Int), .int .u8 (d : Int)] 99)))
  have H2 := Lib.hid (RdSS.two 22 (b := w2.heap.size + 1) (c := c) (c2 := 4) _ (by simp) hxw h4)
  have hE := ((Ext.refl w).alloc (.cells #[.slice A n c] 22)).trans he2
  have hlen : [bs, [a, b, c', d]].flatten.length = n + 4 := by simp [hx.len]
  have hfl : [bs, [a, b, c', d]].flatten = sl bs := by simp [sl, hf]
  have Hlen := Lib.hid hlen
  have Hfl := Lib.hid hfl
  clear hf h4 hxw hlen hfl HH1 Hl2 he2
  go_wp2_with fail
  refine (concat_any _ _ _ [bs, [a, b, c', d]] _ H2.out (by rw [Hlen.out]; exact hn) (by omega)).mono ?_
  rintro e w3 ⟨A3, c3, rfl, hown3, he3⟩
  rw [Hfl.out] at hown3
  rw [Hlen.out]
  have hE2 := hE.trans (((Ext.refl w2).alloc _).alloc _) |>.trans he3
  have hsz := hE.size
  go_wp2_with fail
  go_ret
  exact ⟨_, _, rfl, hown3.mono (by simp; omega), hE2⟩
theorem sld_four {bs : List Nat} {m : Nat} {a b c d x y z t : Nat} (hl : bs.length = m + 4) (hd : bs.drop m = [x, y, z, t]) (hu : U8 bs) (hf : upk 8 4 (crc (bs.take m)) = [a, b, c, d]) :
    sld bs ↔ (x = a ∧ y = b ∧ z = c ∧ t = d) := by
  have hs := sld_split (t := bs.take m) (q := bs.drop m) (by rw [List.length_drop]; omega)
  rw [List.take_append_drop] at hs
  have hq := upk_pk (U8_wd.1 (u8_drop hu m))
  have hdl : (bs.drop m).length = 4 := by rw [List.length_drop]; omega
  rw [hdl] at hq
  have hcr := crc_lt (u8_take hu m)
  rw [hs]
  constructor
  · intro h
    rw [h, hf, hd] at hq
    simp at hq
    exact ⟨hq.1.symm, hq.2.1.symm, hq.2.2.1.symm, hq.2.2.2.symm⟩
  · rintro ⟨rfl, rfl, rfl, rfl⟩
    rw [hd, ← hf, pk_upk]
    exact Nat.mod_eq_of_lt hcr
theorem step_copy_new {P : Program} {ops : Array Oper} {o : Oper} {a : Act} {w : World} {K : Act → World → Prop} {Q : Exit → Act → World → Prop} {E : Prop} (hgd : o.guard = none) (d s : Operand) (dT sT : TypeId)
    (ho : o.op = .call { callee := .builtin .copy, args := #[d, s], argTypes := #[dT, sT] }) (elem : TypeId) (hu : P.underlying dT = some (.slice elem)) (hsz : (P.info? elem).map (·.size) = some 1)
    (old : Array Value) (T : TypeId) (ad : Addr) (dLen dCap sLen sCap : Nat) (cs : List Value) (hd : a.eval d = .slice (some ⟨w.heap.size, 0, none⟩) dLen dCap) (hs : a.eval s = .slice (some ad) sLen sCap)
    (hold : old.size = cs.length) (hn : cs.length = Nat.min sLen dLen) (hsrc : ∀ j v, cs[j]? = some v → (w.alloc (.cells old T)).drew.cell? (ad.add j) = some v) (h1 : ∀ v ∈ cs, v.oneCell' = true)
    (h : K (a.put o.dst (goInt cs.length)) (w.alloc (.cells cs.toArray T)).drew) :
    if Region.wanted o (yielded ops a.tmps) = true then Oper.wp P o a (w.alloc (.cells old T)).drew K Q else E := by
  have hw : Region.wanted o (yielded ops a.tmps) = true := by simp [Region.wanted, hgd]
  rw [if_pos hw]
  have hrun := run_copy_row (P := P) (w.alloc (.cells old T)).drew dT sT o.type elem w.heap.size 0 dLen dCap ad sLen sCap old T cs hu hsz (heap_alloc_new w _) hn hsrc (by omega) h1
  have hrow : (old.toList.take 0 ++ cs ++ old.toList.drop (0 + cs.length)).toArray = cs.toArray := by
    rw [List.take_zero, List.nil_append, List.drop_eq_nil_of_le (by rw [Array.length_toList]; omega), List.append_nil]
  have hset : (w.alloc (.cells old T)).drew.setRow w.heap.size cs.toArray = (w.alloc (.cells cs.toArray T)).drew := by
    rw [← World.setRow_alloc_new w old cs.toArray T]
    rfl
  rw [hrow, hset] at hrun
  unfold Oper.wp
  simp [execOp, ho, resolve, invoke, builtin, hd, hs, hrun, Result.andThen]
  exact h
theorem cell_nat {x : Nat} (h : x < 256) : Extern.Stop.cell (UInt8.ofNat x) = Value.int .u8 (x : Int) := by
  have : (UInt8.ofNat x).toNat = x := by rw [UInt8.toNat_ofNat']; exact Nat.mod_eq_of_lt h
  simp [Extern.Stop.cell, this]
theorem eq4 {x y z t a b c d : Nat} (hx : U8 [x, y, z, t]) (ha : U8 [a, b, c, d]) (w : World) :
    (Op.equalIn 10000 99 (.agg #[.int .u8 (x : Int), .int .u8 (y : Int), .int .u8 (z : Int), .int .u8 (t : Int)]) (.agg #[.int .u8 (a : Int), .int .u8 (b : Int), .int .u8 (c : Int), .int .u8 (d : Int)])).run Tryz.prog w =
      .ok (decide (x = a) && (decide (y = b) && (decide (z = c) && decide (t = d)))) w := by
  have h := run_equalIn_bytes (P := Tryz.prog) w 9998 99 5 4 Tryz.underlying99 Tryz.underlying5 (fun w => by kernel_rfl) [UInt8.ofNat x, UInt8.ofNat y, UInt8.ofNat z, UInt8.ofNat t] [UInt8.ofNat a, UInt8.ofNat b, UInt8.ofNat c, UInt8.ofNat d] rfl rfl
  have hx0 := hx x (by simp)
  have hx1 := hx y (by simp)
  have hx2 := hx z (by simp)
  have hx3 := hx t (by simp)
  have ha0 := ha a (by simp)
  have ha1 := ha b (by simp)
  have ha2 := ha c (by simp)
  have ha3 := ha d (by simp)
  simp only [List.map_cons, List.map_nil, cell_nat hx0, cell_nat hx1, cell_nat hx2, cell_nat hx3, cell_nat ha0, cell_nat ha1, cell_nat ha2, cell_nat ha3] at h
  refine h.trans (congrArg (fun t => Result.ok t w) ?_)
  have hi : ∀ {p q : Nat}, p < 256 → q < 256 → (UInt8.ofNat p = UInt8.ofNat q ↔ p = q) := by
    intro p q hp hq
    rw [← UInt8.toNat_inj, UInt8.toNat_ofNat', UInt8.toNat_ofNat', Nat.mod_eq_of_lt hp, Nat.mod_eq_of_lt hq]
  rw [Bool.eq_iff_iff]
  simp [hi hx0 ha0, hi hx1 ha1, hi hx2 ha2, hi hx3 ha3]
theorem four_cells {w : World} {g : Nat} {x y z t : Value} {T : TypeId} (h : w.heap[g]? = some (.cells #[x, y, z, t] T)) :
    w.cell? ⟨g, 0, none⟩ = some x ∧ w.cell? ⟨g, 1, none⟩ = some y ∧ w.cell? ⟨g, 2, none⟩ = some z ∧ w.cell? ⟨g, 3, none⟩ = some t :=
  ⟨cell_of_row w g 0 _ T (0, 0) h, cell_of_row w g 1 _ T (0, 0) h, cell_of_row w g 2 _ T (0, 0) h, cell_of_row w g 3 _ T (0, 0) h⟩
set_option maxHeartbeats 800000 in
theorem sealed_any (A : Option Addr) (n c : Nat) (bs : List Nat) (w : World) (hx : Rd .u8 w A n bs) (hu : U8 bs) (hn : n ≤ 180000000000000) (hc : n ≤ c) (_hcm : c ≤ 9223372036854775807) :
    Calls Tryz.prog 40 #[.slice A n c] w fun e w' => e = .returned (.bool (decide (sld bs))) ∧ Ext w w' := by
  have hl := hx.len
  by_cases h4 : 4 ≤ n
  · obtain ⟨m, rfl⟩ : ∃ m, n = m + 4 := ⟨n - 4, by omega⟩
    obtain ⟨b, o, rfl, hbl, hcell⟩ := hx.2 (by omega)
    have c0 := hcell m (by omega)
    have c1 := hcell (m + 1) (by omega)
    have c2 := hcell (m + 2) (by omega)
    have c3 := hcell (m + 3) (by omega)
    obtain ⟨x, hxx⟩ : ∃ x, x = bs.getD m 0 := ⟨_, rfl⟩
    obtain ⟨y, hyy⟩ : ∃ x, x = bs.getD (m + 1) 0 := ⟨_, rfl⟩
    obtain ⟨z, hzz⟩ : ∃ x, x = bs.getD (m + 2) 0 := ⟨_, rfl⟩
    obtain ⟨t, htt⟩ : ∃ x, x = bs.getD (m + 3) 0 := ⟨_, rfl⟩
    rw [← hxx] at c0
    rw [← hyy] at c1
    rw [← hzz] at c2
    rw [← htt] at c3
    have Hxx := Lib.hid hxx
    have Hyy := Lib.hid hyy
    have Hzz := Lib.hid hzz
    have Htt := Lib.hid htt
    have Hcell := Lib.hid hcell
    have Hone : Hid (∀ v ∈ [Value.int .u8 (x : Int), .int .u8 (y : Int), .int .u8 (z : Int), .int .u8 (t : Int)], v.oneCell' = true) := Lib.hid (by intro v hv; simp at hv; rcases hv with rfl | rfl | rfl | rfl <;> rfl)
    have Hsrc := Lib.hid (show ∀ (j : Nat) (v : Value), [Value.int .u8 (x : Int), .int .u8 (y : Int), .int .u8 (z : Int), .int .u8 (t : Int)][j]? = some v → (w.alloc (.cells #[.int .u8 0, .int .u8 0, .int .u8 0, .int .u8 0] 99)).drew.cell? ((⟨b, o + m, none⟩ : Addr).add j) = some v from by
      intro j v hj
      have he : Ext w (w.alloc (.cells #[.int .u8 0, .int .u8 0, .int .u8 0, .int .u8 0] 99)).drew := ((Ext.refl w).alloc _).drew
      rw [show (⟨b, o + m, none⟩ : Addr).add j = ⟨b, o + (m + j), none⟩ from by simp [Addr.add, Nat.add_assoc], Below.cell he (p := ⟨b, o + (m + j), none⟩) hbl]
      match j, hj with
      | 0, hj => simp at hj; subst hj; exact c0
      | 1, hj => simp at hj; subst hj; exact c1
      | 2, hj => simp at hj; subst hj; exact c2
      | 3, hj => simp at hj; subst hj; exact c3
      | j + 4, hj => simp at hj)
    have hf1 : [bs.take m].flatten = bs.take m := by simp
    have hl2 : ∀ xs ∈ [bs.take m], xs.length ≤ 180000000000000 := by intro v hv; simp at hv; subst hv; rw [List.length_take]; omega
    have hrd : Rd .u8 (w.alloc (.cells #[.int .u8 (x : Int), .int .u8 (y : Int), .int .u8 (z : Int), .int .u8 (t : Int)] 99)) (some ⟨b, o, none⟩) m (bs.take m) :=
      ⟨by rw [List.length_take, hl]; omega, fun _ => ⟨b, o, rfl, by simp; omega, fun j hj => by
        have := hcell j (by omega)
        rw [show (bs.take m).getD j 0 = bs.getD j 0 from by simp [List.getD, hj], Below.cell ((Ext.refl w).alloc _) (p := ⟨b, o + j, none⟩) hbl]
        exact this⟩⟩
    have H1 := Lib.hid (RdSS.one 22 (b := w.heap.size + 1) (c := c) _ (by simp) hrd)
    have HU : Hid (U8s [bs.take m]) := Lib.hid (fun v hv => by simp at hv; subst hv; exact u8_take hu m)
    have Hcr := Lib.hid (crc_lt (u8_take hu m))
    have Hf1 := Lib.hid hf1
    have Hl2 := Lib.hid hl2
    clear hf1 hl2 hrd
    have Hu4 : Hid (U8 [x, y, z, t]) := Lib.hid (by
      intro v hv
      simp at hv
      rcases hv with rfl | rfl | rfl | rfl
      · rw [Hxx.out]; exact hu.at_ _
      · rw [Hyy.out]; exact hu.at_ _
      · rw [Hzz.out]; exact hu.at_ _
      · rw [Htt.out]; exact hu.at_ _)
    have Hdr : Hid (bs.drop m = [x, y, z, t]) := Lib.hid (by
      apply List.ext_getElem
      · rw [List.length_drop, hl]; simp
      · intro j h1 h2
        have h3 : j < 4 := h2
        have h4 : m + j < bs.length := by omega
        rw [List.getElem_drop]
        have hg : ∀ i, (hi : i < bs.length) → bs[i] = bs.getD i 0 := fun i hi => by simp [List.getD, hi]
        rw [hg _ h4]
        rcases (show j = 0 ∨ j = 1 ∨ j = 2 ∨ j = 3 by omega) with rfl | rfl | rfl | rfl
        · exact Hxx.out.symm
        · exact Hyy.out.symm
        · exact Hzz.out.symm
        · exact Htt.out.symm)
    have Hll := Lib.hid hl
    have hmm : (m : Int) ≤ (m : Int) + 4 := by omega
    have hcne : ¬ c = m := by omega
    clear hxx hyy hzz htt hcell hl c0 c1 c2 c3
    go_enter Tryz.func40, Tryz.ntmps40
    go_wp2_with fail
    go_region_law (refine step_copy_new rfl (.tmp 10) (.tmp 13) 22 22 rfl 5 Tryz.underlying22 (by kernel_rfl) #[.int .u8 0, .int .u8 0, .int .u8 0, .int .u8 0] 99 ⟨b, o + m, none⟩ 4 4 4 (c - m) [.int .u8 (x : Int), .int .u8 (y : Int), .int .u8 (z : Int), .int .u8 (t : Int)] rfl rfl rfl rfl Hsrc.out Hone.out ?_)
    go_wp2_with fail
    go_region_with (first
      | (go_at_call 76; refine (sum_any _ _ _ [bs.take m] _ ?_ HU.out Hl2.out (by omega)).mono ?_; exact H1.out; rintro e w1 ⟨rfl, rfl⟩; rw [Hf1.out])
      | (go_at_call 75; refine (written_any _ _ Hcr.out).mono ?_; rintro e w3 ⟨a', b', c', d', hf, rfl, he⟩; obtain ⟨k0, k1, k2, k3⟩ := four_cells ((he.block w.heap.size (by simp; omega)).trans (heap_alloc2_old w _ _)); have heq := eq4 Hu4.out (hf ▸ U8_wd.2 (upk_wd _ _ _)); have Hf := Lib.hid hf; have He := Lib.hid he; clear hf he))
    all_goals
      go_wp2_with fail
      go_ret
      refine ⟨?_, Ext.trans (by repeat (first | exact Ext.refl _ | apply Ext.drew | apply Ext.alloc)) He.out⟩
      rw [show decide (sld bs) = (decide (x = a') && (decide (y = b') && (decide (z = c') && decide (t = d')))) from by rw [Bool.eq_iff_iff]; simpa using sld_four Hll.out Hdr.out hu Hf.out]
      rfl
  · have hf : ¬ sld bs := fun h => by have := h.1; omega
    rw [decide_eq_false hf]
    clear hl hf
    go_enter Tryz.func40, Tryz.ntmps40
    go_wp2
    go_ret
    exact ⟨rfl, Ext.refl _⟩
end Go.Proofs.YthibbgmicmfkfaaGreat
