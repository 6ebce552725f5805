import Derived.Test.YtkmnhapeohlooaaG2
import Derived.Test.YtkmnhapeohlooaaG1
import Derived.Lib.SmallJoins
import Derived.Deep.Slices
import Derived.Lib.BitFns
import Derived.Shelf.Strconv.Itoa0
import Derived.Lib.BytesEntry

/-
  From the row's reading of lists of texts to the words of our walks.
-/
namespace Go.Proofs.Ytkmnhapeohlooaa
open Go.ChangeShapes Go.WideShapes Go.ChangeAt Go.RowKit Go.Deep

/-- Each string, slice and map within it is within the form's own reach. -/
def SzG {H : Type} (P : Program) (t : TypeId) (d : DataW H) : Prop := ∀ n ∈ d.weights P t, n ≤ reachBytes

section
variable {H : Type} {P : Program}
theorem sz_topG {ts : List TypeId} {ds : List (DataW H)} (h : (DataW.weightsEach P ts ds).all (· ≤ reachBytes) = true) (j : Nat) {t : TypeId} {d : DataW H} (ht : ts[j]? = some t) (hd : ds[j]? = some d) : SzG P t d := by
  intro n hn
  have := List.all_eq_true.1 h _ (DataW.weights_mem_each ht hd n hn)
  simpa using this
theorem sz_partG {t : TypeId} {fs : Array Field} {parts : List (DataW H)} (h : SzG P t (.agg parts)) (hu : P.underlying t = some (.struct fs)) (j : Nat) {f : Field} {d : DataW H} (hf : fs[j]? = some f) (hd : parts[j]? = some d) : SzG P f.type d := by
  intro n hn
  refine h n ?_
  simp only [DataW.weights, hu]
  refine DataW.weights_mem_each (j := j) (t := f.type) ?_ hd n hn
  rw [List.getElem?_map, Array.getElem?_toList, hf]
  rfl
theorem weights_mem_allG {e : TypeId} : ∀ {ds : List (DataW H)} {d : DataW H}, d ∈ ds → ∀ n ∈ d.weights P e, n ∈ DataW.weightsAll P e ds
  | d0 :: r, d, hd, n, hn => by
    simp only [DataW.weightsAll, List.mem_append]
    rcases List.mem_cons.1 hd with rfl | hd
    · exact .inl hn
    · exact .inr (weights_mem_allG hd n hn)
theorem sz_elemG {t e : TypeId} {elems spare : List (DataW H)} (h : SzG P t (.slice elems spare)) (hu : P.underlying t = some (.slice e)) {d : DataW H} (hd : d ∈ elems) : SzG P e d := by
  intro n hn
  refine h n ?_
  simp only [DataW.weights, hu, List.mem_cons, List.mem_append]
  exact .inr (.inl (weights_mem_allG hd n hn))
theorem sz_lenG {t e : TypeId} {elems spare : List (DataW H)} (h : SzG P t (.slice elems spare)) (hu : P.underlying t = some (.slice e)) : (elems.length + spare.length) * P.bytesOf e ≤ reachBytes := by
  refine h _ ?_
  simp [DataW.weights, hu]

end

section
variable {H : Type} {enc : TypeId × Value → H} {W : World}

/-- The elements of a slice whose elements are structs of k cells. -/
theorem open_rowsG {t e : TypeId} {k bytes : Nat} {T : Type} {cells : T → List Value} {Q : T → DataW H → Prop} {fuel : Nat} {v : Value} {d : DataW H} {p : List MemPlace} (ht : Try.prog.underlying t = some (.slice e)) (hk : Try.prog.cellsOf e = k) (hk0 : 0 < k) (hby : Try.prog.bytesOf e = bytes)
    (hone : ∀ {n : Nat} {cs : List Value} {x : DataW H × List MemPlace}, DataW.trod enc Try.prog W 0 (fun _ => true) true n e cs = some x → SzG Try.prog e x.1 → ∃ c : T, cs = cells c ∧ Q c x.1)
    (h : DataW.trod enc Try.prog W 0 (fun _ => true) true fuel t [v] = some (d, p)) (hs : SzG Try.prog t d) :
    ∃ (a : Option Addr) (cap : Nat) (xs : List T), v = .slice a xs.length cap ∧ xs.length ≤ cap ∧ cap ≤ 9223372036854775807 ∧ xs.length * bytes ≤ 140737488351232 ∧ xs.length ≤ Rows.uptoBulk d ∧
      (∀ c ∈ xs, ∃ dd, Q c dd) ∧ (0 < xs.length → ∃ b o, a = some ⟨b, o, none⟩ ∧ b < W.heap.size ∧ ∀ j c, xs[j]? = some c → ∀ i u, (cells c)[i]? = some u → W.cell? ⟨b, o + j * k + i, none⟩ = some u) := by
  rcases open_slice ht h with ⟨hcs, hx⟩ | ⟨a, l, c, m, n, D, Pl, hcs, _, hl, hcm, hm, hx, hcell⟩
  · injection hcs with hcs
    exact ⟨none, 0, [], hcs, Nat.zero_le _, by decide, by simp, Nat.zero_le _, (by intro c hc; cases hc), fun hn => absurd hn (by simp)⟩
  · injection hcs with hcs
    simp only [Prod.mk.injEq] at hx
    obtain ⟨rfl, _⟩ := hx
    have hmc : m = c := by simpa using hm
    subst hmc
    have hr := sz_lenG hs ht
    rw [hby] at hr
    simp only [List.length_map, List.length_range, reachBytes] at hr
    have each : ∀ i, i < l → ∃ q : T, W.cells? 0 (a.add (i * k)) k = some (cells q) ∧ Q q (D i) := by
      intro i hi
      obtain ⟨cs', h1, h2⟩ := hcell i (by omega)
      rw [hk] at h1
      obtain ⟨q, e1, e2⟩ := hone h2 (sz_elemG hs ht (List.mem_map.2 ⟨i, List.mem_range.2 hi, rfl⟩))
      exact ⟨q, by rw [h1, e1], e2⟩
    by_cases hl0 : l = 0
    · subst hl0
      exact ⟨some a, m, [], hcs, Nat.zero_le _, hcm, by simp, Nat.zero_le _, (by intro c hc; cases hc), fun hn => absurd hn (by simp)⟩
    · obtain ⟨q0, _⟩ := each 0 (by omega)
      have each' : ∀ i, ∃ q : T, i < l → W.cells? 0 (a.add (i * k)) k = some (cells q) ∧ Q q (D i) := by
        intro i
        by_cases hi : i < l
        · obtain ⟨q, hq⟩ := each i hi
          exact ⟨q, fun _ => hq⟩
        · exact ⟨q0, fun h => absurd h hi⟩
      obtain ⟨q, hq⟩ := Classical.axiomOfChoice each'
      have hxl : ((List.range l).map q).length = l := by simp
      refine ⟨some a, m, (List.range l).map q, by rw [hxl]; exact hcs, by rw [hxl]; exact hl, hcm, ?_, ?_, ?_, fun hn => ?_⟩
      · rw [hxl]
        have : l + (m - l) = m := by omega
        rw [this] at hr
        exact Nat.le_trans (Nat.mul_le_mul_right _ hl) hr
      · rw [hxl]
        exact bulk_len (.inr ⟨_, _, rfl, by simp⟩)
      · intro c hc
        obtain ⟨i, hi, rfl⟩ := List.mem_map.1 hc
        exact ⟨_, (hq i (List.mem_range.1 hi)).2⟩
      · obtain ⟨b, o, spot⟩ := a
        have hall : ∀ i, i < l → ∀ r u, (cells (q i))[r]? = some u → W.cell? ((⟨b, o, spot⟩ : Addr).add (i * k) |>.add r) = some u := by
          intro i hi r u hu
          obtain ⟨_, hlen, hc⟩ := World.cells?_some (hq i hi).1
          have hr := (List.getElem?_eq_some_iff.1 hu).1
          rw [hc r (by omega), hu]
        have hl1 : 0 < l := by omega
        obtain ⟨_, hlen0, hc0⟩ := World.cells?_some (hq 0 hl1).1
        have hu0 : (cells (q 0))[0]? = some (cells (q 0))[0] := List.getElem?_eq_getElem (by omega)
        have hz := hall 0 hl1 0 _ hu0
        have hspot : spot = none := by simpa [Addr.add] using World.cell?_spot hz
        subst hspot
        refine ⟨b, o, rfl, ?_, fun j c hj i u hu => ?_⟩
        · have hb := World.block_lt_of_cell? W _ hz
          simpa [Addr.add] using hb
        · rw [List.getElem?_map, Option.map_eq_some_iff] at hj
          obtain ⟨i', hi', rfl⟩ := hj
          obtain ⟨g1, g2⟩ := List.getElem?_eq_some_iff.1 hi'
          simp at g1 g2
          subst g2
          have := hall j g1 i u hu
          rwa [add_plain, add_plain] at this

/-- A text. -/
theorem open_text {fuel : Nat} {cs : List Value} {d : DataW H} {p : List MemPlace}
    (h : DataW.trod enc Try.prog W 0 (fun _ => true) true fuel 52 cs = some (d, p)) (hs : SzG Try.prog 52 d) : ∃ s : Sl, cs = [s.v] ∧ TxI W s := by
  have ht : Try.prog.underlying 52 = some (.slice 5) := Try.underlying52
  have he : Try.prog.underlying 5 = some (.int .u8) := Try.underlying5
  have hc : Try.prog.cellsOf 5 = 1 := by kernel_rfl
  have hby : Try.prog.bytesOf 5 = 1 := by kernel_rfl
  rcases open_ints ht he hc h with ⟨hcs, hx⟩ | ⟨x, l, c, zs, hcs, _, hl, hm, hz, hx, hcell, hwz⟩
  · exact ⟨⟨none, 0, []⟩, hcs, ⟨Rd.nil .., (by intro v hv; cases hv), Nat.zero_le _, by decide, by decide⟩⟩
  · simp only [Prod.mk.injEq] at hx
    obtain ⟨rfl, _⟩ := hx
    have hzl : zs.length = c := by simpa using hz
    have hr := sz_lenG hs ht
    rw [hby] at hr
    simp only [lits, List.length_map, List.length_take, List.length_drop, reachBytes] at hr
    have hw : ∀ i, i < l → 0 ≤ zs.getD i 0 ∧ zs.getD i 0 < 256 := by
      intro i hi
      have hlt : i < zs.length := by omega
      have := wf_u8 (hwz _ (List.getElem_mem hlt))
      simpa [List.getD, hlt] using this
    have hxl : ((zs.take l).map Int.toNat).length = l := by rw [List.length_map, List.length_take]; omega
    have hm2 : c ≤ 9223372036854775807 := by simpa [maxLen] using hm
    refine ⟨⟨some x, c, (zs.take l).map Int.toNat⟩, by rw [hcs, Sl.v, hxl], ⟨?_, ?_, by rw [hxl]; exact hl, hm2, by rw [hxl]; omega⟩⟩
    · rw [hxl]
      refine ⟨hxl, fun hn => ?_⟩
      have hc0 := hcell 0 (by omega)
      obtain ⟨b, o, spot⟩ := x
      have hspot : spot = none := by simpa [Addr.add] using World.cell?_spot hc0
      subst hspot
      refine ⟨b, o, rfl, ?_, fun i hi => ?_⟩
      · have hb := World.block_lt_of_cell? W _ hc0
        simpa [Addr.add] using hb
      · have h1 := hcell i (by omega)
        rw [add_plain] at h1
        rw [h1]
        have h2 := (hw i hi).1
        have hlt : i < zs.length := by omega
        have h3 : (((zs.take l).map Int.toNat).getD i 0 : Nat) = (zs.getD i 0).toNat := by simp [List.getD, hi, hlt]
        rw [h3, Int.toNat_of_nonneg h2]
    · intro v hv
      obtain ⟨n, hn, rfl⟩ := List.mem_map.1 hv
      have := wf_u8 (hwz _ (List.mem_of_mem_take hn))
      omega

set_option maxRecDepth 100000 in
/-- A list of texts. -/
theorem open_texts {a : Option Addr} {len cap : Nat} {d : DataW H} {p : List MemPlace} (h : DataW.Trod enc Try.prog W 0 (fun _ => true) true 49 (.slice a len cap) d p) (hs : SzG Try.prog 49 d) :
    ∃ ss : List Sl, TxL W a len ss ∧ len * 24 ≤ 140737488351232 ∧ len ≤ Rows.uptoBulk d := by
  obtain ⟨fuel, hf⟩ := h
  obtain ⟨a', cap', xs, e, h1, h2, h3, h4, h5, h6⟩ := open_rowsG (k := 1) (bytes := 24) (cells := shS.cells) (Q := fun s _ => TxI W s) (v := .slice a len cap) Try.underlying49 (by kernel_rfl) (by decide) (by kernel_rfl) (fun h hs => open_text h hs) hf hs
  injection e with e1 e2 e3
  subst e1 e2 e3
  exact ⟨xs, ⟨RdG.rdL ⟨rfl, h6⟩, fun s hs => (h5 s hs).elim fun _ h => h⟩, h3, h4⟩
end

end Go.Proofs.Ytkmnhapeohlooaa

/-
  What is handed in, opened: lists of numbers.
-/
namespace Go.Proofs.Ytkmnhapeohlooaa
open Go Go.RowKit Go.ChangeShapes
variable {H : Type} {enc : TypeId × Value → H} {W : World}

set_option maxRecDepth 100000 in
/-- A list of numbers. -/
theorem open_intz {a : Option Addr} {len cap : Nat} {d : DataW H} {p : List MemPlace} (h : DataW.Trod enc Try.prog W 0 (fun _ => true) true 45 (.slice a len cap) d p) (hs : SzG Try.prog 45 d) :
    ∃ xs : List Int, RdG shZ W a len xs ∧ len * 8 ≤ 140737488351232 ∧ len ≤ Rows.uptoBulk d := by
  obtain ⟨fuel, hf⟩ := h
  obtain ⟨a', cap', xs, e, h1, h2, h3, h4, h5, h6⟩ := open_rowsG (k := 1) (bytes := 8) (cells := shZ.cells) (Q := fun _ _ => True) (v := .slice a len cap) Try.underlying45 (by kernel_rfl) (by decide) (by kernel_rfl) (fun h hs => by
    obtain ⟨k, e1, _, _⟩ := DataW.trod_int Try.underlying3 h
    exact ⟨k, e1, trivial⟩) hf hs
  injection e with e1 e2 e3
  subst e1 e2 e3
  exact ⟨xs, ⟨rfl, h6⟩, h3, h4⟩

end Go.Proofs.Ytkmnhapeohlooaa

/-
  What is handed in, opened: lists of calls on an ordered list.
-/
namespace Go.Proofs.Ytkmnhapeohlooaa
open Go.ChangeShapes Go.WideShapes Go.ChangeAt Go.RowKit Go.Deep

/-- One call: its kind, its key, the high key, its value. -/
structure O18 where
  k : Int
  key : Sl
  hi : Sl
  v : Int
def shO : Shape O18 := ⟨fun o => [.int .i64 o.k, o.key.v, o.hi.v, .int .i64 o.v], 4, fun _ => rfl, by
  intro x u hu
  simp only [List.mem_cons, List.not_mem_nil, or_false] at hu
  rcases hu with rfl | rfl | rfl | rfl <;> rfl⟩

section
variable {H : Type} {enc : TypeId × Value → H} {W : World}
theorem nodes4 {P : Program} {t : TypeId} {f0 f1 f2 f3 : Field} {fuel : Nat} {cs : List Value} {x : DataW H × List MemPlace} (hs : P.underlying t = some (.struct #[f0, f1, f2, f3])) (hone : oneCellFields P #[f0, f1, f2, f3] = true) (hC : P.cellsOf t = 4)
    (h : DataW.trod enc P W 0 (fun _ => true) true fuel t cs = some x) :
    ∃ v0 v1 v2 v3 y0 y1 y2 y3 n, cs = [v0, v1, v2, v3] ∧ x.1 = .agg [y0.1, y1.1, y2.1, y3.1] ∧ DataW.trod enc P W 0 (fun _ => true) true n f0.type [v0] = some y0 ∧ DataW.trod enc P W 0 (fun _ => true) true n f1.type [v1] = some y1 ∧ DataW.trod enc P W 0 (fun _ => true) true n f2.type [v2] = some y2 ∧ DataW.trod enc P W 0 (fun _ => true) true n f3.type [v3] = some y3 := by
  obtain ⟨y0, y1, y2, y3, n, rfl, hl, h0, h1, h2, h3⟩ := Go.Joins.trod_struct4 hs h
  rw [hC] at hl
  match cs, hl with
  | [v0, v1, v2, v3], _ =>
    obtain ⟨o0, k0⟩ := hone_of hone 0 f0 rfl
    obtain ⟨o1, k1⟩ := hone_of hone 1 f1 rfl
    obtain ⟨o2, k2⟩ := hone_of hone 2 f2 rfl
    obtain ⟨o3, k3⟩ := hone_of hone 3 f3 rfl
    exact ⟨v0, v1, v2, v3, y0, y1, y2, y3, n, rfl, rfl, by simpa [o0, k0] using h0, by simpa [o1, k1] using h1, by simpa [o2, k2] using h2, by simpa [o3, k3] using h3⟩

set_option maxRecDepth 100000 in
/-- A list of calls on an ordered list. -/
theorem open_ops18 {a : Option Addr} {len cap : Nat} {d : DataW H} {p : List MemPlace} (h : DataW.Trod enc Try.prog W 0 (fun _ => true) true 46 (.slice a len cap) d p) (hs : SzG Try.prog 46 d) :
    ∃ xs : List O18, (RdG shO W a len xs ∧ ∀ o ∈ xs, TxI W o.key ∧ TxI W o.hi) ∧ len * 64 ≤ 140737488351232 ∧ len ≤ Rows.uptoBulk d := by
  obtain ⟨fuel, hf⟩ := h
  obtain ⟨a', cap', xs, e, h1, h2, h3, h4, h5, h6⟩ := open_rowsG (k := 4) (bytes := 64) (cells := shO.cells) (Q := fun o _ => TxI W o.key ∧ TxI W o.hi) (v := .slice a len cap) Try.underlying46 (by kernel_rfl) (by decide) (by kernel_rfl) (fun h hs => by
    obtain ⟨v0, v1, v2, v3, y0, y1, y2, y3, n, rfl, ex, h0, h1, h2, h3⟩ := nodes4 Try.underlying54 (by kernel_rfl) (by kernel_rfl) h
    rw [ex] at hs
    obtain ⟨k0, e0, _, _⟩ := DataW.trod_int Try.underlying3 h0
    obtain ⟨k3, e3, _, _⟩ := DataW.trod_int Try.underlying3 h3
    obtain ⟨s1, e1, t1⟩ := open_text h1 (sz_partG hs Try.underlying54 1 rfl rfl)
    obtain ⟨s2, e2, t2⟩ := open_text h2 (sz_partG hs Try.underlying54 2 rfl rfl)
    injection e0 with e0
    injection e1 with e1
    injection e2 with e2
    injection e3 with e3
    subst e0 e1 e2 e3
    exact ⟨⟨k0, s1, s2, k3⟩, rfl, t1, t2⟩) hf hs
  injection e with e1 e2 e3
  subst e1 e2 e3
  exact ⟨xs, ⟨⟨rfl, h6⟩, fun o ho => (h5 o ho).elim fun _ h => h⟩, h3, h4⟩
end

end Go.Proofs.Ytkmnhapeohlooaa

/-
  What is handed in, opened: lists of calls on an ordered list, with the bulk of their texts.
-/
namespace Go.Proofs.Ytkmnhapeohlooaa
open Go.ChangeShapes Go.WideShapes Go.ChangeAt Go.RowKit Go.Deep

section
variable {H : Type} {enc : TypeId × Value → H} {W : World}

theorem bulk_mem {d : DataW H} : ∀ {l : List (DataW H)}, d ∈ l → Rows.uptoBulk d ≤ Rows.uptoBulkAll l
  | [], h => by cases h
  | x :: r, h => by
    simp only [Rows.uptoBulkAll]
    rcases List.mem_cons.1 h with rfl | h
    · omega
    · have := bulk_mem h
      omega

theorem open_rowsB {t e : TypeId} {k bytes : Nat} {T : Type} {cells : T → List Value} {Q : T → DataW H → Prop} {fuel : Nat} {v : Value} {d : DataW H} {p : List MemPlace} (ht : Try.prog.underlying t = some (.slice e)) (hk : Try.prog.cellsOf e = k) (hk0 : 0 < k) (hby : Try.prog.bytesOf e = bytes)
    (hone : ∀ {n : Nat} {cs : List Value} {x : DataW H × List MemPlace}, DataW.trod enc Try.prog W 0 (fun _ => true) true n e cs = some x → SzG Try.prog e x.1 → ∃ c : T, cs = cells c ∧ Q c x.1)
    (h : DataW.trod enc Try.prog W 0 (fun _ => true) true fuel t [v] = some (d, p)) (hs : SzG Try.prog t d) :
    ∃ (a : Option Addr) (cap : Nat) (xs : List T), v = .slice a xs.length cap ∧ xs.length ≤ cap ∧ cap ≤ 9223372036854775807 ∧ xs.length * bytes ≤ 140737488351232 ∧ xs.length ≤ Rows.uptoBulk d ∧
      (∀ c ∈ xs, ∃ dd, Q c dd ∧ Rows.uptoBulk dd ≤ Rows.uptoBulk d) ∧ (0 < xs.length → ∃ b o, a = some ⟨b, o, none⟩ ∧ b < W.heap.size ∧ ∀ j c, xs[j]? = some c → ∀ i u, (cells c)[i]? = some u → W.cell? ⟨b, o + j * k + i, none⟩ = some u) := by
  rcases open_slice ht h with ⟨hcs, hx⟩ | ⟨a, l, c, m, n, D, Pl, hcs, _, hl, hcm, hm, hx, hcell⟩
  · injection hcs with hcs
    exact ⟨none, 0, [], hcs, Nat.zero_le _, by decide, by simp, Nat.zero_le _, (by intro c hc; cases hc), fun hn => absurd hn (by simp)⟩
  · injection hcs with hcs
    simp only [Prod.mk.injEq] at hx
    obtain ⟨rfl, _⟩ := hx
    have hmc : m = c := by simpa using hm
    subst hmc
    have hr := sz_lenG hs ht
    rw [hby] at hr
    simp only [List.length_map, List.length_range, reachBytes] at hr
    have each : ∀ i, i < l → ∃ q : T, W.cells? 0 (a.add (i * k)) k = some (cells q) ∧ Q q (D i) := by
      intro i hi
      obtain ⟨cs', h1, h2⟩ := hcell i (by omega)
      rw [hk] at h1
      obtain ⟨q, e1, e2⟩ := hone h2 (sz_elemG hs ht (List.mem_map.2 ⟨i, List.mem_range.2 hi, rfl⟩))
      exact ⟨q, by rw [h1, e1], e2⟩
    by_cases hl0 : l = 0
    · subst hl0
      exact ⟨some a, m, [], hcs, Nat.zero_le _, hcm, by simp, Nat.zero_le _, (by intro c hc; cases hc), fun hn => absurd hn (by simp)⟩
    · obtain ⟨q0, _⟩ := each 0 (by omega)
      have each' : ∀ i, ∃ q : T, i < l → W.cells? 0 (a.add (i * k)) k = some (cells q) ∧ Q q (D i) := by
        intro i
        by_cases hi : i < l
        · obtain ⟨q, hq⟩ := each i hi
          exact ⟨q, fun _ => hq⟩
        · exact ⟨q0, fun h => absurd h hi⟩
      obtain ⟨q, hq⟩ := Classical.axiomOfChoice each'
      have hxl : ((List.range l).map q).length = l := by simp
      refine ⟨some a, m, (List.range l).map q, by rw [hxl]; exact hcs, by rw [hxl]; exact hl, hcm, ?_, ?_, ?_, fun hn => ?_⟩
      · rw [hxl]
        have : l + (m - l) = m := by omega
        rw [this] at hr
        exact Nat.le_trans (Nat.mul_le_mul_right _ hl) hr
      · rw [hxl]
        exact bulk_len (.inr ⟨_, _, rfl, by simp⟩)
      · intro c hc
        obtain ⟨i, hi, rfl⟩ := List.mem_map.1 hc
        refine ⟨_, (hq i (List.mem_range.1 hi)).2, ?_⟩
        have hm : D i ∈ (List.range l).map D := List.mem_map.2 ⟨i, hi, rfl⟩
        have := bulk_mem hm
        simp only [Rows.uptoBulk]
        omega
      · obtain ⟨b, o, spot⟩ := a
        have hall : ∀ i, i < l → ∀ r u, (cells (q i))[r]? = some u → W.cell? ((⟨b, o, spot⟩ : Addr).add (i * k) |>.add r) = some u := by
          intro i hi r u hu
          obtain ⟨_, hlen, hc⟩ := World.cells?_some (hq i hi).1
          have hr := (List.getElem?_eq_some_iff.1 hu).1
          rw [hc r (by omega), hu]
        have hl1 : 0 < l := by omega
        obtain ⟨_, hlen0, hc0⟩ := World.cells?_some (hq 0 hl1).1
        have hu0 : (cells (q 0))[0]? = some (cells (q 0))[0] := List.getElem?_eq_getElem (by omega)
        have hz := hall 0 hl1 0 _ hu0
        have hspot : spot = none := by simpa [Addr.add] using World.cell?_spot hz
        subst hspot
        refine ⟨b, o, rfl, ?_, fun j c hj i u hu => ?_⟩
        · have hb := World.block_lt_of_cell? W _ hz
          simpa [Addr.add] using hb
        · rw [List.getElem?_map, Option.map_eq_some_iff] at hj
          obtain ⟨i', hi', rfl⟩ := hj
          obtain ⟨g1, g2⟩ := List.getElem?_eq_some_iff.1 hi'
          simp at g1 g2
          subst g2
          have := hall j g1 i u hu
          rwa [add_plain, add_plain] at this

theorem open_textB {fuel : Nat} {cs : List Value} {d : DataW H} {p : List MemPlace}
    (h : DataW.trod enc Try.prog W 0 (fun _ => true) true fuel 52 cs = some (d, p)) (hs : SzG Try.prog 52 d) : ∃ s : Sl, cs = [s.v] ∧ TxI W s ∧ s.body.length ≤ Rows.uptoBulk d := by
  have ht : Try.prog.underlying 52 = some (.slice 5) := Try.underlying52
  have he : Try.prog.underlying 5 = some (.int .u8) := Try.underlying5
  have hc : Try.prog.cellsOf 5 = 1 := by kernel_rfl
  have hby : Try.prog.bytesOf 5 = 1 := by kernel_rfl
  rcases open_ints ht he hc h with ⟨hcs, hx⟩ | ⟨x, l, c, zs, hcs, _, hl, hm, hz, hx, hcell, hwz⟩
  · exact ⟨⟨none, 0, []⟩, hcs, ⟨Rd.nil .., (by intro v hv; cases hv), Nat.zero_le _, by decide, by decide⟩, Nat.zero_le _⟩
  · simp only [Prod.mk.injEq] at hx
    obtain ⟨rfl, _⟩ := hx
    have hzl : zs.length = c := by simpa using hz
    have hr := sz_lenG hs ht
    rw [hby] at hr
    simp only [lits, List.length_map, List.length_take, List.length_drop, reachBytes] at hr
    have hw : ∀ i, i < l → 0 ≤ zs.getD i 0 ∧ zs.getD i 0 < 256 := by
      intro i hi
      have hlt : i < zs.length := by omega
      have := wf_u8 (hwz _ (List.getElem_mem hlt))
      simpa [List.getD, hlt] using this
    have hxl : ((zs.take l).map Int.toNat).length = l := by rw [List.length_map, List.length_take]; omega
    have hm2 : c ≤ 9223372036854775807 := by simpa [maxLen] using hm
    refine ⟨⟨some x, c, (zs.take l).map Int.toNat⟩, by rw [hcs, Sl.v, hxl], ⟨?_, ?_, by rw [hxl]; exact hl, hm2, by rw [hxl]; omega⟩, ?_⟩
    · rw [hxl]
      refine ⟨hxl, fun hn => ?_⟩
      have hc0 := hcell 0 (by omega)
      obtain ⟨b, o, spot⟩ := x
      have hspot : spot = none := by simpa [Addr.add] using World.cell?_spot hc0
      subst hspot
      refine ⟨b, o, rfl, ?_, fun i hi => ?_⟩
      · have hb := World.block_lt_of_cell? W _ hc0
        simpa [Addr.add] using hb
      · have h1 := hcell i (by omega)
        rw [add_plain] at h1
        rw [h1]
        have h2 := (hw i hi).1
        have hlt : i < zs.length := by omega
        have h3 : (((zs.take l).map Int.toNat).getD i 0 : Nat) = (zs.getD i 0).toNat := by simp [List.getD, hi, hlt]
        rw [h3, Int.toNat_of_nonneg h2]
    · intro v hv
      obtain ⟨n, hn, rfl⟩ := List.mem_map.1 hv
      have := wf_u8 (hwz _ (List.mem_of_mem_take hn))
      omega
    · rw [hxl]
      exact bulk_len (.inr ⟨_, _, rfl, by simp [lits]; omega⟩)

set_option maxRecDepth 100000 in
/-- A list of calls on an ordered list. -/
theorem open_ops18B {a : Option Addr} {len cap : Nat} {d : DataW H} {p : List MemPlace} (h : DataW.Trod enc Try.prog W 0 (fun _ => true) true 46 (.slice a len cap) d p) (hs : SzG Try.prog 46 d) :
    ∃ xs : List O18, (RdG shO W a len xs ∧ ∀ o ∈ xs, (TxI W o.key ∧ o.key.body.length ≤ Rows.uptoBulk d) ∧ (TxI W o.hi ∧ o.hi.body.length ≤ Rows.uptoBulk d)) ∧ len * 64 ≤ 140737488351232 ∧ len ≤ Rows.uptoBulk d := by
  obtain ⟨fuel, hf⟩ := h
  obtain ⟨a', cap', xs, e, h1, h2, h3, h4, h5, h6⟩ := open_rowsB (k := 4) (bytes := 64) (cells := shO.cells) (Q := fun o dd => (TxI W o.key ∧ o.key.body.length ≤ Rows.uptoBulk dd) ∧ (TxI W o.hi ∧ o.hi.body.length ≤ Rows.uptoBulk dd)) (v := .slice a len cap) Try.underlying46 (by kernel_rfl) (by decide) (by kernel_rfl) (fun h hs => by
    obtain ⟨v0, v1, v2, v3, y0, y1, y2, y3, n, rfl, ex, h0, h1, h2, h3⟩ := nodes4 Try.underlying54 (by kernel_rfl) (by kernel_rfl) h
    rw [ex] at hs
    obtain ⟨k0, e0, _, _⟩ := DataW.trod_int Try.underlying3 h0
    obtain ⟨k3, e3, _, _⟩ := DataW.trod_int Try.underlying3 h3
    obtain ⟨s1, e1, t1, l1⟩ := open_textB h1 (sz_partG hs Try.underlying54 1 rfl rfl)
    obtain ⟨s2, e2, t2, l2⟩ := open_textB h2 (sz_partG hs Try.underlying54 2 rfl rfl)
    injection e0 with e0
    injection e1 with e1
    injection e2 with e2
    injection e3 with e3
    subst e0 e1 e2 e3
    refine ⟨⟨k0, s1, s2, k3⟩, rfl, ⟨t1, ?_⟩, ⟨t2, ?_⟩⟩
    · rw [ex]; simp only [Rows.uptoBulk, Rows.uptoBulkAll]; omega
    · rw [ex]; simp only [Rows.uptoBulk, Rows.uptoBulkAll]; omega) hf hs
  injection e with e1 e2 e3
  subst e1 e2 e3
  exact ⟨xs, ⟨⟨rfl, h6⟩, fun o ho => (h5 o ho).elim fun _ h => ⟨⟨h.1.1.1, Nat.le_trans h.1.1.2 h.2⟩, ⟨h.1.2.1, Nat.le_trans h.1.2.2 h.2⟩⟩⟩, h3, h4⟩
end

end Go.Proofs.Ytkmnhapeohlooaa

/-
  Plain mathematics: numbers of w bits each, laid one behind the other, as one natural number (pk), and read out of it again (upk). Bytes are the case w = 8.
-/
namespace Go.Proofs.Ytkmnhapeohlooaa

/-- The number whose digits to the base 2^w are vs, the lowest first. -/
def pk (w : Nat) : List Nat → Nat
  | [] => 0
  | v :: r => v + 2 ^ w * pk w r

/-- The lowest n digits of N to the base 2^w, the lowest first. -/
def upk (w : Nat) : Nat → Nat → List Nat
  | 0, _ => []
  | n + 1, N => N % 2 ^ w :: upk w n (N / 2 ^ w)

/-- Each number is below 2^w. -/
def Wd (w : Nat) (vs : List Nat) : Prop := ∀ v ∈ vs, v < 2 ^ w

theorem Wd.nil (w : Nat) : Wd w [] := by intro v hv; cases hv
theorem Wd.tail {w v : Nat} {r : List Nat} (h : Wd w (v :: r)) : Wd w r := fun x hx => h x (List.mem_cons_of_mem _ hx)
theorem Wd.head {w v : Nat} {r : List Nat} (h : Wd w (v :: r)) : v < 2 ^ w := h v List.mem_cons_self
theorem U8_wd {b : List Nat} : U8 b ↔ Wd 8 b := Iff.rfl

theorem upk_len (w n N : Nat) : (upk w n N).length = n := by
  induction n generalizing N with
  | zero => rfl
  | succ n ih => simp [upk, ih]

theorem upk_wd (w n N : Nat) : Wd w (upk w n N) := by
  induction n generalizing N with
  | zero => exact Wd.nil w
  | succ n ih =>
    intro v hv
    rcases List.mem_cons.1 hv with rfl | h
    · exact Nat.mod_lt _ (Nat.two_pow_pos w)
    · exact ih _ v h

theorem two_pow_mul_succ (w n : Nat) : 2 ^ (w * (n + 1)) = 2 ^ w * 2 ^ (w * n) := by rw [← Nat.pow_add]; congr 1; rw [Nat.mul_succ, Nat.add_comm]

theorem pk_lt {w : Nat} {vs : List Nat} (h : Wd w vs) : pk w vs < 2 ^ (w * vs.length) := by
  induction vs with
  | nil => simp [pk]
  | cons v r ih =>
    have h1 := h.head
    have h2 := ih h.tail
    rw [List.length_cons, two_pow_mul_succ, pk]
    calc v + 2 ^ w * pk w r < 2 ^ w + 2 ^ w * pk w r := by omega
      _ = 2 ^ w * (pk w r + 1) := by rw [Nat.mul_succ, Nat.add_comm]
      _ ≤ 2 ^ w * 2 ^ (w * r.length) := Nat.mul_le_mul_left _ h2

theorem upk_pk {w : Nat} {vs : List Nat} (h : Wd w vs) : upk w vs.length (pk w vs) = vs := by
  induction vs with
  | nil => rfl
  | cons v r ih =>
    rw [List.length_cons, upk, pk, Nat.add_mul_mod_self_left, Nat.mod_eq_of_lt h.head, Nat.add_mul_div_left _ _ (Nat.two_pow_pos w), Nat.div_eq_of_lt h.head, Nat.zero_add, ih h.tail]

theorem pk_upk (w n N : Nat) : pk w (upk w n N) = N % 2 ^ (w * n) := by
  induction n generalizing N with
  | zero => simp [upk, pk, Nat.mod_one]
  | succ n ih => rw [upk, pk, ih, two_pow_mul_succ, Nat.mod_mul]

theorem upk_mod (w n N K : Nat) (hK : w * n ≤ K) : upk w n (N % 2 ^ K) = upk w n N := by
  induction n generalizing N K with
  | zero => rfl
  | succ n ih =>
    rw [Nat.mul_succ] at hK
    have hw : 2 ^ K = 2 ^ w * 2 ^ (K - w) := by rw [← Nat.pow_add]; congr 1; omega
    rw [upk, upk, hw, Nat.mod_mul_right_mod, Nat.mod_mul_right_div_self, ih _ (K - w) (by omega)]

theorem upk_snoc (w n N : Nat) : upk w (n + 1) N = upk w n N ++ [N / 2 ^ (w * n) % 2 ^ w] := by
  induction n generalizing N with
  | zero => simp [upk]
  | succ n ih => rw [upk, ih, upk, List.cons_append, Nat.div_div_eq_div_mul, ← two_pow_mul_succ]

theorem upk_at (w n N i : Nat) (h : i < n) : (upk w n N).getD i 0 = N / 2 ^ (w * i) % 2 ^ w := by
  induction n generalizing N i with
  | zero => omega
  | succ n ih =>
    cases i with
    | zero => simp [upk]
    | succ i => rw [upk, List.getD_cons_succ, ih _ _ (by omega), Nat.div_div_eq_div_mul, ← two_pow_mul_succ]

theorem upk_take (w n N i : Nat) (h : i ≤ n) : (upk w n N).take i = upk w i N := by
  induction n generalizing N i with
  | zero => obtain rfl : i = 0 := by omega
            rfl
  | succ n ih =>
    cases i with
    | zero => rfl
    | succ i => rw [upk, List.take_succ_cons, ih _ _ (by omega), upk]

theorem pk_at {w : Nat} {vs : List Nat} (h : Wd w vs) (i : Nat) : pk w vs / 2 ^ (w * i) % 2 ^ w = vs.getD i 0 := by
  by_cases hi : i < vs.length
  · rw [← upk_at w vs.length _ i hi, upk_pk h]
  · have := pk_lt h
    rw [Nat.div_eq_of_lt (Nat.lt_of_lt_of_le this (Nat.pow_le_pow_right (by omega) (Nat.mul_le_mul_left _ (by omega)))), Nat.zero_mod]
    simp [List.getD, Nat.le_of_not_lt hi]

theorem pk_snoc (w : Nat) (vs : List Nat) (v : Nat) : pk w (vs ++ [v]) = pk w vs + 2 ^ (w * vs.length) * v := by
  induction vs with
  | nil => simp [pk]
  | cons x r ih => rw [List.cons_append, pk, ih, pk, List.length_cons, two_pow_mul_succ, Nat.mul_add, Nat.mul_assoc, Nat.add_assoc]

/-- One digit is raised by d. -/
theorem upk_add {w n N i d : Nat} (h : i < n) (hd : N / 2 ^ (w * i) % 2 ^ w + d < 2 ^ w) : upk w n (N + 2 ^ (w * i) * d) = (upk w n N).set i (N / 2 ^ (w * i) % 2 ^ w + d) := by
  induction n generalizing N i with
  | zero => omega
  | succ n ih =>
    cases i with
    | zero =>
      simp only [Nat.mul_zero, Nat.pow_zero, Nat.div_one, Nat.one_mul] at hd ⊢
      have h1 : (N + d) % 2 ^ w = N % 2 ^ w + d := by
        rw [← Nat.div_add_mod N (2 ^ w), Nat.add_assoc, Nat.mul_add_mod, Nat.mod_eq_of_lt hd]; simp
      have h2 : (N + d) / 2 ^ w = N / 2 ^ w := by
        rw [← Nat.div_add_mod N (2 ^ w), Nat.add_assoc, Nat.mul_add_div (Nat.two_pow_pos w), Nat.div_eq_of_lt hd]
        simp [Nat.mul_add_div (Nat.two_pow_pos w), Nat.div_eq_of_lt (Nat.mod_lt N (Nat.two_pow_pos w))]
      rw [upk, upk, List.set_cons_zero, h1, h2]
    | succ i =>
      rw [two_pow_mul_succ, ← Nat.div_div_eq_div_mul] at hd
      rw [upk, upk, List.set_cons_succ, two_pow_mul_succ, Nat.mul_assoc, Nat.add_mul_mod_self_left, Nat.add_mul_div_left _ _ (Nat.two_pow_pos w), ih (by omega) hd, Nat.div_div_eq_div_mul]

/-- The row of 0s. -/
theorem upk_zero (w n : Nat) : upk w n 0 = List.replicate n 0 := by
  induction n with
  | zero => rfl
  | succ n ih => simp [upk, ih, List.replicate_succ]

end Go.Proofs.Ytkmnhapeohlooaa

/-
  Lists of bytes: what lies from a place on (for seats without vint).
-/
namespace Go.Proofs.Ytkmnhapeohlooaa
open Go.RowKit

theorem drop_cons {bs : List Nat} {k : Nat} (h : k < bs.length) : bs.drop k = bs.getD k 0 :: bs.drop (k + 1) := by rw [List.drop_eq_getElem_cons h]; simp [List.getD, h]

theorem piece_of (bs : List Nat) (a n : Int) : piece bs a n = (bs.drop a.toNat).take (n.toNat - a.toNat) := by
  unfold piece
  rw [List.drop_take]

theorem u8_take {b : List Nat} (h : U8 b) (n : Nat) : U8 (b.take n) := fun v hv => h v (List.mem_of_mem_take hv)

theorem u8_drop {b : List Nat} (h : U8 b) (n : Nat) : U8 (b.drop n) := fun v hv => h v (List.mem_of_mem_drop hv)

def cut (bs : List Nat) (a m : Nat) : List Nat := (bs.drop a).take m

theorem cut_len {bs : List Nat} {a m : Nat} (h : a + m ≤ bs.length) : (cut bs a m).length = m := by simp [cut]; omega

theorem cut_u8 {bs : List Nat} (h : U8 bs) (a m : Nat) : U8 (cut bs a m) := u8_take (u8_drop h a) m

theorem cut_at {bs : List Nat} {a m i : Nat} (hi : i < m) : (cut bs a m).getD i 0 = bs.getD (a + i) 0 := by
  simp [cut, List.getD, List.getElem?_drop, hi]

theorem piece_cutm {bs : List Nat} (a m : Nat) : piece bs (a : Int) ((a : Int) + (m : Int)) = cut bs a m := by
  unfold piece
  rw [show ((a : Int) + (m : Int)).toNat = a + m from by omega, Int.toNat_natCast, cut, List.drop_take]
  congr 1
  omega


end Go.Proofs.Ytkmnhapeohlooaa

/-
  The order of two texts.
-/
namespace Go.Proofs.Ytkmnhapeohlooaa
open Go.RowKit

/-- The numbers as the library's bytes. -/
def u8s (xs : List Nat) : List UInt8 := Lib.bytesOf (xs.map fun x : Nat => (x : Int))

theorem u8s_cons (x : Nat) (xs : List Nat) : u8s (x :: xs) = UInt8.ofNat x :: u8s xs := by simp [u8s, Lib.bytesOf]

theorem u8_inj {x y : Nat} (hx : x < 256) (hy : y < 256) : UInt8.ofNat x = UInt8.ofNat y ↔ x = y := by
  constructor
  · intro h
    have h1 := congrArg UInt8.toNat h
    rw [UInt8.toNat_ofNat_of_lt' hx, UInt8.toNat_ofNat_of_lt' hy] at h1
    exact h1
  · rintro rfl; rfl

theorem u8_lt {x y : Nat} (hx : x < 256) (hy : y < 256) : UInt8.ofNat x < UInt8.ofNat y ↔ x < y := by
  rw [UInt8.lt_iff_toNat_lt, UInt8.toNat_ofNat_of_lt' hx, UInt8.toNat_ofNat_of_lt' hy]

/-- Which of two texts stands ahead. -/
def ordT : List Nat → List Nat → Int
  | [], [] => 0
  | [], _ :: _ => -1
  | _ :: _, [] => 1
  | x :: r, y :: s => if x < y then -1 else if y < x then 1 else ordT r s

theorem cmp_ord : ∀ {xs ys : List Nat}, U8 xs → U8 ys → Lib.compareBytes (u8s xs) (u8s ys) = ordT xs ys
  | [], [], _, _ => rfl
  | [], y :: s, _, _ => by simp [u8s, Lib.bytesOf, Lib.compareBytes, ordT]
  | x :: r, [], _, _ => by simp [u8s, Lib.bytesOf, Lib.compareBytes, ordT]
  | x :: r, y :: s, h, h2 => by
    have hx : x < 256 := h x List.mem_cons_self
    have hy : y < 256 := h2 y List.mem_cons_self
    rw [u8s_cons, u8s_cons, Lib.compareBytes, ordT, cmp_ord (fun z hz => h z (List.mem_cons_of_mem _ hz)) (fun z hz => h2 z (List.mem_cons_of_mem _ hz))]
    simp only [u8_lt hx hy, u8_lt hy hx]

/-- A slice's bytes, read by the library's entries. -/
theorem run_bytes {P : Program} {w : World} {A : Option Addr} {n c : Nat} {xs : List Nat} (h : Rd .u8 w A n xs) :
    (Extern.Bytes.bytesOf (.slice A n c)).run P w = .ok ⟨(u8s xs).toArray⟩ w := by
  have hl := h.len
  have he : ∀ l : List UInt8, (⟨ByteArray.empty.data ++ l.toArray⟩ : ByteArray) = ⟨l.toArray⟩ := by
    intro l
    apply ByteArray.ext
    show (#[] : Array UInt8) ++ l.toArray = l.toArray
    simp
  cases A with
  | none =>
    rcases Nat.eq_zero_or_pos n with h0 | h0
    · subst h0
      obtain rfl : xs = [] := List.eq_nil_of_length_eq_zero hl
      rfl
    · obtain ⟨b, o, e, _⟩ := h.2 h0
      cases e
  | some a =>
    have hr := Lib.run_loadBytesX (P := P) w (xs.map fun x : Nat => (x : Int)) a .empty (fun j x hj => by
      rw [List.getElem?_map, Option.map_eq_some_iff] at hj
      obtain ⟨y, hy, rfl⟩ := hj
      have hjl : j < xs.length := (List.getElem?_eq_some_iff.1 hy).1
      obtain ⟨b, o, e, _, hc⟩ := h.at_ (j := j) (by omega)
      injection e with e
      subst e
      have e2 : (⟨b, o, none⟩ : Addr).add j = ⟨b, o + j, none⟩ := by unfold Addr.add; split <;> simp_all
      rw [e2, hc]
      simp [List.getD, hy])
    rw [he, List.length_map, hl] at hr
    exact hr

theorem run_compare {P : Program} {w : World} {A A2 : Option Addr} {n c n2 c2 : Nat} {xs ys : List Nat} (h : Rd .u8 w A n xs) (h2 : Rd .u8 w A2 n2 ys) (hu : U8 xs) (hu2 : U8 ys) :
    (Extern.BytealgCompare.compare #[.slice A n c, .slice A2 n2 c2]).run P w = .ok (.int .i64 (ordT xs ys)) w := by
  have hr := run_bytes (P := P) (c := c) h
  have hr2 := run_bytes (P := P) (c := c2) h2
  change Sem.run P (do pure (goInt (Extern.BytealgCompare.cmp (← Extern.Bytes.bytesOf (.slice A n c)) (← Extern.Bytes.bytesOf (.slice A2 n2 c2))))) w = _
  simp only [Sem.run_bind, hr, hr2, Sem.run_pure, Result.andThen]
  rw [Lib.cmp_eq, cmp_ord hu hu2]
  rfl

/-- The order of two texts: an order. -/
theorem ordT_nil_nil : ordT [] [] = 0 := rfl

theorem ordT_nil_cons {y : Nat} {s : List Nat} : ordT [] (y :: s) = -1 := rfl

theorem ordT_cons_nil {x : Nat} {r : List Nat} : ordT (x :: r) [] = 1 := rfl

theorem ordT_lt {x y : Nat} {r s : List Nat} (h : x < y) : ordT (x :: r) (y :: s) = -1 := by rw [ordT, if_pos h]

theorem ordT_gt {x y : Nat} {r s : List Nat} (h : y < x) : ordT (x :: r) (y :: s) = 1 := by rw [ordT, if_neg (by omega), if_pos h]

theorem ordT_eq {x y : Nat} {r s : List Nat} (h : x = y) : ordT (x :: r) (y :: s) = ordT r s := by rw [ordT, if_neg (by omega), if_neg (by omega)]

theorem ordT_end {xs ys : List Nat} {j : Nat} (h : xs.length ≤ j ∨ ys.length ≤ j) (h2 : j ≤ xs.length) (h3 : j ≤ ys.length) :
    ordT (xs.drop j) (ys.drop j) = if xs.length < ys.length then -1 else if ys.length < xs.length then 1 else 0 := by
  by_cases hx : xs.length ≤ j
  · rw [List.drop_of_length_le hx]
    by_cases hy : ys.length ≤ j
    · rw [List.drop_of_length_le hy, if_neg (by omega), if_neg (by omega)]; rfl
    · rw [drop_cons (by omega), if_pos (by omega)]; rfl
  · have hy : ys.length ≤ j := by omega
    rw [List.drop_of_length_le hy, drop_cons (by omega), if_neg (by omega), if_pos (by omega)]; rfl

/-- Behind what only adds, all that there was reads as before. -/
theorem Ext.cells {a b : World} (h : Ext a b) : ∀ g o, g < a.heap.size → b.cell? ⟨g, o, none⟩ = a.cell? ⟨g, o, none⟩ := fun g o hg => Below.cell h (p := ⟨g, o, none⟩) hg

theorem drew3 (w : World) (a b c : Nat) : ((w.drewN a).drewN b).drewN c = w.drewN (a + b + c) := by rw [World.drewN_drewN, World.drewN_drewN, Nat.add_assoc]

end Go.Proofs.Ytkmnhapeohlooaa

/-
  How many texts stand ahead of another one.
-/
namespace Go.Proofs.Ytkmnhapeohlooaa
open Go.RowKit

/-- Is one of the texts too long? -/
def anyLong (ss : List (List Nat)) : Bool := ss.any fun s => decide (200 < s.length)
theorem anyLong_iff {ss : List (List Nat)} : anyLong ss = true ↔ ∃ s ∈ ss, 200 < s.length := by simp [anyLong]
theorem anyLong_no {ss : List (List Nat)} (h : anyLong ss = false) : ∀ s ∈ ss, s.length ≤ 200 := by
  intro s hs
  rcases Nat.lt_or_ge 200 s.length with h1 | h1
  · rw [anyLong_iff.2 ⟨s, hs, h1⟩] at h; cases h
  · exact h1

/-- How many texts stand ahead of t, up to the first that doesn't. -/
def skN (t : List Nat) : List (List Nat) → Nat
  | [] => 0
  | s :: r => if ordT s t < 0 then skN t r + 1 else 0

end Go.Proofs.Ytkmnhapeohlooaa

/-
  Layer 10's mathematics: the unlike texts in order, and each text's place.
-/
namespace Go.Proofs.Ytkmnhapeohlooaa

theorem ordT_self : ∀ a : List Nat, ordT a a = 0
  | [] => rfl
  | x :: r => by rw [ordT, if_neg (Nat.lt_irrefl _), if_neg (Nat.lt_irrefl _)]; exact ordT_self r
theorem ordT_zero : ∀ {a b : List Nat}, ordT a b = 0 → a = b
  | [], [], _ => rfl
  | [], _ :: _, h => by rw [ordT] at h; exact absurd h (by decide)
  | _ :: _, [], h => by rw [ordT] at h; exact absurd h (by decide)
  | x :: r, y :: s, h => by
    rw [ordT] at h
    split at h
    · exact absurd h (by decide)
    · split at h
      · exact absurd h (by decide)
      · rw [ordT_zero h, show x = y by omega]
theorem ordT_swap : ∀ a b : List Nat, ordT b a = - ordT a b
  | [], [] => rfl
  | [], _ :: _ => rfl
  | _ :: _, [] => rfl
  | x :: r, y :: s => by
    rw [ordT, ordT]
    rcases Nat.lt_trichotomy x y with h | h | h
    · rw [if_neg (by omega), if_pos h, if_pos h]; rfl
    · subst h; rw [if_neg (Nat.lt_irrefl _), if_neg (Nat.lt_irrefl _), if_neg (Nat.lt_irrefl _), if_neg (Nat.lt_irrefl _)]; exact ordT_swap r s
    · rw [if_pos h, if_neg (by omega), if_pos h]
theorem ordT_trans : ∀ {a b c : List Nat}, ordT a b < 0 → ordT b c < 0 → ordT a c < 0
  | [], [], _, h, _ => by rw [ordT] at h; exact absurd h (by decide)
  | [], _ :: _, [], _, h => by rw [ordT] at h; exact absurd h (by decide)
  | [], _ :: _, _ :: _, _, _ => by rw [ordT]; decide
  | _ :: _, [], _, h, _ => by rw [ordT] at h; exact absurd h (by decide)
  | _ :: _, _ :: _, [], _, h => by rw [ordT] at h; exact absurd h (by decide)
  | x :: r, y :: s, z :: t, h1, h2 => by
    rw [ordT] at h1 h2 ⊢
    rcases Nat.lt_trichotomy x y with h | h | h
    · rcases Nat.lt_trichotomy y z with k | k | k
      · rw [if_pos (by omega)]; decide
      · rw [if_pos (by omega)]; decide
      · rw [if_neg (by omega), if_pos k] at h2; exact absurd h2 (by decide)
    · rw [if_neg (by omega), if_neg (by omega)] at h1
      rcases Nat.lt_trichotomy y z with k | k | k
      · rw [if_pos (by omega)]; decide
      · rw [if_neg (by omega), if_neg (by omega)] at h2
        rw [if_neg (by omega), if_neg (by omega)]
        exact ordT_trans h1 h2
      · rw [if_neg (by omega), if_pos k] at h2; exact absurd h2 (by decide)
    · rw [if_neg (by omega), if_pos h] at h1; exact absurd h1 (by decide)

/-- Texts in order, each unlike the next. -/
def Asc (L : List (List Nat)) : Prop := L.Pairwise fun a b => ordT a b < 0

theorem skN_le (t : List Nat) : ∀ L : List (List Nat), skN t L ≤ L.length
  | [] => Nat.le_refl _
  | s :: r => by
    have := skN_le t r
    unfold skN
    split <;> simp <;> omega
theorem skN_lt {t : List Nat} : ∀ {L : List (List Nat)} {i : Nat} {x : List Nat}, i < skN t L → L[i]? = some x → ordT x t < 0
  | [], i, x, h, _ => by simp [skN] at h
  | s :: r, i, x, h, hx => by
    unfold skN at h
    split at h
    · rename_i hs
      cases i with
      | zero => simp at hx; subst hx; exact hs
      | succ i => exact skN_lt (L := r) (i := i) (by omega) (by simpa using hx)
    · omega
theorem skN_ge {t : List Nat} : ∀ {L : List (List Nat)} {i : Nat} {x : List Nat}, Asc L → skN t L ≤ i → L[i]? = some x → 0 ≤ ordT x t
  | [], i, x, _, _, hx => by simp at hx
  | s :: r, i, x, ha, h, hx => by
    obtain ⟨h1, h2⟩ := List.pairwise_cons.1 ha
    unfold skN at h
    split at h
    · cases i with
      | zero => omega
      | succ i => exact skN_ge (L := r) (i := i) h2 (by omega) (by simpa using hx)
    · rename_i hs
      cases i with
      | zero => simp at hx; subst hx; omega
      | succ i =>
        have hm : x ∈ r := List.mem_of_getElem? (by simpa using hx)
        have h3 := h1 x hm
        rcases Int.lt_or_le (ordT x t) 0 with h4 | h4
        · exact absurd (ordT_trans h3 h4) (by omega)
        · exact h4
/-- The place of a text that is there. -/
theorem skN_at {t : List Nat} {L : List (List Nat)} (ha : Asc L) (ht : t ∈ L) : L[skN t L]? = some t := by
  obtain ⟨i, hi⟩ := List.getElem?_of_mem ht
  have hil : i < L.length := (List.getElem?_eq_some_iff.1 hi).1
  rcases Nat.lt_trichotomy i (skN t L) with h | h | h
  · have := skN_lt h hi
    rw [ordT_self] at this
    omega
  · rw [← h]; exact hi
  · obtain ⟨x, hx⟩ : ∃ x, L[skN t L]? = some x := ⟨_, List.getElem?_eq_getElem (by omega)⟩
    have h1 := skN_ge ha (Nat.le_refl _) hx
    have h2 : ordT x t < 0 := by
      obtain ⟨q1, rfl⟩ := List.getElem?_eq_some_iff.1 hx
      obtain ⟨q2, rfl⟩ := List.getElem?_eq_some_iff.1 hi
      exact List.pairwise_iff_getElem.1 ha _ _ q1 q2 h
    omega
theorem skN_notMem {t : List Nat} {L : List (List Nat)} (h : L[skN t L]? ≠ some t) (ha : Asc L) : ¬ t ∈ L := fun ht => h (skN_at ha ht)

/-- The texts and t, if it isn't among them. -/
def insL (L : List (List Nat)) (t : List Nat) : List (List Nat) := if L[skN t L]? = some t then L else L.take (skN t L) ++ t :: L.drop (skN t L)
theorem insL_yes {L : List (List Nat)} {t : List Nat} (h : L[skN t L]? = some t) : insL L t = L := if_pos h
theorem insL_no {L : List (List Nat)} {t : List Nat} (h : ¬ L[skN t L]? = some t) : insL L t = L.take (skN t L) ++ t :: L.drop (skN t L) := if_neg h
theorem insL_mem {L : List (List Nat)} {t x : List Nat} : x ∈ insL L t ↔ x ∈ L ∨ x = t := by
  by_cases h : L[skN t L]? = some t
  · rw [insL_yes h]
    constructor
    · exact .inl
    · rintro (h1 | rfl)
      · exact h1
      · exact List.mem_of_getElem? h
  · rw [insL_no h]
    have e : x ∈ L ↔ x ∈ L.take (skN t L) ∨ x ∈ L.drop (skN t L) := by
      rw [← List.mem_append, List.take_append_drop]
    simp only [List.mem_append, List.mem_cons, e]
    constructor
    · rintro (h1 | h1 | h1)
      · exact .inl (.inl h1)
      · exact .inr h1
      · exact .inl (.inr h1)
    · rintro ((h1 | h1) | h1)
      · exact .inl h1
      · exact .inr (.inr h1)
      · exact .inr (.inl h1)
theorem insL_asc {L : List (List Nat)} {t : List Nat} (ha : Asc L) : Asc (insL L t) := by
  by_cases h : L[skN t L]? = some t
  · rw [insL_yes h]; exact ha
  · rw [insL_no h]
    have hp : Asc (L.take (skN t L) ++ L.drop (skN t L)) := by rw [List.take_append_drop]; exact ha
    obtain ⟨h1, h2, h3⟩ := List.pairwise_append.1 hp
    have hlt : ∀ x ∈ L.take (skN t L), ordT x t < 0 := by
      intro x hx
      obtain ⟨i, hi⟩ := List.getElem?_of_mem hx
      rw [List.getElem?_take] at hi
      split at hi
      · rename_i hi2; exact skN_lt hi2 hi
      · cases hi
    have hgt : ∀ x ∈ L.drop (skN t L), ordT t x < 0 := by
      intro x hx
      obtain ⟨i, hi⟩ := List.getElem?_of_mem hx
      rw [List.getElem?_drop] at hi
      have h4 := skN_ge ha (Nat.le_add_right _ _) hi
      have h5 : ordT x t ≠ 0 := by
        intro e
        obtain rfl := ordT_zero e
        exact skN_notMem h ha (List.mem_of_getElem? hi)
      rw [ordT_swap x t]
      omega
    refine List.pairwise_append.2 ⟨h1, List.pairwise_cons.2 ⟨hgt, h2⟩, ?_⟩
    intro x hx y hy
    rcases List.mem_cons.1 hy with rfl | hy
    · exact hlt x hx
    · exact h3 x hx y hy

/-- The unlike texts in order. -/
def dents (ss : List (List Nat)) : List (List Nat) := ss.foldl insL []
theorem dents_snoc (ss : List (List Nat)) (t : List Nat) : dents (ss ++ [t]) = insL (dents ss) t := by simp [dents, List.foldl_append]
theorem dents_step {ss : List (List Nat)} {j : Nat} {t : List Nat} (h : ss[j]? = some t) : dents (ss.take (j + 1)) = insL (dents (ss.take j)) t := by
  obtain ⟨h1, rfl⟩ := List.getElem?_eq_some_iff.1 h
  rw [List.take_succ_eq_append_getElem h1, dents_snoc]
theorem foldl_ins : ∀ (ss L : List (List Nat)), Asc L → Asc (ss.foldl insL L) ∧ ∀ x, x ∈ ss.foldl insL L ↔ x ∈ L ∨ x ∈ ss
  | [], L, h => ⟨h, fun x => by simp⟩
  | t :: r, L, h => by
    obtain ⟨h1, h2⟩ := foldl_ins r (insL L t) (insL_asc h)
    refine ⟨h1, fun x => ?_⟩
    rw [List.foldl_cons, h2, insL_mem, List.mem_cons]
    constructor
    · rintro ((h | h) | h)
      · exact .inl h
      · exact .inr (.inl h)
      · exact .inr (.inr h)
    · rintro (h | h | h)
      · exact .inl (.inl h)
      · exact .inl (.inr h)
      · exact .inr h
theorem dents_asc (ss : List (List Nat)) : Asc (dents ss) := (foldl_ins ss [] List.Pairwise.nil).1
theorem dents_mem {ss : List (List Nat)} {x : List Nat} : x ∈ dents ss ↔ x ∈ ss := by rw [dents, (foldl_ins ss [] List.Pairwise.nil).2 x]; simp
theorem insL_len (L : List (List Nat)) (t : List Nat) : (insL L t).length ≤ L.length + 1 := by
  by_cases h : L[skN t L]? = some t
  · rw [insL_yes h]; omega
  · rw [insL_no h]; simp; omega
theorem dents_len : ∀ (n : Nat) (ss : List (List Nat)), ss.length = n → (dents ss).length ≤ n
  | 0, ss, h => by rw [List.eq_nil_of_length_eq_zero h]; simp [dents]
  | n + 1, ss, h => by
    have hl : n < ss.length := by omega
    have h1 := dents_len n (ss.take n) (by simp; omega)
    have h2 := insL_len (dents (ss.take n)) ss[n]
    rw [← dents_step (List.getElem?_eq_getElem hl), List.take_of_length_le (by omega)] at h2
    omega

/-- Texts in order with the same members are the same. -/
theorem Asc.ext : ∀ {L M : List (List Nat)}, Asc L → Asc M → (∀ x, x ∈ L ↔ x ∈ M) → L = M
  | [], [], _, _, _ => rfl
  | [], y :: s, _, _, h => absurd ((h y).2 (by simp)) (by simp)
  | x :: r, [], _, _, h => absurd ((h x).1 (by simp)) (by simp)
  | x :: r, y :: s, h1, h2, h => by
    obtain ⟨a1, a2⟩ := List.pairwise_cons.1 h1
    obtain ⟨b1, b2⟩ := List.pairwise_cons.1 h2
    have hself : ∀ z : List Nat, ¬ ordT z z < 0 := fun z => by rw [ordT_self]; omega
    have e : x = y := by
      rcases List.mem_cons.1 ((h x).1 (by simp)) with e | hx
      · exact e
      · rcases List.mem_cons.1 ((h y).2 (by simp)) with e | hy
        · exact e.symm
        · exact absurd (ordT_trans (a1 y hy) (b1 x hx)) (hself x)
    subst e
    congr 1
    refine Asc.ext a2 b2 fun z => ⟨fun hz => ?_, fun hz => ?_⟩
    · rcases List.mem_cons.1 ((h z).1 (List.mem_cons_of_mem _ hz)) with e | hz2
      · subst e; exact absurd (a1 z hz) (hself z)
      · exact hz2
    · rcases List.mem_cons.1 ((h z).2 (List.mem_cons_of_mem _ hz)) with e | hz2
      · subst e; exact absurd (b1 z hz) (hself z)
      · exact hz2

theorem anyLong_snoc {ss : List (List Nat)} {t : List Nat} (h : anyLong ss = false) (ht : t.length ≤ 200) : anyLong (ss ++ [t]) = false := by
  have h2 : anyLong [t] = false := by simp [anyLong]; omega
  unfold anyLong at h h2 ⊢
  rw [List.any_append, h, h2]; rfl
theorem dents_short {ss : List (List Nat)} (h : anyLong ss = false) : ∀ x ∈ dents ss, x.length ≤ 200 := fun x hx => anyLong_no h x (dents_mem.1 hx)

/-- What Index answers: the entries, the numbers, the error's number. -/
def idxR (ss : List (List Nat)) : List (List Nat) × List Nat × Int := if 4096 < ss.length ∨ anyLong ss = true then ([], [], 4) else (dents ss, ss.map (fun s => skN s (dents ss)), 0)
theorem idxR_bad {ss : List (List Nat)} (h : 4096 < ss.length ∨ anyLong ss = true) : idxR ss = ([], [], 4) := if_pos h
theorem idxR_good {ss : List (List Nat)} (h : ss.length ≤ 4096) (h2 : anyLong ss = false) : idxR ss = (dents ss, ss.map (fun s => skN s (dents ss)), 0) := if_neg (fun q => by
  rcases q with q | q
  · omega
  · rw [h2] at q; cases q)

end Go.Proofs.Ytkmnhapeohlooaa
