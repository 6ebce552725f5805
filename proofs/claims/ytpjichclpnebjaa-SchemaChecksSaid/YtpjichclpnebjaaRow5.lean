/-
  From the row's reading of rows, sets, columns, schemas and operations to the words of our walks.
-/
import Derived.Test.YtpjichclpnebjaaZ10
import Derived.Test.YtpjichclpnebjaaZ2
import Derived.Test.YtpjichclpnebjaaRow4
import Derived.Deep.Slices
namespace Go.Proofs.Ytpjichclpnebjaa
open Go.ChangeShapes Go.WideShapes Go.ChangeAt Go.RowKit Go.Deep

theorem nodes3 {H : Type} {enc : TypeId × Value → H} {P : Program} {W : World} {t : TypeId} {f0 f1 f2 : Field} {fuel : Nat} {cs : List Value} {x : DataW H × List MemPlace} (hs : P.underlying t = some (.struct #[f0, f1, f2])) (hone : oneCellFields P #[f0, f1, f2] = true) (hC : P.cellsOf t = 3)
    (h : DataW.trod enc P W 0 (fun _ => true) true fuel t cs = some x) :
    ∃ v0 v1 v2 y0 y1 y2 n, cs = [v0, v1, v2] ∧ x = (.agg [y0.1, y1.1, y2.1], y0.2 ++ (y1.2 ++ y2.2)) ∧ DataW.trod enc P W 0 (fun _ => true) true n f0.type [v0] = some y0 ∧ DataW.trod enc P W 0 (fun _ => true) true n f1.type [v1] = some y1 ∧ DataW.trod enc P W 0 (fun _ => true) true n f2.type [v2] = some y2 := by
  obtain ⟨y0, y1, y2, n, rfl, hl, h0, h1, h2⟩ := trod_struct3 hs h
  rw [hC] at hl
  match cs, hl with
  | [v0, v1, v2], _ =>
    obtain ⟨o0, k0⟩ := hone_of hone 0 f0 rfl
    obtain ⟨o1, k1⟩ := hone_of hone 1 f1 rfl
    obtain ⟨o2, k2⟩ := hone_of hone 2 f2 rfl
    exact ⟨v0, v1, v2, y0, y1, y2, n, rfl, rfl, by simpa [o0, k0] using h0, by simpa [o1, k1] using h1, by simpa [o2, k2] using h2⟩

section
variable {H : Type} {enc : TypeId × Value → H} {W : World}

set_option maxRecDepth 100000 in
/-- A cell out of its three cells. -/
theorem open_cell3 {fuel : Nat} {cs : List Value} {x : DataW H × List MemPlace} (h : DataW.trod enc Try.prog W 0 (fun _ => true) true fuel 82 cs = some x) (hs : Sz Try.prog 82 x.1) :
    ∃ c : Ci, cs = c.cells ∧ c.In W ∧ c.txt.length ≤ Rows.uptoBulk x.1 := by
  obtain ⟨v0, v1, v2, y0, y1, y2, n, rfl, rfl, h0, h1, h2⟩ := nodes3 Try.underlying82 (by kernel_rfl) (by kernel_rfl) h
  have hs2 := sz_part hs Try.underlying82 2 rfl rfl
  obtain ⟨c, _, e0, e1, e2, hin, hb⟩ := open_parts h0 h1 h2 hs2
  subst e0 e1 e2
  refine ⟨c, rfl, hin, ?_⟩
  simp only [Rows.uptoBulk, Rows.uptoBulkAll]
  omega

/-- The elements of a slice whose elements are structs of k cells. -/
theorem open_rows {t e : TypeId} {k bytes : Nat} {T : Type} {cells : T → List Value} {Q : T → DataW H → Prop} {fuel : Nat} {v : Value} {d : DataW H} {p : List MemPlace} (ht : Try.prog.underlying t = some (.slice e)) (hk : Try.prog.cellsOf e = k) (hk0 : 0 < k) (hby : Try.prog.bytesOf e = bytes)
    (hone : ∀ {n : Nat} {cs : List Value} {x : DataW H × List MemPlace}, DataW.trod enc Try.prog W 0 (fun _ => true) true n e cs = some x → Sz Try.prog e x.1 → ∃ c : T, cs = cells c ∧ Q c x.1)
    (h : DataW.trod enc Try.prog W 0 (fun _ => true) true fuel t [v] = some (d, p)) (hs : Sz Try.prog t d) :
    ∃ (a : Option Addr) (cap : Nat) (xs : List T), v = .slice a xs.length cap ∧ xs.length ≤ cap ∧ cap ≤ 9223372036854775807 ∧ xs.length * bytes ≤ 140737488351232 ∧ xs.length ≤ Rows.uptoBulk d ∧
      (∀ c ∈ xs, ∃ dd, Q c dd) ∧ (0 < xs.length → ∃ b o, a = some ⟨b, o, none⟩ ∧ b < W.heap.size ∧ ∀ j c, xs[j]? = some c → ∀ i u, (cells c)[i]? = some u → W.cell? ⟨b, o + j * k + i, none⟩ = some u) := by
  rcases open_slice ht h with ⟨hcs, hx⟩ | ⟨a, l, c, m, n, D, Pl, hcs, _, hl, hcm, hm, hx, hcell⟩
  · injection hcs with hcs
    exact ⟨none, 0, [], hcs, Nat.zero_le _, by decide, by simp, Nat.zero_le _, (by intro c hc; cases hc), fun hn => absurd hn (by simp)⟩
  · injection hcs with hcs
    simp only [Prod.mk.injEq] at hx
    obtain ⟨rfl, _⟩ := hx
    have hmc : m = c := by simpa using hm
    subst hmc
    have hr := sz_len hs ht
    rw [hby] at hr
    simp only [List.length_map, List.length_range, reachBytes] at hr
    have each : ∀ i, i < l → ∃ q : T, W.cells? 0 (a.add (i * k)) k = some (cells q) ∧ Q q (D i) := by
      intro i hi
      obtain ⟨cs', h1, h2⟩ := hcell i (by omega)
      rw [hk] at h1
      obtain ⟨q, e1, e2⟩ := hone h2 (sz_elem hs ht (List.mem_map.2 ⟨i, List.mem_range.2 hi, rfl⟩))
      exact ⟨q, by rw [h1, e1], e2⟩
    by_cases hl0 : l = 0
    · subst hl0
      exact ⟨some a, m, [], hcs, Nat.zero_le _, hcm, by simp, Nat.zero_le _, (by intro c hc; cases hc), fun hn => absurd hn (by simp)⟩
    · obtain ⟨q0, _⟩ := each 0 (by omega)
      have each' : ∀ i, ∃ q : T, i < l → W.cells? 0 (a.add (i * k)) k = some (cells q) ∧ Q q (D i) := by
        intro i
        by_cases hi : i < l
        · obtain ⟨q, hq⟩ := each i hi
          exact ⟨q, fun _ => hq⟩
        · exact ⟨q0, fun h => absurd h hi⟩
      obtain ⟨q, hq⟩ := Classical.axiomOfChoice each'
      have hxl : ((List.range l).map q).length = l := by simp
      refine ⟨some a, m, (List.range l).map q, by rw [hxl]; exact hcs, by rw [hxl]; exact hl, hcm, ?_, ?_, ?_, fun hn => ?_⟩
      · rw [hxl]
        have : l + (m - l) = m := by omega
        rw [this] at hr
        exact Nat.le_trans (Nat.mul_le_mul_right _ hl) hr
      · rw [hxl]
        exact bulk_len (.inr ⟨_, _, rfl, by simp⟩)
      · intro c hc
        obtain ⟨i, hi, rfl⟩ := List.mem_map.1 hc
        exact ⟨_, (hq i (List.mem_range.1 hi)).2⟩
      · obtain ⟨b, o, spot⟩ := a
        have hall : ∀ i, i < l → ∀ r u, (cells (q i))[r]? = some u → W.cell? ((⟨b, o, spot⟩ : Addr).add (i * k) |>.add r) = some u := by
          intro i hi r u hu
          obtain ⟨_, hlen, hc⟩ := World.cells?_some (hq i hi).1
          have hr := (List.getElem?_eq_some_iff.1 hu).1
          rw [hc r (by omega), hu]
        have hl1 : 0 < l := by omega
        obtain ⟨_, hlen0, hc0⟩ := World.cells?_some (hq 0 hl1).1
        have hu0 : (cells (q 0))[0]? = some (cells (q 0))[0] := List.getElem?_eq_getElem (by omega)
        have hz := hall 0 hl1 0 _ hu0
        have hspot : spot = none := by simpa [Addr.add] using World.cell?_spot hz
        subst hspot
        refine ⟨b, o, rfl, ?_, fun j c hj i u hu => ?_⟩
        · have hb := World.block_lt_of_cell? W _ hz
          simpa [Addr.add] using hb
        · rw [List.getElem?_map, Option.map_eq_some_iff] at hj
          obtain ⟨i', hi', rfl⟩ := hj
          obtain ⟨g1, g2⟩ := List.getElem?_eq_some_iff.1 hi'
          simp at g1 g2
          subst g2
          have := hall j g1 i u hu
          rwa [add_plain, add_plain] at this

set_option maxRecDepth 100000 in
theorem open_row {fuel : Nat} {v : Value} {d : DataW H} {p : List MemPlace} (h : DataW.trod enc Try.prog W 0 (fun _ => true) true fuel 25 [v] = some (d, p)) (hs : Sz Try.prog 25 d) :
    ∃ (a : Option Addr) (n cap : Nat) (xs : List Ci), v = .slice a n cap ∧ RdX W a n xs ∧ n ≤ cap ∧ cap ≤ 9223372036854775807 ∧ n * 40 ≤ 140737488351232 ∧ n ≤ Rows.uptoBulk d := by
  obtain ⟨a, cap, xs, e, h1, h2, h3, h4, h5, h6⟩ := open_rows (k := 3) (bytes := 40) (cells := Ci.cells) (Q := fun c _ => c.In W) Try.underlying25 (by kernel_rfl) (by decide) (by kernel_rfl) (fun h hs => by
    obtain ⟨c, e1, e2, _⟩ := open_cell3 h hs
    exact ⟨c, e1, e2⟩) h hs
  refine ⟨a, xs.length, cap, xs, e, ⟨rfl, fun hn => ?_⟩, h1, h2, h3, h4⟩
  obtain ⟨b, o, ea, hb, hc⟩ := h6 hn
  refine ⟨b, o, ea, hb, fun j x hj => ⟨?_, ?_, ?_, ?_⟩⟩
  · exact hc j x hj 0 _ rfl
  · exact hc j x hj 1 _ rfl
  · exact hc j x hj 2 _ rfl
  · obtain ⟨_, hin⟩ := h5 x (List.mem_of_getElem? hj)
    exact hin

set_option maxRecDepth 100000 in
theorem open_set4 {fuel : Nat} {cs : List Value} {x : DataW H × List MemPlace} (h : DataW.trod enc Try.prog W 0 (fun _ => true) true fuel 84 cs = some x) (hs : Sz Try.prog 84 x.1) :
    ∃ c : Si, cs = c.cells ∧ c.cell.In W := by
  obtain ⟨y0, y1, n, rfl, hl, h0, h1⟩ := trod_struct2 Try.underlying84 h
  have hs1 := sz_part hs Try.underlying84 1 rfl rfl
  have hC : Try.prog.cellsOf 84 = 4 := by kernel_rfl
  have hC0 : Try.prog.cellsOf 3 = 1 := by kernel_rfl
  have hC1 : Try.prog.cellsOf 82 = 3 := by kernel_rfl
  rw [hC] at hl
  match cs, hl with
  | [v0, v1, v2, v3], _ =>
    have g0 : DataW.trod enc Try.prog W 0 (fun _ => true) true n 3 [v0] = some y0 := by simpa [hC0] using h0
    have g1 : DataW.trod enc Try.prog W 0 (fun _ => true) true n 82 [v1, v2, v3] = some y1 := by simpa [hC1] using h1
    obtain ⟨k, e0, _, _⟩ := DataW.trod_int Try.underlying3 g0
    injection e0 with e0
    obtain ⟨c, e1, hin, _⟩ := open_cell3 g1 hs1
    refine ⟨⟨k, c⟩, ?_, hin⟩
    rw [e0, e1]
    rfl

set_option maxRecDepth 100000 in
theorem open_sets {fuel : Nat} {v : Value} {d : DataW H} {p : List MemPlace} (h : DataW.trod enc Try.prog W 0 (fun _ => true) true fuel 26 [v] = some (d, p)) (hs : Sz Try.prog 26 d) :
    ∃ (a : Option Addr) (n cap : Nat) (xs : List Si), v = .slice a n cap ∧ RdT W a n xs ∧ n ≤ cap ∧ cap ≤ 9223372036854775807 ∧ n * 48 ≤ 140737488351232 ∧ n ≤ Rows.uptoBulk d := by
  obtain ⟨a, cap, xs, e, h1, h2, h3, h4, h5, h6⟩ := open_rows (k := 4) (bytes := 48) (cells := Si.cells) (Q := fun c _ => c.cell.In W) Try.underlying26 (by kernel_rfl) (by decide) (by kernel_rfl) (fun h hs => by
    obtain ⟨c, e1, e2⟩ := open_set4 h hs
    exact ⟨c, e1, e2⟩) h hs
  refine ⟨a, xs.length, cap, xs, e, ⟨rfl, fun hn => ?_⟩, h1, h2, h3, h4⟩
  obtain ⟨b, o, ea, hb, hc⟩ := h6 hn
  refine ⟨b, o, ea, hb, fun j x hj => ⟨?_, ?_, ?_, ?_, ?_⟩⟩
  · exact hc j x hj 0 _ rfl
  · exact hc j x hj 1 _ rfl
  · exact hc j x hj 2 _ rfl
  · exact hc j x hj 3 _ rfl
  · obtain ⟨_, hin⟩ := h5 x (List.mem_of_getElem? hj)
    exact hin

set_option maxRecDepth 100000 in
theorem open_col3 {fuel : Nat} {cs : List Value} {x : DataW H × List MemPlace} (h : DataW.trod enc Try.prog W 0 (fun _ => true) true fuel 89 cs = some x) (hs : Sz Try.prog 89 x.1) :
    ∃ c : Col, cs = c.cells ∧ c.name.size ≤ 140737488355328 := by
  obtain ⟨v0, v1, v2, y0, y1, y2, n, rfl, rfl, h0, h1, h2⟩ := nodes3 Try.underlying89 (by kernel_rfl) (by kernel_rfl) h
  have hs0 := sz_part hs Try.underlying89 0 rfl rfl
  obtain ⟨s, e0, hx0, _⟩ := DataW.trod_string Try.underlying9 h0
  obtain ⟨k, e1, _, _⟩ := DataW.trod_int Try.underlying3 h1
  obtain ⟨b, e2, _⟩ := DataW.trod_bool Try.underlying4 h2
  injection e0 with e0
  injection e1 with e1
  injection e2 with e2
  subst e0 e1 e2
  refine ⟨⟨s, k, b⟩, rfl, ?_⟩
  have hy : y0.1 = .lit (.string s.data.toList) := by rw [hx0]
  rw [hy] at hs0
  have := hs0 s.data.toList.length (by simp [DataW.weights])
  simp [reachBytes] at this
  show s.size ≤ _
  have e : s.size = s.data.size := rfl
  omega

set_option maxRecDepth 100000 in
theorem open_cols {fuel : Nat} {v : Value} {d : DataW H} {p : List MemPlace} (h : DataW.trod enc Try.prog W 0 (fun _ => true) true fuel 22 [v] = some (d, p)) (hs : Sz Try.prog 22 d) :
    ∃ (a : Option Addr) (n cap : Nat) (xs : List Col), v = .slice a n cap ∧ SchIn W a n cap xs ∧ n * 32 ≤ 140737488351232 := by
  obtain ⟨a, cap, xs, e, h1, h2, h3, h4, h5, h6⟩ := open_rows (k := 3) (bytes := 32) (cells := Col.cells) (Q := fun c _ => c.name.size ≤ 140737488355328) Try.underlying22 (by kernel_rfl) (by decide) (by kernel_rfl) (fun h hs => by
    obtain ⟨c, e1, e2⟩ := open_col3 h hs
    exact ⟨c, e1, e2⟩) h hs
  refine ⟨a, xs.length, cap, xs, e, ⟨⟨rfl, fun hn => ?_⟩, fun c hc => ?_, by omega, h1, h2⟩, h3⟩
  · obtain ⟨b, o, ea, hb, hc⟩ := h6 hn
    refine ⟨b, o, ea, hb, fun j x hj => ⟨?_, ?_, ?_⟩⟩
    · exact hc j x hj 0 _ rfl
    · exact hc j x hj 1 _ rfl
    · exact hc j x hj 2 _ rfl
  · obtain ⟨_, hq⟩ := h5 c hc
    exact hq

set_option maxRecDepth 100000 in
theorem open_schema {r : Reach} {b0 : Nat} {v : Value} {d : DataW H} {p : List MemPlace} (hv : Value.okWide Try.prog W r b0 24 v) (h : DataW.Trod enc Try.prog W 0 (fun _ => true) true 24 v d p) (hs : Sz Try.prog 24 d) :
    ∃ (A : Option Addr) (n c : Nat) (cs : List Col) (keys : Int), v = .agg #[.slice A n c, .int .i64 keys] ∧ SchIn W A n c cs ∧ n * 32 ≤ 140737488351232 := by
  obtain ⟨v0, v1, y0, y1, n, rfl, rfl, _, h0, h1⟩ := Go.Joins.open_agg2 Try.underlying24 (by kernel_rfl) (by kernel_rfl) hv h
  have hs0 := sz_part hs Try.underlying24 0 rfl rfl
  obtain ⟨k, e1, _, _⟩ := DataW.trod_int Try.underlying3 h1
  injection e1 with e1
  obtain ⟨A, m, c, cs, e, hsc, hz⟩ := open_cols h0 hs0
  subst e e1
  exact ⟨A, m, c, cs, k, rfl, hsc, hz⟩

set_option maxRecDepth 100000 in
theorem open_op {r : Reach} {b0 : Nat} {v : Value} {d : DataW H} {p : List MemPlace} (hv : Value.okWide Try.prog W r b0 28 v) (h : DataW.Trod enc Try.prog W 0 (fun _ => true) true 28 v d p) (hs : Sz Try.prog 28 d) :
    ∃ (k : Int) (A : Option Addr) (n c : Nat) (xs : List Ci) (B : Option Addr) (m e : Nat) (ts : List Si), v = .agg #[.int .i64 k, .slice A n c, .slice B m e] ∧ RdX W A n xs ∧ RdT W B m ts ∧ n * 40 ≤ 140737488351232 ∧ m * 48 ≤ 140737488351232 := by
  obtain ⟨v0, v1, v2, y0, y1, y2, n, rfl, rfl, _, h0, h1, h2⟩ := Go.Joins.open_agg3 Try.underlying28 (by kernel_rfl) (by kernel_rfl) hv h
  have hs1 := sz_part hs Try.underlying28 1 rfl rfl
  have hs2 := sz_part hs Try.underlying28 2 rfl rfl
  obtain ⟨k, e0, _, _⟩ := DataW.trod_int Try.underlying3 h0
  injection e0 with e0
  obtain ⟨A, n1, c1, xs, e1, r1, _, _, z1, _⟩ := open_row h1 hs1
  obtain ⟨B, n2, c2, ts, e2, r2, _, _, z2, _⟩ := open_sets h2 hs2
  subst e0 e1 e2
  exact ⟨k, A, n1, c1, xs, B, n2, c2, ts, rfl, r1, r2, z1, z2⟩

theorem open_rowT {a : Option Addr} {len cap : Nat} {d : DataW H} {p : List MemPlace} (h : DataW.Trod enc Try.prog W 0 (fun _ => true) true 25 (.slice a len cap) d p) (hs : Sz Try.prog 25 d) :
    ∃ xs : List Ci, RdX W a len xs ∧ len * 40 ≤ 140737488351232 ∧ len ≤ Rows.uptoBulk d := by
  obtain ⟨fuel, hf⟩ := h
  obtain ⟨a', n', c', xs, e, h1, _, _, h4, h5⟩ := open_row (v := .slice a len cap) hf hs
  injection e with e1 e2 e3
  subst e1 e2 e3
  exact ⟨xs, h1, h4, h5⟩
theorem open_setsT {a : Option Addr} {len cap : Nat} {d : DataW H} {p : List MemPlace} (h : DataW.Trod enc Try.prog W 0 (fun _ => true) true 26 (.slice a len cap) d p) (hs : Sz Try.prog 26 d) :
    ∃ xs : List Si, RdT W a len xs ∧ len * 48 ≤ 140737488351232 ∧ len ≤ Rows.uptoBulk d := by
  obtain ⟨fuel, hf⟩ := h
  obtain ⟨a', n', c', xs, e, h1, _, _, h4, h5⟩ := open_sets (v := .slice a len cap) hf hs
  injection e with e1 e2 e3
  subst e1 e2 e3
  exact ⟨xs, h1, h4, h5⟩

/-- A slice of whole numbers. -/
theorem open_intl {t e : TypeId} {a : Option Addr} {len cap : Nat} {d : DataW H} {p : List MemPlace} (ht : Try.prog.underlying t = some (.slice e)) (he : Try.prog.underlying e = some (.int .i64)) (hc : Try.prog.cellsOf e = 1)
    (h : DataW.Trod enc Try.prog W 0 (fun _ => true) true t (.slice a len cap) d p) : ∃ xs : List Int, RdI W a len xs ∧ len ≤ Rows.uptoBulk d := by
  obtain ⟨fuel, hf⟩ := h
  rcases open_ints ht he hc hf with ⟨hcs, hx⟩ | ⟨x, l, c, zs, hcs, _, hl, hm, hz, hx, hcell, hwz⟩
  · simp [Value.cells] at hcs
    obtain ⟨rfl, rfl, rfl⟩ := hcs
    exact ⟨[], ⟨rfl, fun hn => absurd hn (by omega)⟩, Nat.zero_le _⟩
  · simp [Value.cells] at hcs
    obtain ⟨rfl, rfl, rfl⟩ := hcs
    simp only [Prod.mk.injEq] at hx
    obtain ⟨rfl, _⟩ := hx
    have hzl : zs.length = cap := by simpa using hz
    refine ⟨zs.take len, ⟨by rw [List.length_take]; omega, fun hn => ?_⟩, bulk_len (.inr ⟨_, _, rfl, by simp [lits]; omega⟩)⟩
    have hc0 := hcell 0 (by omega)
    obtain ⟨b, o, spot⟩ := x
    have hspot : spot = none := by simpa [Addr.add] using World.cell?_spot hc0
    subst hspot
    refine ⟨b, o, rfl, ?_, fun i v hi => ?_⟩
    · have hb := World.block_lt_of_cell? W _ hc0
      simpa [Addr.add] using hb
    · have hil := (List.getElem?_eq_some_iff.1 hi).1
      rw [List.length_take] at hil
      have h1 := hcell i (by omega)
      rw [add_plain] at h1
      rw [h1]
      rw [List.getElem?_take, if_pos (by omega)] at hi
      simp [List.getD, hi]
end

end Go.Proofs.Ytpjichclpnebjaa
