/-
  From the row's reading of lists of texts to the words of our walks.
-/
import Derived.Test.YtjckfbpdnpehcaaTX
import Derived.Test.YtjckfbpdnpehcaaRow
import Derived.Test.YtjckfbpdnpehcaaUp
import Derived.Lib.SmallJoins
import Derived.Deep.Slices
namespace Go.Proofs.Ytjckfbpdnpehcaa
open Go.ChangeShapes Go.WideShapes Go.ChangeAt Go.RowKit Go.Deep

/-- Each string, slice and map within it is within the form's own reach. -/
def SzG {H : Type} (P : Program) (t : TypeId) (d : DataW H) : Prop := ∀ n ∈ d.weights P t, n ≤ reachBytes

section
variable {H : Type} {P : Program}
theorem sz_topG {ts : List TypeId} {ds : List (DataW H)} (h : (DataW.weightsEach P ts ds).all (· ≤ reachBytes) = true) (j : Nat) {t : TypeId} {d : DataW H} (ht : ts[j]? = some t) (hd : ds[j]? = some d) : SzG P t d := by
  intro n hn
  have := List.all_eq_true.1 h _ (DataW.weights_mem_each ht hd n hn)
  simpa using this
theorem sz_partG {t : TypeId} {fs : Array Field} {parts : List (DataW H)} (h : SzG P t (.agg parts)) (hu : P.underlying t = some (.struct fs)) (j : Nat) {f : Field} {d : DataW H} (hf : fs[j]? = some f) (hd : parts[j]? = some d) : SzG P f.type d := by
  intro n hn
  refine h n ?_
  simp only [DataW.weights, hu]
  refine DataW.weights_mem_each (j := j) (t := f.type) ?_ hd n hn
  rw [List.getElem?_map, Array.getElem?_toList, hf]
  rfl
theorem weights_mem_allG {e : TypeId} : ∀ {ds : List (DataW H)} {d : DataW H}, d ∈ ds → ∀ n ∈ d.weights P e, n ∈ DataW.weightsAll P e ds
  | d0 :: r, d, hd, n, hn => by
    simp only [DataW.weightsAll, List.mem_append]
    rcases List.mem_cons.1 hd with rfl | hd
    · exact .inl hn
    · exact .inr (weights_mem_allG hd n hn)
theorem sz_elemG {t e : TypeId} {elems spare : List (DataW H)} (h : SzG P t (.slice elems spare)) (hu : P.underlying t = some (.slice e)) {d : DataW H} (hd : d ∈ elems) : SzG P e d := by
  intro n hn
  refine h n ?_
  simp only [DataW.weights, hu, List.mem_cons, List.mem_append]
  exact .inr (.inl (weights_mem_allG hd n hn))
theorem sz_lenG {t e : TypeId} {elems spare : List (DataW H)} (h : SzG P t (.slice elems spare)) (hu : P.underlying t = some (.slice e)) : (elems.length + spare.length) * P.bytesOf e ≤ reachBytes := by
  refine h _ ?_
  simp [DataW.weights, hu]

end

section
variable {H : Type} {enc : TypeId × Value → H} {W : World}

/-- The elements of a slice whose elements are structs of k cells. -/
theorem open_rowsG {t e : TypeId} {k bytes : Nat} {T : Type} {cells : T → List Value} {Q : T → DataW H → Prop} {fuel : Nat} {v : Value} {d : DataW H} {p : List MemPlace} (ht : Try.prog.underlying t = some (.slice e)) (hk : Try.prog.cellsOf e = k) (hk0 : 0 < k) (hby : Try.prog.bytesOf e = bytes)
    (hone : ∀ {n : Nat} {cs : List Value} {x : DataW H × List MemPlace}, DataW.trod enc Try.prog W 0 (fun _ => true) true n e cs = some x → SzG Try.prog e x.1 → ∃ c : T, cs = cells c ∧ Q c x.1)
    (h : DataW.trod enc Try.prog W 0 (fun _ => true) true fuel t [v] = some (d, p)) (hs : SzG Try.prog t d) :
    ∃ (a : Option Addr) (cap : Nat) (xs : List T), v = .slice a xs.length cap ∧ xs.length ≤ cap ∧ cap ≤ 9223372036854775807 ∧ xs.length * bytes ≤ 140737488351232 ∧ xs.length ≤ Rows.uptoBulk d ∧
      (∀ c ∈ xs, ∃ dd, Q c dd) ∧ (0 < xs.length → ∃ b o, a = some ⟨b, o, none⟩ ∧ b < W.heap.size ∧ ∀ j c, xs[j]? = some c → ∀ i u, (cells c)[i]? = some u → W.cell? ⟨b, o + j * k + i, none⟩ = some u) := by
  rcases open_slice ht h with ⟨hcs, hx⟩ | ⟨a, l, c, m, n, D, Pl, hcs, _, hl, hcm, hm, hx, hcell⟩
  · injection hcs with hcs
    exact ⟨none, 0, [], hcs, Nat.zero_le _, by decide, by simp, Nat.zero_le _, (by intro c hc; cases hc), fun hn => absurd hn (by simp)⟩
  · injection hcs with hcs
    simp only [Prod.mk.injEq] at hx
    obtain ⟨rfl, _⟩ := hx
    have hmc : m = c := by simpa using hm
    subst hmc
    have hr := sz_lenG hs ht
    rw [hby] at hr
    simp only [List.length_map, List.length_range, reachBytes] at hr
    have each : ∀ i, i < l → ∃ q : T, W.cells? 0 (a.add (i * k)) k = some (cells q) ∧ Q q (D i) := by
      intro i hi
      obtain ⟨cs', h1, h2⟩ := hcell i (by omega)
      rw [hk] at h1
      obtain ⟨q, e1, e2⟩ := hone h2 (sz_elemG hs ht (List.mem_map.2 ⟨i, List.mem_range.2 hi, rfl⟩))
      exact ⟨q, by rw [h1, e1], e2⟩
    by_cases hl0 : l = 0
    · subst hl0
      exact ⟨some a, m, [], hcs, Nat.zero_le _, hcm, by simp, Nat.zero_le _, (by intro c hc; cases hc), fun hn => absurd hn (by simp)⟩
    · obtain ⟨q0, _⟩ := each 0 (by omega)
      have each' : ∀ i, ∃ q : T, i < l → W.cells? 0 (a.add (i * k)) k = some (cells q) ∧ Q q (D i) := by
        intro i
        by_cases hi : i < l
        · obtain ⟨q, hq⟩ := each i hi
          exact ⟨q, fun _ => hq⟩
        · exact ⟨q0, fun h => absurd h hi⟩
      obtain ⟨q, hq⟩ := Classical.axiomOfChoice each'
      have hxl : ((List.range l).map q).length = l := by simp
      refine ⟨some a, m, (List.range l).map q, by rw [hxl]; exact hcs, by rw [hxl]; exact hl, hcm, ?_, ?_, ?_, fun hn => ?_⟩
      · rw [hxl]
        have : l + (m - l) = m := by omega
        rw [this] at hr
        exact Nat.le_trans (Nat.mul_le_mul_right _ hl) hr
      · rw [hxl]
        exact bulk_len (.inr ⟨_, _, rfl, by simp⟩)
      · intro c hc
        obtain ⟨i, hi, rfl⟩ := List.mem_map.1 hc
        exact ⟨_, (hq i (List.mem_range.1 hi)).2⟩
      · obtain ⟨b, o, spot⟩ := a
        have hall : ∀ i, i < l → ∀ r u, (cells (q i))[r]? = some u → W.cell? ((⟨b, o, spot⟩ : Addr).add (i * k) |>.add r) = some u := by
          intro i hi r u hu
          obtain ⟨_, hlen, hc⟩ := World.cells?_some (hq i hi).1
          have hr := (List.getElem?_eq_some_iff.1 hu).1
          rw [hc r (by omega), hu]
        have hl1 : 0 < l := by omega
        obtain ⟨_, hlen0, hc0⟩ := World.cells?_some (hq 0 hl1).1
        have hu0 : (cells (q 0))[0]? = some (cells (q 0))[0] := List.getElem?_eq_getElem (by omega)
        have hz := hall 0 hl1 0 _ hu0
        have hspot : spot = none := by simpa [Addr.add] using World.cell?_spot hz
        subst hspot
        refine ⟨b, o, rfl, ?_, fun j c hj i u hu => ?_⟩
        · have hb := World.block_lt_of_cell? W _ hz
          simpa [Addr.add] using hb
        · rw [List.getElem?_map, Option.map_eq_some_iff] at hj
          obtain ⟨i', hi', rfl⟩ := hj
          obtain ⟨g1, g2⟩ := List.getElem?_eq_some_iff.1 hi'
          simp at g1 g2
          subst g2
          have := hall j g1 i u hu
          rwa [add_plain, add_plain] at this

/-- A text. -/
theorem open_text {fuel : Nat} {cs : List Value} {d : DataW H} {p : List MemPlace}
    (h : DataW.trod enc Try.prog W 0 (fun _ => true) true fuel 22 cs = some (d, p)) (hs : SzG Try.prog 22 d) : ∃ s : Sl, cs = [s.v] ∧ TxI W s := by
  have ht : Try.prog.underlying 22 = some (.slice 5) := Try.underlying22
  have he : Try.prog.underlying 5 = some (.int .u8) := Try.underlying5
  have hc : Try.prog.cellsOf 5 = 1 := by kernel_rfl
  have hby : Try.prog.bytesOf 5 = 1 := by kernel_rfl
  rcases open_ints ht he hc h with ⟨hcs, hx⟩ | ⟨x, l, c, zs, hcs, _, hl, hm, hz, hx, hcell, hwz⟩
  · exact ⟨⟨none, 0, []⟩, hcs, ⟨Rd.nil .., (by intro v hv; cases hv), Nat.zero_le _, by decide, by decide⟩⟩
  · simp only [Prod.mk.injEq] at hx
    obtain ⟨rfl, _⟩ := hx
    have hzl : zs.length = c := by simpa using hz
    have hr := sz_lenG hs ht
    rw [hby] at hr
    simp only [lits, List.length_map, List.length_take, List.length_drop, reachBytes] at hr
    have hw : ∀ i, i < l → 0 ≤ zs.getD i 0 ∧ zs.getD i 0 < 256 := by
      intro i hi
      have hlt : i < zs.length := by omega
      have := wf_u8 (hwz _ (List.getElem_mem hlt))
      simpa [List.getD, hlt] using this
    have hxl : ((zs.take l).map Int.toNat).length = l := by rw [List.length_map, List.length_take]; omega
    have hm2 : c ≤ 9223372036854775807 := by simpa [maxLen] using hm
    refine ⟨⟨some x, c, (zs.take l).map Int.toNat⟩, by rw [hcs, Sl.v, hxl], ⟨?_, ?_, by rw [hxl]; exact hl, hm2, by rw [hxl]; omega⟩⟩
    · rw [hxl]
      refine ⟨hxl, fun hn => ?_⟩
      have hc0 := hcell 0 (by omega)
      obtain ⟨b, o, spot⟩ := x
      have hspot : spot = none := by simpa [Addr.add] using World.cell?_spot hc0
      subst hspot
      refine ⟨b, o, rfl, ?_, fun i hi => ?_⟩
      · have hb := World.block_lt_of_cell? W _ hc0
        simpa [Addr.add] using hb
      · have h1 := hcell i (by omega)
        rw [add_plain] at h1
        rw [h1]
        have h2 := (hw i hi).1
        have hlt : i < zs.length := by omega
        have h3 : (((zs.take l).map Int.toNat).getD i 0 : Nat) = (zs.getD i 0).toNat := by simp [List.getD, hi, hlt]
        rw [h3, Int.toNat_of_nonneg h2]
    · intro v hv
      obtain ⟨n, hn, rfl⟩ := List.mem_map.1 hv
      have := wf_u8 (hwz _ (List.mem_of_mem_take hn))
      omega

set_option maxRecDepth 100000 in
/-- A list of texts. -/
theorem open_texts {a : Option Addr} {len cap : Nat} {d : DataW H} {p : List MemPlace} (h : DataW.Trod enc Try.prog W 0 (fun _ => true) true 73 (.slice a len cap) d p) (hs : SzG Try.prog 73 d) :
    ∃ ss : List Sl, TxL W a len ss ∧ len * 24 ≤ 140737488351232 ∧ len ≤ Rows.uptoBulk d := by
  obtain ⟨fuel, hf⟩ := h
  obtain ⟨a', cap', xs, e, h1, h2, h3, h4, h5, h6⟩ := open_rowsG (k := 1) (bytes := 24) (cells := shS.cells) (Q := fun s _ => TxI W s) (v := .slice a len cap) Try.underlying73 (by kernel_rfl) (by decide) (by kernel_rfl) (fun h hs => open_text h hs) hf hs
  injection e with e1 e2 e3
  subst e1 e2 e3
  exact ⟨xs, ⟨RdG.rdL ⟨rfl, h6⟩, fun s hs => (h5 s hs).elim fun _ h => h⟩, h3, h4⟩
end

end Go.Proofs.Ytjckfbpdnpehcaa
