/-
  From the row's reading of a cell to the words of our walks.
-/
import Derived.Test.YtpjichclpnebjaaE12s
import Derived.Test.YtpjichclpnebjaaRow
import Derived.Test.YtpjichclpnebjaaUp
import Derived.Lib.SmallJoins
namespace Go.Proofs.Ytpjichclpnebjaa
open Go.ChangeShapes Go.WideShapes Go.ChangeAt Go.RowKit

/-- Each string, slice and map within it is within the form's own reach. -/
def Sz {H : Type} (P : Program) (t : TypeId) (d : DataW H) : Prop := ∀ n ∈ d.weights P t, n ≤ reachBytes

section
variable {H : Type} {P : Program}
theorem sz_top {ts : List TypeId} {ds : List (DataW H)} (h : (DataW.weightsEach P ts ds).all (· ≤ reachBytes) = true) (j : Nat) {t : TypeId} {d : DataW H} (ht : ts[j]? = some t) (hd : ds[j]? = some d) : Sz P t d := by
  intro n hn
  have := List.all_eq_true.1 h _ (DataW.weights_mem_each ht hd n hn)
  simpa using this
theorem sz_part {t : TypeId} {fs : Array Field} {parts : List (DataW H)} (h : Sz P t (.agg parts)) (hu : P.underlying t = some (.struct fs)) (j : Nat) {f : Field} {d : DataW H} (hf : fs[j]? = some f) (hd : parts[j]? = some d) : Sz P f.type d := by
  intro n hn
  refine h n ?_
  simp only [DataW.weights, hu]
  refine DataW.weights_mem_each (j := j) (t := f.type) ?_ hd n hn
  rw [List.getElem?_map, Array.getElem?_toList, hf]
  rfl
theorem weights_mem_all {e : TypeId} : ∀ {ds : List (DataW H)} {d : DataW H}, d ∈ ds → ∀ n ∈ d.weights P e, n ∈ DataW.weightsAll P e ds
  | d0 :: r, d, hd, n, hn => by
    simp only [DataW.weightsAll, List.mem_append]
    rcases List.mem_cons.1 hd with rfl | hd
    · exact .inl hn
    · exact .inr (weights_mem_all hd n hn)
theorem sz_elem {t e : TypeId} {elems spare : List (DataW H)} (h : Sz P t (.slice elems spare)) (hu : P.underlying t = some (.slice e)) {d : DataW H} (hd : d ∈ elems) : Sz P e d := by
  intro n hn
  refine h n ?_
  simp only [DataW.weights, hu, List.mem_cons, List.mem_append]
  exact .inr (.inl (weights_mem_all hd n hn))
theorem sz_len {t e : TypeId} {elems spare : List (DataW H)} (h : Sz P t (.slice elems spare)) (hu : P.underlying t = some (.slice e)) : (elems.length + spare.length) * P.bytesOf e ≤ reachBytes := by
  refine h _ ?_
  simp [DataW.weights, hu]

theorem open_u8 {enc : TypeId × Value → H} {W : World} {t e : TypeId} {fuel : Nat} {v : Value} {d : DataW H} {p : List MemPlace}
    (ht : P.underlying t = some (.slice e)) (he : P.underlying e = some (.int .u8)) (hc : P.cellsOf e = 1) (hby : P.bytesOf e = 1)
    (h : DataW.trod enc P W 0 (fun _ => true) true fuel t [v] = some (d, p)) (hs : Sz P t d) :
    ∃ (a : Option Addr) (cap : Nat) (xs : List Nat), v = .slice a xs.length cap ∧ Rd .u8 W a xs.length xs ∧ U8 xs ∧ xs.length ≤ cap ∧ xs.length * 1 ≤ 140737488351232 ∧ xs.length ≤ Rows.uptoBulk d := by
  rcases open_ints ht he hc h with ⟨hcs, hx⟩ | ⟨x, l, c, zs, hcs, _, hl, hm, hz, hx, hcell, hwz⟩
  · injection hcs with hcs
    exact ⟨none, 0, [], hcs, Rd.nil .., (by intro v hv; cases hv), Nat.zero_le _, by simp, Nat.zero_le _⟩
  · injection hcs with hcs
    simp only [Prod.mk.injEq] at hx
    obtain ⟨rfl, _⟩ := hx
    have hzl : zs.length = c := by simpa using hz
    have hr := sz_len hs ht
    rw [hby] at hr
    simp only [lits, List.length_map, List.length_take, List.length_drop, reachBytes] at hr
    have hw : ∀ i, i < l → 0 ≤ zs.getD i 0 ∧ zs.getD i 0 < 256 := by
      intro i hi
      have hlt : i < zs.length := by omega
      have := wf_u8 (hwz _ (List.getElem_mem hlt))
      simpa [List.getD, hlt] using this
    have hxl : ((zs.take l).map Int.toNat).length = l := by rw [List.length_map, List.length_take]; omega
    refine ⟨some x, c, (zs.take l).map Int.toNat, by rw [hxl]; exact hcs, ?_, ?_, by omega, by omega, ?_⟩
    · rw [hxl]
      refine ⟨hxl, fun hn => ?_⟩
      have hc0 := hcell 0 (by omega)
      obtain ⟨b, o, spot⟩ := x
      have hspot : spot = none := by simpa [Addr.add] using World.cell?_spot hc0
      subst hspot
      refine ⟨b, o, rfl, ?_, fun i hi => ?_⟩
      · have hb := World.block_lt_of_cell? W _ hc0
        simpa [Addr.add] using hb
      · have h1 := hcell i (by omega)
        rw [add_plain] at h1
        rw [h1]
        have h2 := (hw i hi).1
        have hlt : i < zs.length := by omega
        have h3 : (((zs.take l).map Int.toNat).getD i 0 : Nat) = (zs.getD i 0).toNat := by simp [List.getD, hi, hlt]
        rw [h3, Int.toNat_of_nonneg h2]
    · intro v hv
      obtain ⟨n, hn, rfl⟩ := List.mem_map.1 hv
      have := wf_u8 (hwz _ (List.mem_of_mem_take hn))
      omega
    · rw [hxl]
      exact bulk_len (.inr ⟨_, _, rfl, by simp [lits]; omega⟩)
end


set_option maxRecDepth 100000 in
theorem open_parts {H : Type} {enc : TypeId × Value → H} {W : World} {n0 n1 n2 : Nat} {v0 v1 v2 : Value} {y0 y1 y2 : DataW H × List MemPlace}
    (h0 : DataW.trod enc Try.prog W 0 (fun _ => true) true n0 4 [v0] = some y0) (h1 : DataW.trod enc Try.prog W 0 (fun _ => true) true n1 2 [v1] = some y1) (h2 : DataW.trod enc Try.prog W 0 (fun _ => true) true n2 59 [v2] = some y2) (hs : Sz Try.prog 59 y2.1) :
    ∃ x : Ci, Value.agg #[v0, v1, v2] = x.v ∧ v0 = .bool x.nul ∧ v1 = .int .i64 x.num ∧ v2 = .slice x.A x.txt.length x.c ∧ x.In W ∧ x.txt.length ≤ Rows.uptoBulk y2.1 := by
  obtain ⟨b, e0, _⟩ := DataW.trod_bool Try.underlying4 h0
  obtain ⟨k, e1, _, wk⟩ := DataW.trod_int Try.underlying2 h1
  obtain ⟨a, c, xs, e2, hr, hu, hl, hz, hb⟩ := open_u8 Try.underlying59 Try.underlying5 (by kernel_rfl) (by kernel_rfl) h2 hs
  injection e0 with e0
  injection e1 with e1
  have wb := wf_i64 wk
  subst e0 e1 e2
  exact ⟨⟨b, k, a, c, xs⟩, rfl, rfl, rfl, rfl, ⟨hr, hu, wb.1, wb.2, hz⟩, hb⟩


set_option maxRecDepth 100000 in
theorem open_cell {H : Type} {enc : TypeId × Value → H} {W : World} {r : Reach} {b0 : Nat} {v : Value} {d : DataW H} {p : List MemPlace}
    (hv : Value.okWide Try.prog W r b0 82 v) (h : DataW.Trod enc Try.prog W 0 (fun _ => true) true 82 v d p) (hs : Sz Try.prog 82 d) :
    ∃ x : Ci, v = x.v ∧ x.In W ∧ x.txt.length ≤ Rows.uptoBulk d := by
  obtain ⟨v0, v1, v2, y0, y1, y2, n, rfl, rfl, _, h0, h1, h2⟩ := Go.Joins.open_agg3 Try.underlying82 (by kernel_rfl) (by kernel_rfl) hv h
  have hs2 := sz_part hs Try.underlying82 2 rfl rfl
  obtain ⟨x, e, _, _, _, hin, hb⟩ := open_parts h0 h1 h2 hs2
  refine ⟨x, e, hin, ?_⟩
  simp only [Rows.uptoBulk, Rows.uptoBulkAll]
  omega

end Go.Proofs.Ytpjichclpnebjaa
