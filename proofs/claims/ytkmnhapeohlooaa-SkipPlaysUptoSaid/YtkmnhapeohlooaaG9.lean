import Derived.Test.YtkmnhapeohlooaaG8

/-
  Layer 18: how the reference's Put ends.
-/
namespace Go.Proofs.Ytkmnhapeohlooaa
open Go.RowKit
set_option maxRecDepth 100000

theorem results_s2 {P : Program} {fn : Func} {p t : Tmp} {ty : TypeId} (h : fn.results = #[.cell p ty, .tmp t]) (tmps : Array Value) (w : World) (g : Nat) (T : TypeId) (cs : Array Value) (fr : Nat × Nat) (d : TypeDesc)
    (hp : tmps.getD p undef = .pointer (some ⟨g, 0, none⟩)) (hg : w.heap[g]? = some (.cells cs T fr))
    (hu : P.underlying ty = some d) (hd : (match d with | .struct _ | .array _ _ => true | _ => false) = true) (hi : (P.info? ty).map (·.size) = some cs.size) :
    (results fn tmps).run P w = .ok (.tuple #[.agg cs, tmps.getD t undef]) w := by
  have hp' : tmps[p]?.getD undef = .pointer (some ⟨g, 0, none⟩) := by simpa using hp
  simp [results, h, hp', asAddr, run_loadVar_row w g T ty cs fr d hg hu hd hi]

theorem own8_push {W W3 W5 : World} {base c2 O k : Nat} {A2 Ax : Option Addr} {t : List Nat} {e : TypeId} {C : Array Value} {u : Value} (hY : Own .u8 5 W base A2 c2 t) (hE3 : Ext W W3) (he : e ≠ 5)
    (hc : ∀ a, Ax = some a → ∃ cur, W3.heap[a.block]? = some (.cells cur e (0, 0))) (hg : W3.grownBy W5 (Ax.map (·.block))) (hO : W5.heap[O]? = some (.cells C 51 (0, 0))) :
    Own .u8 5 (W5.setCell ⟨O, k, none⟩ u) base A2 c2 t := by
  refine Own8.grown (Own8.grown (hY.ext hE3) hg (fun r er cur fr q => ?_)) (grown_setCellS W5 O k u) (fun r er cur fr q => ?_)
  · obtain ⟨a, ha, rfl⟩ := Option.map_eq_some_iff.1 er
    obtain ⟨cur2, h2⟩ := hc a ha
    rw [h2] at q
    injection q with q
    injection q with _ q
    exact he q
  · injection er with er
    subst er
    exact two_ne (by decide) hO q

/-- What the reference's Put hands back. -/
def RPut (w : World) (ss : List Sl) (V : List Int) (t : List Nat) (v : Int) (D : Bool) (e : Ending) (w' : World) : Prop :=
  ∃ Ao co Aw cw ts vs, e = .returned (.tuple #[.agg #[.slice Ao ts.length co, .slice Aw vs.length cw], .bool (!D)]) ∧ bodies ts = insL (bodies ss) t ∧ vs = putV (bodies ss) V t v ∧ OwnT w' w.heap.size Ao co ts ∧ OwnG shZ 3 w' w.heap.size Aw cw vs ∧
    (∀ s ∈ ts, s ∈ ss ∨ (Own .u8 5 w' w.heap.size s.A s.c s.body ∧ s.body = t)) ∧ Ext w w'

theorem rput_fin {w w1 W : World} {O Bl c2 : Nat} {A2 : Option Addr} {ss ts : List Sl} {V vs : List Int} {t : List Nat} {v : Int} {D : Bool} {Ao Aw : Option Addr} {co cw : Nat} (hE1 : Ext w w1) (h : RO w1 W O ts vs) (hBl : Bl = w.heap.size) (hz : Bl + 2 ≤ w1.heap.size) (hO : w.heap.size ≤ O)
    (ho : OwnT W w1.heap.size Ao co ts) (hv : OwnG shZ 3 W w1.heap.size Aw cw vs) (hY : Own .u8 5 W w1.heap.size A2 c2 t) (hts : ∀ s ∈ ts, s ∈ ss ∨ s = ⟨A2, c2, t⟩) (hb : bodies ts = insL (bodies ss) t) (hvs : vs = putV (bodies ss) V t v) {old : Array Value} (hold : W.heap[Bl + 1]? = some (.cells old 51 (0, 0))) (cs : Array Value) :
    RPut w ss V t v D (.returned (.tuple #[.agg #[.slice Ao ts.length co, .slice Aw vs.length cw], .bool (!D)])) (W.setRow (Bl + 1) cs) := by
  have hz0 := hE1.size
  have hgs := grown_setRow W (Bl + 1) cs
  refine ⟨Ao, co, Aw, cw, ts, vs, rfl, hb, hvs, ?_, ?_, fun s hs => ?_, ?_⟩
  · exact (ho.blk (fun a ha => hgs.block _ (ho.block a ha).2 (fun e => by have := (ho.block a ha).1; injection e with e; omega))).mono hz0
  · exact (hv.blk (fun a ha => hgs.block _ (hv.block a ha).2 (fun e => by have := (hv.block a ha).1; injection e with e; omega))).mono hz0
  · rcases hts s hs with q | rfl
    · exact .inl q
    · exact .inr ⟨(Own8.grown hY hgs (fun r e cur fr q => by
        injection e with e
        subst e
        exact two_ne (by decide) hold q)).mono hz0, rfl⟩
  · exact (h.toExt hE1 hO).setRow (by omega) _

theorem put_no {L : List (List Nat)} {V : List Int} {t : List Nat} {v : Int} (h : ¬ L[skN t L]? = some t) : L.take (skN t L) ++ t :: L.drop (skN t L) = insL L t ∧ V.take (skN t L) ++ v :: V.drop (skN t L) = putV L V t v := by
  rw [insL_no h]
  unfold putV
  rw [if_neg h]
  exact ⟨rfl, rfl⟩
theorem put_yes {L : List (List Nat)} {V : List Int} (hV : V.length = L.length) {t : List Nat} {v : Int} (h : L[skN t L]? = some t) : L.take (skN t L) ++ t :: L.drop (skN t L + 1) = insL L t ∧ V.take (skN t L) ++ v :: V.drop (skN t L + 1) = putV L V t v := by
  have hl := (List.getElem?_eq_some_iff.1 h).1
  rw [insL_yes h]
  unfold putV
  rw [if_pos h]
  refine ⟨?_, ?_⟩
  · have h2 : L.drop (skN t L) = t :: L.drop (skN t L + 1) := by
      rw [List.drop_eq_getElem_cons hl]
      congr 1
      exact (List.getElem?_eq_some_iff.1 h).2
    rw [← h2, List.take_append_drop]
  · rw [List.set_eq_take_append_cons_drop, if_pos (by omega)]

end Go.Proofs.Ytkmnhapeohlooaa
