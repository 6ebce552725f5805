/-
  Layer 18: the document's example holds of the program.
-/
import Derived.Test.YtkmnhapeohlooaaSK11
namespace Go.Proofs.Ytkmnhapeohlooaa
open Go.RowKit
set_option maxRecDepth 100000

/-- A list of the call's own. -/
def LA (w0 W : World) (sb : Nat) (hs : List Int) (L : List (List Nat)) (V : List Int) : Prop := ∃ X base, LS W X base sb hs L V ∧ w0.heap.size ≤ base ∧ Ext w0 W
section
variable {w0 w w' : World} {sb : Nat} {hs : List Int} {L : List (List Nat)} {V : List Int}
theorem LS.bd' {X : Nat → Prop} {base : Nat} (h : LS w X base sb hs L V) : ∀ q, X q → base ≤ q ∧ q < w.heap.size := by
  obtain ⟨ns, h1, _⟩ := h
  exact h1.bd
theorem LA.ext (h : LA w0 w sb hs L V) (he : Ext w w') : LA w0 w' sb hs L V := by
  obtain ⟨X, base, h1, h2, h3⟩ := h
  exact ⟨X, base, h1.ext he, h2, h3.trans he⟩
theorem LA.toExt (h : LA w0 w sb hs L V) : Ext w0 w := by
  obtain ⟨X, base, h1, h2, h3⟩ := h
  exact h3
theorem LA.calls {f : FuncId} {args : Array Value} {e0 e1 : Ending} {L' : List (List Nat)} {V' : List Int} (h : Calls Try.prog f args w fun e w' => e = e0 ∧ LA w0 w' sb hs L V) (he : e0 = e1) (hL : L = L') (hV : V = V') : Calls Try.prog f args w fun e w' => e = e1 ∧ LA w0 w' sb hs L' V' := by
  subst he; subst hL; subst hV; exact h
theorem laput_any (h : LA w0 w sb hs L V) (hb : L.length < 1099511627776) (A : Option Addr) (m c : Nat) (t : List Nat) (v : Int) (ht : Rd .u8 w A m t) (hu : U8 t) (hm : m ≤ 140737488355328) :
    Calls Try.prog 41 #[.pointer (some ⟨sb, 0, none⟩), .slice A m c, .int .i64 v] w fun e w' => e = .returned (.bool (decide (¬ L[skN t L]? = some t))) ∧ LA w0 w' sb hs (insL L t) (putV L V t v) := by
  obtain ⟨X, base, h1, h2, h3⟩ := h
  refine (sput_any h1 hb A m c t v ht hu hm).mono ?_
  rintro e w' ⟨he, h4, h5⟩
  refine ⟨he, XN X w w', base, h4, h2, h5.os.trans h3.os, h5.tape.trans h3.tape, h5.output.trans h3.output, Nat.le_trans h3.size h5.size, fun q hq => ?_⟩
  have hq2 : q < w.heap.size := Nat.lt_of_lt_of_le hq h3.size
  refine (h5.block q hq2 (fun hx => ?_)).trans (h3.block q hq)
  have := (h1.bd' q hx).1
  omega
end

/-- '[]byte("..")' of a constant: the row gets its mark. -/
theorem conv_const (W : World) (g : Nat) (C : Array Value) (n c : Nat) (hg : W.heap.size = g) :
    (convert 52 52 (.slice (some ⟨g, 0, none⟩) n c)).run Try.prog (W.alloc (.cells C 5)) = .ok (.slice (some ⟨g, 0, none⟩) n c) (W.alloc (.cells C 5 (C.size, C.size + 1))) := by
  subst hg
  exact Lib.run_convert_bytes_const W 52 5 C n c Try.underlying52 Try.underlying5
theorem mark_at (fr : Nat × Nat) (w : World) (xs : List Nat) {b n : Nat} (hb : w.heap.size = b) (hn : xs.length = n) : Rd .u8 (w.alloc (.cells (xs.map fun x : Nat => Value.int .u8 (x : Int)).toArray 5 fr)) (some ⟨b, 0, none⟩) n xs := by
  subst hb
  subst hn
  refine ⟨rfl, fun hn => ⟨w.heap.size, 0, rfl, by simp, fun j hj => ?_⟩⟩
  rw [cell_of_row _ w.heap.size (0 + j) _ 5 fr (heap_alloc_new w _)]
  simp [hj]

theorem sstr98 : sstr [98] = { data := #[98] } := rfl

set_option maxHeartbeats 6400000 in
theorem alive18_any (w : World) : Calls Try.prog 32 #[] w fun e w' => e = .returned (.bool true) ∧ Ext w w' := by
  have CN := Lib.hid (snew_any (some ⟨w.heap.size, 0, none⟩) 2 2 [1, 3] _ (RdG.lit shZ 3 w [1, 3] rfl rfl) (by decide))
  have kc := conv_const
  go_enter Try.func32, Try.ntmps32
  go_wp2_with fail
  refine CN.out.mono ?_
  rintro e w1 ⟨sb, rfl, k, he⟩
  have k0 : LA w w1 sb [1, 3] [] [] := ⟨_, _, k, by simp, ((Ext.refl w).alloc _).trans he⟩
  have k0 := k0.ext ((Ext.refl w1).alloc (.cells #[.int .u8 98] 5 (1, 2)))
  have C1 := Lib.hid (LA.calls (e1 := .returned (.bool true)) (L' := [[98]]) (V' := [1]) (laput_any k0 (by decide) (some ⟨w1.heap.size, 0, none⟩) 1 1 [98] 1 (mark_at (1, 2) w1 [98] rfl rfl) (by decide) (by decide)) rfl rfl rfl)
  clear k k0 he CN
  go_wp2_with fail
  refine C1.out.mono ?_
  rintro e w2 ⟨rfl, k1⟩
  have k1 := k1.ext ((Ext.refl w2).alloc (.cells #[.int .u8 97] 5 (1, 2)))
  have C2 := Lib.hid (LA.calls (e1 := .returned (.bool true)) (L' := [[97], [98]]) (V' := [2, 1]) (laput_any k1 (by decide) (some ⟨w2.heap.size, 0, none⟩) 1 1 [97] 2 (mark_at (1, 2) w2 [97] rfl rfl) (by decide) (by decide)) rfl rfl rfl)
  clear k1 C1
  go_wp2_with fail
  refine C2.out.mono ?_
  rintro e w3 ⟨rfl, k2⟩
  have k2 := k2.ext ((Ext.refl w3).alloc (.cells #[.int .u8 98] 5 (1, 2)))
  have C3 := Lib.hid (LA.calls (e1 := .returned (.bool false)) (L' := [[97], [98]]) (V' := [2, 5]) (laput_any k2 (by decide) (some ⟨w3.heap.size, 0, none⟩) 1 1 [98] 5 (mark_at (1, 2) w3 [98] rfl rfl) (by decide) (by decide)) rfl rfl rfl)
  clear k2 C2
  go_wp2_with fail
  refine C3.out.mono ?_
  rintro e w4 ⟨rfl, k3⟩
  have k4 := k3.ext ((Ext.refl w4).alloc (.cells #[.int .u8 98] 5 (1, 2)))
  have K4 := Lib.hid k4
  obtain ⟨X4, b4, l4, _, _⟩ := k4
  have C4 := Lib.hid (lsget_any l4 (by decide) (some ⟨w4.heap.size, 0, none⟩) 1 1 [98] (mark_at (1, 2) w4 [98] rfl rfl) (by decide))
  rw [show (if ([[97], [98]] : List (List Nat))[skN [98] [[97], [98]]]? = some [98] then ([2, 5] : List Int).getD (skN [98] [[97], [98]]) 0 else 0) = 5 from rfl, show decide (([[97], [98]] : List (List Nat))[skN [98] [[97], [98]]]? = some [98]) = true from rfl] at C4
  clear k3 C3 l4
  go_wp2_with fail
  refine C4.out.mono ?_
  rintro e w5 ⟨rfl, he5⟩
  have k5 := (K4.out.ext he5).ext ((Ext.refl w5).alloc (.cells #[.int .u8 97, .int .u8 97] 5 (2, 3)))
  have K5 := Lib.hid k5
  obtain ⟨X5, b5, l5, _, _⟩ := k5
  have C5 := Lib.hid (lsseek_any l5 (by decide) (some ⟨w5.heap.size, 0, none⟩) 2 2 [97, 97] (mark_at (2, 3) w5 [97, 97] rfl rfl) (by decide))
  clear C4 K4 he5 l5
  go_wp2_with fail
  refine C5.out.mono ?_
  rintro e w6 ⟨hs6, he6⟩
  obtain ⟨A6, c6, rfl, ho6⟩ : ∃ A' c', e = .returned (.tuple #[.slice A' 1 c', .int .i64 5, .bool true]) ∧ Own .u8 5 w6 (w5.alloc (.cells #[.int .u8 97, .int .u8 97] 5 (2, 3))).heap.size A' c' [98] := by
    rcases hs6 with ⟨h1, _⟩ | ⟨x, A', c', h1, h2, h3⟩
    · exact absurd h1 (by decide)
    · have hx : x = [98] := by
        have : ([[97], [98]] : List (List Nat))[skN [97, 97] [[97], [98]]]? = some [98] := rfl
        rw [this] at h1
        injection h1 with h1
        exact h1.symm
      subst hx
      exact ⟨A', c', h2, h3⟩
  have k6 := (K5.out.ext he6).ext ((Ext.refl w6).alloc (.cells #[.int .u8 98] 5 (1, 2)))
  have K6 := Lib.hid k6
  have H6 := Lib.hid (ho6.ext ((Ext.refl w6).alloc (.cells #[.int .u8 98] 5 (1, 2))))
  obtain ⟨X6, b6, l6, _, _⟩ := k6
  have C6 := Lib.hid (srange_any l6 (by decide) none 0 0 [] ⟨rfl, fun h => absurd h (by decide)⟩ (by decide) (by decide) (some ⟨w6.heap.size, 0, none⟩) 1 1 [98] (mark_at (1, 2) w6 [98] rfl rfl) (by decide))
  clear hs6 C5 K5 l6 ho6 he6
  go_wp2_with fail
  refine C6.out.mono ?_
  rintro e w7 ⟨A7, c7, ts, Av, cv, rfl, hbd, hk7, _, hv7, he7⟩
  have hrk : rngK [[97], [98]] [] [98] = [[97]] := rfl
  have hrv : rngV [[97], [98]] [2, 5] [] [98] = [2] := rfl
  rw [hrk] at hbd
  rw [hrv] at hv7 ⊢
  have htl : ts.length = 1 := by have := congrArg List.length hbd; simpa [bodies] using this
  rw [htl]
  have k7 := K6.out.ext he7
  have K7 := Lib.hid k7
  obtain ⟨X7, b7, l7, _, _⟩ := k7
  have cs := conv_str (c := c6) (show Rd .u8 w7 A6 1 [98] from (H6.out.ext he7).rd)
  rw [sstr98] at cs
  have CH := Lib.hid (lsheight_any l7)
  have CL := Lib.hid (lslen_any l7 (by decide))
  rw [show Hm [1, 3] ([[97], [98]] : List (List Nat)).length = 3 from rfl] at CH
  rw [show ([[97], [98]] : List (List Nat)).length = 2 from rfl] at CL
  obtain ⟨b8, o8, rfl, hb8, hc8⟩ := hv7.rd.atZ (j := 0) (by decide)
  clear l7 C6 K6 H6 hbd hk7 he7 hrk hrv htl hv7
  have hc8' : w7.cell? ⟨b8, o8, none⟩ = some (.int .i64 2) := hc8
  clear hc8
  go_wp2_with fail
  refine CH.out.mono ?_
  rintro e w8 ⟨rfl, rfl⟩
  go_wp2_with fail
  refine CL.out.mono ?_
  rintro e w8 ⟨rfl, rfl⟩
  go_wp2_with fail
  go_ret
  exact ⟨rfl, K7.out.toExt⟩

end Go.Proofs.Ytkmnhapeohlooaa
