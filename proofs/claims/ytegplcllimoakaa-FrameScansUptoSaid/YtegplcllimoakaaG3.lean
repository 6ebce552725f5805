/-
  The program's layer 4: a frame read.
-/
import Derived.Test.YtegplcllimoakaaG2
import Derived.Test.YtegplcllimoakaaF2
namespace Go.Proofs.Ytegplcllimoakaa
open Go.RowKit

theorem results_cell3 {P : Program} {fn : Func} {p t u : Tmp} {ty : TypeId} (h : fn.results = #[.cell p ty, .tmp t, .tmp u]) (tmps : Array Value) (w : World) (g : Nat) (T : TypeId) (cs : Array Value) (fr : Nat × Nat) (d : TypeDesc)
    (hp : tmps.getD p undef = .pointer (some ⟨g, 0, none⟩)) (hg : w.heap[g]? = some (.cells cs T fr))
    (hu : P.underlying ty = some d) (hd : (match d with | .struct _ | .array _ _ => true | _ => false) = true) (hi : (P.info? ty).map (·.size) = some cs.size) :
    (results fn tmps).run P w = .ok (.tuple #[.agg cs, tmps.getD t undef, tmps.getD u undef]) w := by
  have hp' : tmps[p]?.getD undef = .pointer (some ⟨g, 0, none⟩) := by simpa using hp
  simp [results, h, hp', asAddr, run_loadVar_row w g T ty cs fr d hg hu hd hi]

/-- A frame stored into a block that the call has laid. -/
theorem wpList_store_frame {ops : Array Oper} {rest : List Oper} {o : Oper} {a : Act} {w : World} {Q : Exit → Act → World → Prop} (hgd : o.guard = none) (x y : Operand) (ho : o.op = .store 45 x y)
    (g : Nat) (u v : Value) (hx : a.eval x = .pointer (some ⟨g, 0, none⟩)) (hy : a.eval y = .agg #[u, v]) {u0 v0 : Value} (hg : w.heap[g]? = some (.cells #[u0, v0] 45)) (h1 : u.oneCell' = true) (h2 : v.oneCell' = true)
    (h : wpList Try.prog ops Q rest (a.put o.dst undef) (w.setRow g #[u, v])) : wpList Try.prog ops Q (o :: rest) a w :=
  wpList_store_row hgd 45 x y ho g #[u, v] hx hy 45 #[u0, v0] hg (by kernel_rfl) rfl (by simp [h1, h2]) h

/-- What of a frame's head stands in the words of Get. -/
theorem fget_ghd {bs : List Nat} {a : Nat} (ha : a ≤ bs.length) :
    ((ghd (bs.drop a)).2.2 ≠ 0 → fget bs a = (0, [], 0, (ghd (bs.drop a)).2.2)) ∧
    ((ghd (bs.drop a)).2.2 = 0 → a + 9 ≤ bs.length ∧ (ghd (bs.drop a)).2.1 ≤ 65536 ∧
      (bs.length < a + 13 + (ghd (bs.drop a)).2.1 → fget bs a = (0, [], 0, 2)) ∧
      (a + 13 + (ghd (bs.drop a)).2.1 ≤ bs.length → ¬ sld (cut bs (a + 9) ((ghd (bs.drop a)).2.1 + 4)) → fget bs a = (0, [], 0, 40)) ∧
      (a + 13 + (ghd (bs.drop a)).2.1 ≤ bs.length → sld (cut bs (a + 9) ((ghd (bs.drop a)).2.1 + 4)) → fget bs a = ((ghd (bs.drop a)).1, cut bs (a + 9) (ghd (bs.drop a)).2.1, a + 13 + (ghd (bs.drop a)).2.1, 0))) := by
  have e1 : (bs.drop a).length < 9 ↔ bs.length < a + 9 := by rw [List.length_drop]; omega
  have e2 : (bs.drop a).take 9 = cut bs a 9 := rfl
  have e3 : (bs.drop a).getD 0 0 = bs.getD a 0 := by simp [List.getD]
  have e4 : cut (bs.drop a) 1 4 = cut bs (a + 1) 4 := by simp [cut, List.drop_drop]
  rw [fget_in ha]
  by_cases h1 : bs.length < a + 9
  · rw [ghd_short (e1.2 h1), fgetN, if_pos h1]
    exact ⟨fun _ => rfl, fun h => absurd h (by decide)⟩
  have g1 : ¬ (bs.drop a).length < 9 := fun q => h1 (e1.1 q)
  by_cases h2 : sld (cut bs a 9)
  · by_cases h3 : bs.getD a 0 = 0
    · rw [ghd_form g1 h2 (e3.trans h3), fgetN, if_neg h1, if_neg (fun q => q h2), if_pos h3]
      exact ⟨fun _ => rfl, fun h => absurd h (by decide)⟩
    have g3 : (bs.drop a).getD 0 0 ≠ 0 := fun q => h3 (e3.symm.trans q)
    by_cases h4 : 65536 < pk 8 (cut bs (a + 1) 4)
    · rw [ghd_long g1 h2 g3 (by rw [e4]; exact h4), fgetN, if_neg h1, if_neg (fun q => q h2), if_neg h3, if_pos h4]
      exact ⟨fun _ => rfl, fun h => absurd h (by decide)⟩
    rw [ghd_ok g1 h2 g3 (by rw [e4]; exact h4), e3, e4, fgetN, if_neg h1, if_neg (fun q => q h2), if_neg h3, if_neg h4]
    refine ⟨fun h => absurd rfl h, fun _ => ⟨by omega, by show pk 8 (cut bs (a + 1) 4) ≤ 65536; omega, fun h => if_pos h, fun h h6 => ?_, fun h h6 => ?_⟩⟩
    · rw [if_neg (Nat.not_lt.2 h), if_pos h6]
    · rw [if_neg (Nat.not_lt.2 h), if_neg (fun q => q h6)]
  · rw [ghd_crc g1 h2, fgetN, if_neg h1, if_pos h2]
    exact ⟨fun _ => rfl, fun h => absurd h (by decide)⟩

set_option maxHeartbeats 800000 in
theorem fget_bad (A : Option Addr) (n c : Nat) (at_ : Int) (bs : List Nat) (w : World) (hl : bs.length = n) (hk : at_ < 0 ∨ (n : Int) < at_) :
    Calls Try.prog 33 #[.slice A n c, .int .i64 at_] w (FGetPost bs at_ w) := by
  have HE := Lib.hid (fget_arg (bs := bs) (at_ := at_) (by rw [hl]; exact hk))
  clear hl
  go_enter Try.func33, Try.ntmps33
  rcases hk with h | h
  · go_wp2
    refine bodyPost_ret (v := .tuple #[.agg #[.int .i64 0, .slice none 0 0], .int .i64 0, .int .i64 1]) (by simp [results, Try.results33, go_sem]) rfl ?_
    exact FGetPost.err HE.out ((Ext.refl w).alloc _)
  · have b1 : decide (at_ < 0) = false := by simp; omega
    go_wp2
    refine bodyPost_ret (v := .tuple #[.agg #[.int .i64 0, .slice none 0 0], .int .i64 0, .int .i64 1]) (by simp [results, Try.results33, go_sem]) rfl ?_
    exact FGetPost.err HE.out ((Ext.refl w).alloc _)

set_option maxHeartbeats 1600000 in
theorem fget_good (b o n c a : Nat) (bs : List Nat) (w : World) (hx : Rd .u8 w (some ⟨b, o, none⟩) n bs) (hu : U8 bs) (hn : n ≤ 180000000000000) (ha : a + 9 ≤ n) (hc : n ≤ c) (hcm : c ≤ 9223372036854775807) :
    Calls Try.prog 33 #[.slice (some ⟨b, o, none⟩) n c, .int .i64 (a : Int)] w (FGetPost bs a w) := by
  have hl := hx.len
  obtain ⟨F1, F2⟩ := fget_ghd (bs := bs) (a := a) (by omega)
  have hdl : (bs.drop a).length = n - a := by rw [List.length_drop, hl]
  have hdu := u8_drop hu a
  obtain ⟨b', o', he, hbl, hcell⟩ := hx.2 (by omega)
  injection he with he
  injection he with he1 he2
  subst he1 he2
  have hrd : ∀ {s m : Nat}, s + m ≤ n → Rd .u8 w (some ⟨b, o + s, none⟩) m (cut bs s m) := fun {s m} hsm => ⟨cut_len (by omega), fun _ => ⟨b, o + s, rfl, hbl, fun j hj => by rw [Nat.add_assoc, hcell (s + j) (by omega), cut_at hj]⟩⟩
  have hrD : Rd .u8 w (some ⟨b, o + a, none⟩) (n - a) (bs.drop a) := ⟨hdl, fun _ => ⟨b, o + a, rfl, hbl, fun j hj => by rw [Nat.add_assoc, hcell (a + j) (by omega)]; simp [List.getD]⟩⟩
  obtain ⟨g, hg⟩ : ∃ g, ghd (bs.drop a) = g := ⟨_, rfl⟩
  obtain ⟨k, m, r⟩ := g
  have hrw := hrD.ext ((Ext.refl w).alloc (.cells #[.int .i64 0, .slice none 0 0] 45))
  have b1 : decide ((a : Int) < 0) = false := by simp
  have b2 : decide ((n : Int) < (a : Int)) = false := by simp; omega
  have i1 : (a : Int) ≤ (n : Int) := by omega
  have hca : ¬ c = a := by omega
  rw [hg] at F1 F2
  simp only at F1 F2
  have HF1 := Lib.hid F1
  have HF2 := Lib.hid F2
  have Hg := Lib.hid hg
  have Hrd : Hid (∀ {s m : Nat}, s + m ≤ n → Rd .u8 w (some ⟨b, o + s, none⟩) m (cut bs s m)) := Lib.hid hrd
  clear F1 F2 hg hl hdl hcell hrd
  go_enter Try.func33, Try.ntmps33
  go_wp2_with fail
  refine (ghd_any b (o + a) (n - a) _ (bs.drop a) _ hrw hdu (by omega) (by omega) (by omega) (by omega)).mono ?_
  rintro e w1 ⟨rfl, he1⟩
  rw [Hg.out]
  have hK1 := Lib.hid (Ext.kept he1)
  have hE1 : Ext w w1 := ((Ext.refl w).alloc _).trans he1
  by_cases hr : r = 0
  · subst hr
    obtain ⟨hA9, hm5, G1, G2, G3⟩ := HF2.out rfl
    have HG1 := Lib.hid G1
    have HG2 := Lib.hid G2
    have HG3 := Lib.hid G3
    have Hlen := Lib.hid hx.len
    have i2 : (a : Int) + 9 ≤ (n : Int) := by omega
    clear HF1 HF2 G1 G2 G3 hA9 hx
    by_cases hshort : n < a + 13 + m
    · have G := Lib.hid (HG1.out (by rw [Hlen.out]; exact hshort))
      by_cases hc9 : c = a + 9
      all_goals
        go_wp2_with (refine wpList_store_frame rfl (.tmp 4) (.tmp 41) rfl w.heap.size (.int .i64 0) (.slice none 0 0) rfl rfl hK1.out rfl rfl ?_)
        apply bodyPost_ret
        · exact results_cell3 rfl _ _ w.heap.size 45 #[.int .i64 0, .slice none 0 0] (0, 0) _ rfl (setRow_heap w1 w.heap.size _ _ 45 (0, 0) hK1.out) Try.underlying45 rfl (by kernel_rfl)
        · rfl
        exact FGetPost.err G.out (hE1.setRow (Nat.le_refl _) _)
    · have hc9 : ¬ c = a + 9 := by omega
      have i3 : (m : Int) + 4 ≤ (n : Int) - ((a : Int) + 9) := by omega
      have hrc := (Hrd.out (s := a + 9) (m := m + 4) (by omega)).ext hE1
      go_wp2_with fail
      refine (sealed_any _ (m + 4) _ (cut bs (a + 9) (m + 4)) _ hrc (cut_u8 hu _ _) (by omega) (by omega) (by omega)).mono ?_
      rintro e w2 ⟨rfl, he2⟩
      have hK2 := Lib.hid (Ext.kept (he1.trans he2))
      have hE2 := hE1.trans he2
      by_cases hs : sld (cut bs (a + 9) (m + 4))
      · have G := Lib.hid (HG3.out (by rw [Hlen.out]; omega) hs)
        rw [decide_eq_true hs]
        have hrb := (Hrd.out (s := a + 9) (m := m) (by omega)).ext hE2
        go_wp2_with fail
        refine (clone_any _ m _ (cut bs (a + 9) m) _ hrb (by omega)).mono ?_
        rintro e w3 ⟨A3, c3, rfl, hown3, he3⟩
        have hK3 := Lib.hid (Ext.kept ((he1.trans he2).trans he3))
        have hE3 := hE2.trans he3
        go_wp2_with fail
        refine (fsize_any m _).mono ?_
        rintro e w4 ⟨rfl, rfl⟩
        rw [fsz_in (by omega)]
        go_wp2_with (refine wpList_store_frame rfl (.tmp 4) (.tmp 54) rfl w.heap.size (.int .i64 (k : Int)) (.slice A3 m c3) rfl rfl hK3.out rfl rfl ?_)
        apply bodyPost_ret
        · exact results_cell3 rfl _ _ w.heap.size 45 #[.int .i64 (k : Int), .slice A3 m c3] (0, 0) _ rfl (setRow_heap w3 w.heap.size _ _ 45 (0, 0) hK3.out) Try.underlying45 rfl (by kernel_rfl)
        · rfl
        have hown4 : Own .u8 5 (w3.setRow w.heap.size #[.int .i64 (k : Int), .slice A3 m c3]) w.heap.size A3 c3 (cut bs (a + 9) m) :=
          (hown3.mono hE2.size).grown (grown_setRow _ _ _) (fun q hq e => by
            have h1 := (hown3.block q hq).1
            injection e with e
            have h2 := he1.size
            have h3 := he2.size
            simp at h2
            omega)
        refine ⟨A3, c3, ?_, ?_, hE3.setRow (Nat.le_refl _) _⟩
        · rw [G.out]
          have hcl : (cut bs (a + 9) m).length = m := cut_len (by rw [Hlen.out]; omega)
          show Ending.returned (Value.tuple #[_, Value.int .i64 ((a : Int) + ((m : Int) + 13)), _]) = _
          rw [show ((a : Int) + ((m : Int) + 13)) = ((a + 13 + m : Nat) : Int) from by omega]
          simp only [hcl]
          rfl
        · rw [G.out]; exact hown4
      · have G := Lib.hid (HG2.out (by rw [Hlen.out]; omega) hs)
        rw [decide_eq_false hs]
        go_wp2_with (refine wpList_store_frame rfl (.tmp 4) (.tmp 48) rfl w.heap.size (.int .i64 0) (.slice none 0 0) rfl rfl hK2.out rfl rfl ?_)
        apply bodyPost_ret
        · exact results_cell3 rfl _ _ w.heap.size 45 #[.int .i64 0, .slice none 0 0] (0, 0) _ rfl (setRow_heap w2 w.heap.size _ _ 45 (0, 0) hK2.out) Try.underlying45 rfl (by kernel_rfl)
        · rfl
        exact FGetPost.err G.out (hE2.setRow (Nat.le_refl _) _)
  · have G := Lib.hid (HF1.out hr)
    have hrb : (r != 0) = true := by simpa using hr
    go_wp2_with (refine wpList_store_frame rfl (.tmp 4) (.tmp 30) rfl w.heap.size (.int .i64 0) (.slice none 0 0) rfl rfl hK1.out rfl rfl ?_)
    apply bodyPost_ret
    · exact results_cell3 rfl _ _ w.heap.size 45 #[.int .i64 0, .slice none 0 0] (0, 0) _ rfl (setRow_heap w1 w.heap.size _ _ 45 (0, 0) hK1.out) Try.underlying45 rfl (by kernel_rfl)
    · rfl
    exact FGetPost.err G.out (hE1.setRow (Nat.le_refl _) _)

set_option maxHeartbeats 800000 in
theorem fget_few (A : Option Addr) (n c a : Nat) (bs : List Nat) (w : World) (hl : bs.length = n) (hA : (∃ b o, A = some ⟨b, o, none⟩) ∨ (A = none ∧ c = 0)) (ha : a ≤ n) (h9 : n < a + 9) (hc : n ≤ c) (hcm : c ≤ 9223372036854775807) :
    Calls Try.prog 33 #[.slice A n c, .int .i64 (a : Int)] w (FGetPost bs a w) := by
  have HE := Lib.hid (fget_short (bs := bs) (a := a) (by omega) (by omega))
  have hdl : (bs.drop a).length = n - a := by rw [List.length_drop, hl]
  have hg := ghd_short (bs := bs.drop a) (by omega)
  have b1 : decide ((a : Int) < 0) = false := by simp
  have b2 : decide ((n : Int) < (a : Int)) = false := by simp; omega
  have i1 : (a : Int) ≤ (n : Int) := by omega
  have Hg := Lib.hid hg
  have Hdl := Lib.hid hdl
  clear hl hg hdl
  rcases hA with ⟨b, o, rfl⟩ | ⟨rfl, rfl⟩
  · by_cases hca : c = a
    all_goals
      go_enter Try.func33, Try.ntmps33
      go_wp2_with fail
      refine (ghd_any_short _ (n - a) _ (bs.drop a) _ Hdl.out (by omega)).mono ?_
      rintro e w1 ⟨rfl, he1⟩
      rw [Hg.out]
      have hK1 := Lib.hid (Ext.kept he1)
      have hE1 : Ext w w1 := ((Ext.refl w).alloc _).trans he1
      go_wp2_with (refine wpList_store_frame rfl (.tmp 4) (.tmp 30) rfl w.heap.size (.int .i64 0) (.slice none 0 0) rfl rfl hK1.out rfl rfl ?_)
      apply bodyPost_ret
      · exact results_cell3 rfl _ _ w.heap.size 45 #[.int .i64 0, .slice none 0 0] (0, 0) _ rfl (setRow_heap w1 w.heap.size _ _ 45 (0, 0) hK1.out) Try.underlying45 rfl (by kernel_rfl)
      · rfl
      exact FGetPost.err HE.out (hE1.setRow (Nat.le_refl _) _)
  · obtain rfl : n = 0 := by omega
    obtain rfl : a = 0 := by omega
    go_enter Try.func33, Try.ntmps33
    go_wp2_with fail
    refine (ghd_any_short _ 0 _ (bs.drop 0) _ Hdl.out (by omega)).mono ?_
    rintro e w1 ⟨rfl, he1⟩
    rw [Hg.out]
    have hK1 := Lib.hid (Ext.kept he1)
    have hE1 : Ext w w1 := ((Ext.refl w).alloc _).trans he1
    go_wp2_with (refine wpList_store_frame rfl (.tmp 4) (.tmp 30) rfl w.heap.size (.int .i64 0) (.slice none 0 0) rfl rfl hK1.out rfl rfl ?_)
    apply bodyPost_ret
    · exact results_cell3 rfl _ _ w.heap.size 45 #[.int .i64 0, .slice none 0 0] (0, 0) _ rfl (setRow_heap w1 w.heap.size _ _ 45 (0, 0) hK1.out) Try.underlying45 rfl (by kernel_rfl)
    · rfl
    exact FGetPost.err HE.out (hE1.setRow (Nat.le_refl _) _)

/-- The program's Get. -/
theorem fget_any (A : Option Addr) (n c : Nat) (at_ : Int) (bs : List Nat) (w : World) (hx : Rd .u8 w A n bs) (hu : U8 bs) (hA : (∃ b o, A = some ⟨b, o, none⟩) ∨ (A = none ∧ c = 0)) (hn : n ≤ 180000000000000) (hc : n ≤ c) (hcm : c ≤ 9223372036854775807) :
    Calls Try.prog 33 #[.slice A n c, .int .i64 at_] w (FGetPost bs at_ w) := by
  by_cases hk : at_ < 0 ∨ (n : Int) < at_
  · exact fget_bad A n c at_ bs w hx.len hk
  · obtain ⟨a, rfl⟩ := Int.eq_ofNat_of_zero_le (show 0 ≤ at_ by omega)
    by_cases h9 : n < a + 9
    · exact fget_few A n c a bs w hx.len hA (by omega) h9 hc hcm
    · obtain ⟨b, o, he, _⟩ := hx.2 (by omega)
      subst he
      exact fget_good b o n c a bs w hx hu hn (by omega) hc hcm

theorem Own.shape {k : IntKind} {e : TypeId} {w : World} {base c : Nat} {A : Option Addr} {xs : List Nat} (h : Own k e w base A c xs) : (∃ b o, A = some ⟨b, o, none⟩) ∨ (A = none ∧ c = 0) := by
  rcases h.2 with ⟨hv, _⟩ | ⟨g, cap, cur, hv, _⟩
  · injection hv with hA hl hc
    exact .inr ⟨hA, hc⟩
  · injection hv with hA hl hc
    exact .inl ⟨g, 0, hA⟩

end Go.Proofs.Ytegplcllimoakaa
