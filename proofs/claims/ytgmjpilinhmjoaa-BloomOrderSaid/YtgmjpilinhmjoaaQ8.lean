/-
  Layer 13: the program's Encode.
-/
import Derived.Test.YtgmjpilinhmjoaaQ7
namespace Go.Proofs.Ytgmjpilinhmjoaa
open Go.RowKit
set_option maxRecDepth 100000

def encF (fs : List Nat) : List Nat := sl (vput fs.length ++ fs)
theorem encF_len (fs : List Nat) : (encF fs).length = vsize fs.length + fs.length + 4 := by rw [encF, sl_len, List.length_append, vput_len]
theorem encF_u8 {fs : List Nat} (h : U8 fs) : U8 (encF fs) := sl_u8 (u8_append (vput_u8 _) h)

set_option maxHeartbeats 2000000 in
theorem encode_any (base g r : Nat) (fs : List Nat) (w : World) (hf : Fil w base g r fs) :
    Calls Try.prog 23 #[.pointer (some ⟨g, 0, none⟩)] w fun e w' => ∃ A' c', e = .returned (.slice A' (encF fs).length c') ∧ Own .u8 5 w' w.heap.size A' c' (encF fs) ∧ Ext w w' := by
  obtain ⟨c, hc1, hc2, hcell, hown, hrd⟩ := hf.cell
  have hlo := hf.lo
  have hhi := hf.hi
  have hu := hf.u8
  have hgw := hf.glt
  have hel := encF_len fs
  have hvl := vput_len fs.length
  have hvs := vsize_le (u := fs.length) (by omega)
  have hE : encF fs = sl (vput fs.length ++ fs) := rfl
  obtain ⟨L, hL⟩ : ∃ L, L = fs.length := ⟨_, rfl⟩
  rw [← hL] at hc1 hcell hrd hlo hhi hel hvl hvs hE
  obtain ⟨V, hV⟩ : ∃ V, V = vput L := ⟨_, rfl⟩
  obtain ⟨m, hm⟩ : ∃ m, m = vsize L := ⟨_, rfl⟩
  rw [← hm] at hel hvl hvs
  rw [← hV] at hvl hE
  have hVu : U8 V := by rw [hV]; exact vput_u8 _
  have hP : ∀ W, Calls Try.prog 38 #[.int .u64 (L : Int)] W fun e w' => ∃ A' c', e = .returned (.slice A' m c') ∧ Own .u8 5 w' W.heap.size A' c' V ∧ Ext W w' := fun W => by
    have := put_any L W (by omega)
    rw [← hV, hvl] at this
    exact this
  have hfl : ([V, fs] : List (List Nat)).flatten = V ++ fs := by simp
  have hVf : (V ++ fs).length = m + L := by rw [List.length_append, hvl, ← hL]
  have h2 : 2 ≤ 180000000000000 := by decide
  have h3 : ([V, fs] : List (List Nat)).flatten.length ≤ 180000000000000 := by rw [hfl, hVf]; omega
  have h4 : (m + L) + 4 ≤ 180000000000000 := by omega
  have hVfu : U8 (V ++ fs) := u8_append hVu hu
  have hC : ∀ W A, RdSS W A 2 [V, fs] → Calls Try.prog 37 #[.slice A 2 2] W fun e w' => ∃ A' c', e = .returned (.slice A' (m + L : Nat) c') ∧ Own .u8 5 w' W.heap.size A' c' (V ++ fs) ∧ Ext W w' := fun W A h => by
    have := concat_any A 2 2 [V, fs] W h h3 h2
    rw [hfl, hVf] at this
    exact this
  have hS : ∀ W A c', Rd .u8 W A (m + L) (V ++ fs) → Calls Try.prog 36 #[.slice A (m + L : Nat) c'] W fun e w' => ∃ A' c', e = .returned (.slice A' (m + L + 4 : Nat) c') ∧ Own .u8 5 w' W.heap.size A' c' (encF fs) ∧ Ext W w' := fun W A c' h => by
    rw [hE]
    exact seal_any A (m + L) c' (V ++ fs) W h hVfu h4
  have HC := Lib.hid hC
  have HS := Lib.hid hS
  have hw64 : IntKind.u64.wrap (L : Int) = (L : Int) := IntWalk.u64_in _ (by omega)
  have K : Hid (∀ w', Ext w w' → w'.cell? ⟨g, 0, none⟩ = some (.slice (some ⟨r, 0, none⟩) L c)) := Lib.hid (fun w' he => (Below.cell he (p := ⟨g, 0, none⟩) hgw).trans hcell)
  have KR : Hid (∀ w', Ext w w' → Rd .u8 w' (some ⟨r, 0, none⟩) L fs) := Lib.hid (fun w' he => hrd.ext he)
  have HP := Lib.hid hP
  have HE := Lib.hid hE
  have Hel := Lib.hid hel
  have Hvl := Lib.hid hvl
  have HVf := Lib.hid hVf
  clear hown hrd hL hV hm hP hE hC hS hel hvl hfl hVf h3 hVu hVfu hu hf
  go_enter Try.func23, Try.ntmps23
  go_wp2_with fail
  have g2 := K.out _ (Ext.refl w)
  go_region_held3 (fun w' => w'.cell? ⟨g, 0, none⟩ = some (.slice (some ⟨r, 0, none⟩) L c))
    (first | exact g2 | (refine K.out _ ?_; (repeat (first | exact Ext.refl _ | (with_reducible refine Ext.trans ?_ he4) | (with_reducible refine Ext.trans ?_ he3) | (with_reducible refine Ext.trans ?_ he2) | apply Ext.drew | apply Ext.alloc | fail))) | fail)
    (first
      | (go_at_call 38; refine (HP.out _).mono ?_; rintro e w2 ⟨A2, c2, rfl, hown2, he2⟩)
      | (go_at_call 37; (with_reducible refine (HC.out _ _ ?_).mono ?_); (focus (refine RdSS.two 23 _ rfl ?_ ?_; (focus (refine Rd.ext (hown2.rd' Hvl.out) ?_; (repeat (first | exact Ext.refl _ | apply Ext.drew | apply Ext.alloc | fail)); done)); (focus (refine KR.out _ ?_; (repeat (first | exact Ext.refl _ | (with_reducible refine Ext.trans ?_ he2) | apply Ext.drew | apply Ext.alloc | fail)); done)))); rintro e w3 ⟨A3, c3, rfl, hown3, he3⟩)
      | (go_at_call 36; (with_reducible refine (HS.out _ _ _ ?_).mono ?_); (focus (refine Rd.ext (hown3.rd' HVf.out) ?_; (repeat (first | exact Ext.refl _ | apply Ext.drew | apply Ext.alloc | fail)); done)); rintro e w4 ⟨A4, c4, rfl, hown4, he4⟩)
      | fail)
  go_wp2
  go_ret
  have hx3 : Ext w w3 := by
    repeat (first | exact Ext.refl _ | (with_reducible refine Ext.trans ?_ he3) | (with_reducible refine Ext.trans ?_ he2) | apply Ext.drew | apply Ext.alloc | fail)
  exact ⟨A4, c4, by rw [Hel.out]; rfl, hown4.mono hx3.size, hx3.trans he4⟩

end Go.Proofs.Ytgmjpilinhmjoaa
