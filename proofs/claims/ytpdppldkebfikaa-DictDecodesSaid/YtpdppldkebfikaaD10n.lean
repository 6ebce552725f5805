/-
  Layer 10: the document's text and texts.
-/
import Derived.Test.YtpdppldkebfikaaD10k
import Derived.Test.YtpdppldkebfikaaTXC
namespace Go.Proofs.Ytpdppldkebfikaa
open Go.RowKit

theorem rget10_is {A : Option Addr} {n c : Nat} {at_ : Int} {bs : List Nat} {w : World} (hx : Rd .u8 w A n bs) (hu : U8 bs) (hn : n ≤ 140737488355328) {k : Nat} {n1 e1 : Int} (h : vget bs at_ = (k, n1, e1)) :
    Calls Try.prog 58 #[.slice A n c, .int .i64 at_] w fun e w' => e = .returned (.tuple #[.int .u64 k, .int .i64 n1, .int .i64 e1]) ∧ w' = w :=
  (refGet_any A n c at_ bs w hx hu hn).mono fun e w' ⟨q1, q2⟩ => ⟨by rw [q1, h], q2.symm⟩

set_option maxHeartbeats 800000 in
theorem refText10_any (A : Option Addr) (n c : Nat) (at_ : Int) (bs : List Nat) (w : World) (hx : Rd .u8 w A n bs) (hu : U8 bs) (hn : n ≤ 140737488355328) :
    Calls Try.prog 59 #[.slice A n c, .int .i64 at_] w (PTxPost (dtx bs at_) w) := by
  have hbl := hx.len
  rcases g1 : vget bs at_ with ⟨k, n1, e1⟩
  have G1 := Lib.hid (rget10_is (c := c) hx hu hn g1)
  by_cases z1 : e1 = 0
  · subst z1
    obtain ⟨a1, a2, a3, hklt, _⟩ := vget_at hu g1
    rw [hbl] at a3
    obtain ⟨m1, rfl⟩ := Int.eq_ofNat_of_zero_le (show 0 ≤ n1 by omega)
    by_cases hk : 200 < k
    · have HR := Lib.hid (dtx_long g1 hk)
      clear hx hu g1 hbl a1 a2 a3
      go_enter Try.func59, Try.ntmps59
      go_wp2_with fail
      refine G1.out.mono ?_
      rintro e w1 ⟨rfl, rfl⟩
      go_wp2_with fail
      go_ret3
      exact PTxPost.bad _ HR.out (Ext.refl _)
    · have hk2 : k ≤ 200 := by omega
      have hki : IntKind.i64.wrap (k : Int) = (k : Int) := IntWalk.i64_in _ (by omega)
      have hm1 : m1 ≤ n := by omega
      have hnm : (n : Int) - (m1 : Int) = ((n - m1 : Nat) : Int) := by omega
      have hnw : IntKind.u64.wrap ((n : Int) - (m1 : Int)) = ((n - m1 : Nat) : Int) := (IntWalk.u64_in _ (by omega)).trans hnm
      by_cases hs : n < m1 + k
      · have HR := Lib.hid (dtx_short g1 hk2 (by rw [hbl]; omega))
        have hd5 : decide (n - m1 < k) = true := decide_eq_true (by omega)
        clear hx hu g1 hbl a1 a2 a3 hnm
        go_enter Try.func59, Try.ntmps59
        go_wp2_with fail
        refine G1.out.mono ?_
        rintro e w1 ⟨rfl, rfl⟩
        go_wp2_with fail
        go_ret3
        exact PTxPost.bad _ HR.out (Ext.refl _)
      · have HR := Lib.hid (dtx_yes g1 hk2 (by rw [hbl]; omega))
        rw [Int.toNat_natCast] at HR
        have hd5 : decide (n - m1 < k) = false := decide_eq_false (by omega)
        have hmr : (m1 : Int) + (k : Int) ≤ 140737488355328 := by omega
        have hp2 : piece bs (m1 : Int) ((m1 : Int) + (k : Int)) = cut bs m1 k := piece_cutm m1 k
        have ht2 : (cut bs m1 k).length = k := cut_len (by rw [hbl]; omega)
        have P2 := Lib.hid (piece_any A n c (m1 : Int) ((m1 : Int) + (k : Int)) bs w hx hn (by omega))
        rw [hp2, ht2] at P2
        have T2 := Lib.hid ht2
        clear hx hu g1 hbl a1 a2 a3 hp2 ht2 hnm
        go_enter Try.func59, Try.ntmps59
        go_wp2_with fail
        refine G1.out.mono ?_
        rintro e w1 ⟨rfl, rfl⟩
        go_wp2_with fail
        refine P2.out.mono ?_
        rintro e w2 ⟨A3, c3, rfl, hown3, he3⟩
        go_wp2_with fail
        go_ret3
        exact PTxPost.good _ HR.out T2.out rfl hown3 he3
  · have HR := Lib.hid (dtx_err g1 z1)
    have hb1 : (e1 != 0) = true := by rw [bne_iff_ne]; exact z1
    clear hx hu g1 hbl
    go_enter Try.func59, Try.ntmps59
    go_wp2_with fail
    refine G1.out.mono ?_
    rintro e w1 ⟨rfl, rfl⟩
    go_wp2_with fail
    go_ret3
    exact PTxPost.bad _ HR.out (Ext.refl _)

/-- A row of marks. -/
def shB : Shape Bool := ⟨fun b => [.bool b], 1, fun _ => rfl, by intro x u hu; simp at hu; subst hu; rfl⟩
theorem Try.infoBool : (Try.prog.info? 4).map (fun i => (i.zero, i.size, i.bytes)) = some (some (.bool false), 1, 1) := by kernel_rfl
theorem OwnG.atB {w : World} {base c : Nat} {A : Option Addr} {xs : List Bool} (h : OwnG shB 4 w base A c xs) {j : Nat} (hj : j < xs.length) :
    ∃ b x, A = some ⟨b, 0, none⟩ ∧ base ≤ b ∧ b < w.heap.size ∧ xs[j]? = some x ∧ w.cell? ⟨b, j, none⟩ = some (.bool x) ∧ w.frozen? ⟨b, j, none⟩ = false ∧
      ∀ y, OwnG shB 4 (w.setCell ⟨b, j, none⟩ (.bool y)) base A c (xs.set j y) ∧ w.grownBy (w.setCell ⟨b, j, none⟩ (.bool y)) (some b) := by
  obtain ⟨b, x, h1, h2, h3, h4, h5, h6, h7⟩ := h.at_ hj
  have e : j * shB.sz + 0 = j := by show j * 1 + 0 = j; omega
  refine ⟨b, x, h1, h2, h3, h4, ?_, h6 j, fun y => ?_⟩
  · have := h5 0 (.bool x) rfl
    rwa [e] at this
  · have := h7 0 y (.bool y) (by decide) rfl
    rwa [e] at this
theorem own_neGU {T : Type} {s : Shape T} {e : TypeId} {w : World} {base base' c c' : Nat} {A A' : Option Addr} {ts : List T} {xs : List Nat} (hne : e ≠ 5) (h : OwnG s e w base A c ts) (k : Own .u8 5 w base' A' c' xs) : ∀ a, A' = some a → some a.block ≠ (Value.slice A ts.length c).ownBlock := by
  rintro a rfl e
  rcases h.2 with ⟨hv, _⟩ | ⟨g, cap, cur, hv, hg, hh, _⟩
  · rw [hv] at e; simp [Value.ownBlock] at e
  · rw [hv] at e
    simp [Value.ownBlock] at e
    rcases k.2 with ⟨hv', _⟩ | ⟨g', cap', cur', hv', _, hh', _⟩
    · cases hv'
    · injection hv' with hA
      injection hA with hA
      subst hA
      simp at e
      subst e
      rw [hh] at hh'
      injection hh' with hh'
      injection hh' with h1 h2 h3
      exact absurd h2 hne

/-- The marks of the numbers seen. -/
def usedB (n : Nat) (us : List Nat) : List Bool := (List.range n).map fun x => decide (x ∈ us)
theorem usedB_len (n : Nat) (us : List Nat) : (usedB n us).length = n := by unfold usedB; rw [List.length_map, List.length_range]
theorem usedB_nil (n : Nat) : List.replicate n false = usedB n [] := by
  unfold usedB
  refine List.ext_getElem (by simp) fun i h1 h2 => by simp
theorem usedB_set (n : Nat) (us : List Nat) (u : Nat) : (usedB n us).set u true = usedB n (us ++ [u]) := by
  refine List.ext_getElem (by simp [usedB]) fun i h1 h2 => ?_
  rw [List.getElem_set]
  simp only [usedB, List.getElem_map, List.getElem_range, List.mem_append, List.mem_singleton]
  by_cases e : u = i
  · subst e; simp
  · rw [if_neg e]
    have : ¬ i = u := fun q => e q.symm
    simp [this]
theorem usedB_at {n i : Nat} {us : List Nat} {x : Bool} (h : (usedB n us)[i]? = some x) : x = decide (i ∈ us) := by
  obtain ⟨h1, rfl⟩ := List.getElem?_eq_some_iff.1 h
  simp [usedB]

theorem DTd.store {w wr : World} {A A7 : Option Addr} {c c7 b p : Nat} {ts : List Sl} {us : List Bool} {v : Value} (h : DTd w wr A c ts) (k : OwnG shB 4 wr w.heap.size A7 c7 us) (hA : A7 = some ⟨b, 0, none⟩) (hp : 0 < us.length) (hb : w.heap.size ≤ b) (hg : wr.grownBy (wr.setCell ⟨b, p, none⟩ v) (some b)) : DTd w (wr.setCell ⟨b, p, none⟩ v) A c ts := by
  have hob : (Value.slice A7 us.length c7).ownBlock = some b := by
    rcases k.2 with ⟨_, h0⟩ | ⟨g, cap, cur, hv, _⟩
    · omega
    · rw [hv]
      injection hv with hv1
      rw [hA] at hv1
      injection hv1 with hv1
      injection hv1 with hv1
      subst hv1
      rfl
  refine ⟨h.row.grown hg ?_, ⟨fun s hs => (h.txt.own s hs).grown hg ?_, h.txt.apart⟩, h.ext.setCell (p := ⟨b, p, none⟩) hb v⟩
  · rw [← hob]; exact own_neG (by decide) k h.row
  · rw [← hob]; exact own_neGU (by decide) k (h.txt.own s hs)

end Go.Proofs.Ytpdppldkebfikaa
