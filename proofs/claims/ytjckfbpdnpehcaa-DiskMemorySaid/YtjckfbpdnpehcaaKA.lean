import Derived.Test.YtjckfbpdnpehcaaDKo
import Derived.Test.YtjckfbpdnpehcaaDKu

/-
  Layer 14: the document's directory: a list of entries; one without a name, one with it.
-/
namespace Go.Proofs.Ytjckfbpdnpehcaa
open Go.RowKit Go.Maps Go.WideMaps
set_option maxRecDepth 100000

def shE : Shape (List UInt8 × Int) := ⟨fun r => [nm r.1, .int .i64 r.2], 2, fun _ => rfl, by
  intro x u hu
  simp only [List.mem_cons, List.not_mem_nil, or_false] at hu
  rcases hu with rfl | rfl <;> rfl⟩
theorem Try.infoE : (Try.prog.info? 114).map (fun i => (i.zero, i.size, i.bytes)) = some (some (Value.agg #[.string ByteArray.empty, .int .i64 0]), 2, 24) := by kernel_rfl

/-- A directory as a call's own. -/
def EntPost (L : List (List UInt8 × Int)) (w : World) (e : Ending) (w' : World) : Prop := ∃ A c, e = .returned (.slice A L.length c) ∧ OwnG shE 114 w' w.heap.size A c L ∧ Ext w w'
def wout (x : List UInt8) (d : List (List UInt8 × Int)) : List (List UInt8 × Int) := d.filter fun e => decide (e.1 ≠ x)

set_option maxHeartbeats 3200000 in
theorem rwithout_any {w : World} {A : Option Addr} {n c : Nat} {d : List (List UInt8 × Int)} (h : RdG shE w A n d) (x : List UInt8) (hn : n ≤ 1000000) :
    Calls Try.prog 86 #[.slice A n c, nm x] w (EntPost (wout x d) w) := by
  unfold EntPost
  have HR := Lib.hid h
  have hl := Lib.hid h.len
  have hmade := OwnG.made (base := w.heap.size) shE 114 w (Nat.le_refl _)
  have Hmade := Lib.hid hmade
  clear h hmade
  go_enter Try.func86, Try.ntmps86
  go_wp2_with fail
  go_loopw [5, 6] (fun v i wr => ∃ (j m : Nat) (A' : Option Addr) (c' : Nat), j ≤ n ∧ i = .int .i64 (j : Int) ∧ v = .slice A' m c' ∧ Hid ((wout x (d.take j)).length = m) ∧ Hid (OwnG shE 114 wr w.heap.size A' c' (wout x (d.take j))) ∧ Hid (Ext w wr)) (fun _ i _ => n - (intOf i).toNat)
  case atStart => exact ⟨0, 0, _, _, Nat.zero_le _, rfl, rfl, Lib.hid rfl, Hmade, Lib.hid ((Ext.refl w).alloc _)⟩
  case round =>
    obtain ⟨j, m, A', c', hj, rfl, rfl, HM, HO, HE⟩ := hrel
    by_cases hlt : j < n
    · obtain ⟨b, o, e, hA, hbl, hx, hcx⟩ := (HR.out.ext HE.out).at_ hlt
      obtain ⟨y, k⟩ := e
      have q0 : wr.cell? ⟨b, o + j * 2, none⟩ = some (nm y) := by simpa [shE] using hcx 0 _ rfl
      have q1 : wr.cell? ⟨b, o + j * 2 + 1, none⟩ = some (.int .i64 k) := by simpa [shE] using hcx 1 _ rfl
      rw [hA]
      have htk : Hid (d.take (j + 1) = d.take j ++ [(y, k)]) := Lib.hid (by rw [List.take_add_one, hx]; rfl)
      have Hlt := Lib.hid hlt
      have hmle : m ≤ 1000000 := by
        have h1 := HM.out
        have h2 := List.length_filter_le (fun e : List UInt8 × Int => decide (e.1 ≠ x)) (d.take j)
        rw [List.length_take] at h2
        unfold wout at h1
        omega
      clear hA hbl hx hcx hlt
      by_cases hne : y = x
      · have e1 : (y.toArray.toList == x.toArray.toList) = true := by rw [hne]; simp
        have hw : Hid (wout x (d.take (j + 1)) = wout x (d.take j)) := Lib.hid (by rw [htk.out]; unfold wout; rw [List.filter_append]; simp [hne])
        clear hne
        go_wp2_with fail
        go_roundw
        case rel => exact ⟨j + 1, m, A', c', by have := Hlt.out; omega, by go_num, rfl, by rw [hw.out]; exact HM, by rw [hw.out]; exact HO, HE⟩
        case measure => simp [intOf]; have := Hlt.out; omega
      · have e1 := neq_nm y x hne
        have hw : Hid (wout x (d.take (j + 1)) = wout x (d.take j) ++ [(y, k)]) := Lib.hid (by rw [htk.out]; unfold wout; rw [List.filter_append]; simp [hne])
        have hbd : ((m + 1) + (m + 1) / 4 + 192) * 24 ≤ 281474976710656 := by omega
        clear hne
        go_wp2_with (at_builtin; go_loud (refine wpList_pushG (w0 := w) (base := w.heap.size) shE (y, k) 114 rfl _ _ 56 rfl _ 24 Try.underlying56 Try.infoE rfl (by decide) (HO.out.ext ((Ext.refl _).alloc _)) m HM.out rfl rfl (heap_alloc_new _ _) hbd (by omega) (HE.out.alloc _) (by simp; have := HE.out.size; omega) ?_; intro A5 c5 w5 ho5 _ hb5 _))
        go_roundw
        case rel => exact ⟨j + 1, m + 1, A5, c5, by have := Hlt.out; omega, by go_num, rfl, Lib.hid (by rw [hw.out, List.length_append, HM.out]; rfl), Lib.hid (by rw [hw.out]; exact ho5), Lib.hid hb5⟩
        case measure => simp [intOf]; have := Hlt.out; omega
    · obtain rfl : j = n := by omega
      have hfull : d.take j = d := List.take_of_length_le (by rw [hl.out]; exact Nat.le_refl _)
      have HM2 := HM.out
      have HO2 := HO.out
      rw [hfull] at HM2 HO2
      have Hm := Lib.hid HM2
      have Ho := Lib.hid HO2
      clear HM2 HO2 hfull hlt
      go_wp2
      go_ret
      exact ⟨A', c', congrArg (fun z : Nat => Ending.returned (.slice A' z c')) Hm.out.symm, Ho.out, HE.out⟩

end Go.Proofs.Ytjckfbpdnpehcaa

/-
  Layer 14: the document's names.
-/
namespace Go.Proofs.Ytjckfbpdnpehcaa
open Go.RowKit Go.Maps Go.WideMaps
set_option maxRecDepth 100000

set_option maxHeartbeats 3200000 in
theorem rnamed_any (s : ByteArray) (w : World) (hs : s.size ≤ 140737488355328) :
    Calls Try.prog 85 #[.string s] w fun e w' => e = .returned (.bool (isNm s)) ∧ w = w' := by
  by_cases h : 1 ≤ s.size ∧ s.size ≤ 40
  · obtain ⟨B, hB⟩ : ∃ B, B = isNm s := ⟨_, rfl⟩
    rw [← hB]
    have HB := Lib.hid hB
    have h1 : 1 ≤ s.size := h.1
    have h2 : s.size ≤ 40 := h.2
    have a1 : decide ((s.size : Int) = 0) = false := decide_eq_false (by omega)
    have a2 : decide ((40 : Int) < (s.size : Int)) = false := decide_eq_false (by omega)
    have a3 : ((s.size : Int) == 0) = false := beq_eq_false_iff_ne.2 (by omega)
    have a4 : ¬ (40 : Int) < (s.size : Int) := by omega
    have Hh := Lib.hid h
    clear hB h
    go_enter Try.func85, Try.ntmps85
    go_wp2_with fail
    go_loopw [3, 4] (fun i _ wr => ∃ j : Nat, j ≤ s.size ∧ i = .int .i64 (j : Int) ∧ wr = w ∧ Hid (∀ t (ht : t < s.size), t < j → mayS s[t].toNat = true)) (fun i _ _ => s.size - (intOf i).toNat)
    case atStart => exact ⟨0, Nat.zero_le _, rfl, rfl, Lib.hid fun t _ ht => absurd ht (by omega)⟩
    case round =>
      obtain ⟨j, hj, rfl, rfl, Hs⟩ := hrel
      by_cases hlt : j < s.size
      · obtain ⟨u, hu⟩ : ∃ u, u = s[j].toNat := ⟨_, rfl⟩
        have Hu := Lib.hid hu
        have Hlt := Lib.hid hlt
        clear hu
        go_wp2
        all_goals
          first
          | (have hm : mayS s[j].toNat = true := by
               unfold mayS
               simp at *
               omega
             refine ⟨⟨j + 1, by have := Hlt.out; omega, by go_num, trivial, Lib.hid fun t ht hlt2 => ?_⟩, by simp [intOf]; have := Hlt.out; omega⟩
             by_cases q : t < j
             · exact Hs.out t ht q
             · obtain rfl : t = j := by omega
               exact hm)
          | (have hm : mayS s[j].toNat = false := by
               unfold mayS
               simp at *
               omega
             go_ret
             exact ⟨by rw [HB.out, isNm_bad Hlt.out hm]; rfl, rfl⟩)
      · have HE := Lib.hid (HB.out.trans (isNm_ok Hh.out (fun t ht => Hs.out t ht (by omega))))
        go_wp2
        go_ret
        exact ⟨by rw [HE.out]; rfl, rfl⟩
  · rw [isNm_len h]
    by_cases h1 : s.size = 0
    · have a1 : (s.size : Int) = 0 := by omega
      have a3 : ((s.size : Int) == 0) = true := beq_iff_eq.2 (by omega)
      clear h
      go_enter Try.func85, Try.ntmps85
      go_wp2
      go_ret
      exact ⟨rfl, rfl⟩
    · have a1 : ¬ (s.size : Int) = 0 := by omega
      have a3 : ((s.size : Int) == 0) = false := beq_eq_false_iff_ne.2 (by omega)
      have a2 : (40 : Int) < (s.size : Int) := by omega
      clear h
      go_enter Try.func85, Try.ntmps85
      go_wp2
      go_ret
      exact ⟨rfl, rfl⟩

end Go.Proofs.Ytjckfbpdnpehcaa

/-
  Layer 14: the document's directory with a name.
-/
namespace Go.Proofs.Ytjckfbpdnpehcaa
open Go.RowKit Go.Maps Go.WideMaps
set_option maxRecDepth 100000

/-- Entries one by one, the new one ahead of the first that stands behind it. -/
def wstep (x : List UInt8) (k : Int) (s : List (List UInt8 × Int) × Bool) (e : List UInt8 × Int) : List (List UInt8 × Int) × Bool := if s.2 = false ∧ Op.bytesLess x e.1 = true then (s.1 ++ [(x, k), e], true) else (s.1 ++ [e], s.2)
def wfold (x : List UInt8) (k : Int) (l : List (List UInt8 × Int)) : List (List UInt8 × Int) × Bool := l.foldl (wstep x k) ([], false)
def withL (x : List UInt8) (k : Int) (d : List (List UInt8 × Int)) : List (List UInt8 × Int) := if (wfold x k (wout x d)).2 then (wfold x k (wout x d)).1 else (wfold x k (wout x d)).1 ++ [(x, k)]
theorem wfold_snoc (x : List UInt8) (k : Int) (l : List (List UInt8 × Int)) (e : List UInt8 × Int) : wfold x k (l ++ [e]) = wstep x k (wfold x k l) e := by unfold wfold; rw [List.foldl_append]; rfl
theorem wfold_len (x : List UInt8) (k : Int) (l : List (List UInt8 × Int)) : (wfold x k l).1.length = l.length + (wfold x k l).2.toNat := by
  have : ∀ (l : List (List UInt8 × Int)) (s : List (List UInt8 × Int) × Bool), (l.foldl (wstep x k) s).1.length + s.2.toNat = s.1.length + l.length + (l.foldl (wstep x k) s).2.toNat := by
    intro l
    induction l with
    | nil => intro s; rfl
    | cons e r ih =>
      intro s
      have h := ih (wstep x k s e)
      simp only [List.foldl_cons, List.length_cons]
      rcases s with ⟨o, b⟩
      unfold wstep at h ⊢
      by_cases hb : b = false ∧ Op.bytesLess x e.1 = true
      · simp only [if_pos hb] at h ⊢
        obtain ⟨rfl, _⟩ := hb
        simp only [List.length_append, List.length_cons, List.length_nil, Bool.toNat_true, Bool.toNat_false] at h ⊢
        omega
      · simp only [if_neg hb] at h ⊢
        simp only [List.length_append, List.length_cons, List.length_nil] at h ⊢
        omega
  have h := this l ([], false)
  unfold wfold
  simp only [List.length_nil, Bool.toNat_false] at h ⊢
  omega
theorem bd24 {n : Nat} (h : n ≤ 2000000) : (n + n / 4 + 192) * 24 ≤ 281474976710656 := by omega

set_option maxHeartbeats 6400000 in
theorem rwith_any {w : World} {A : Option Addr} {n c : Nat} {d : List (List UInt8 × Int)} (h : RdG shE w A n d) (x : List UInt8) (k : Int) (hn : n ≤ 1000000) :
    Calls Try.prog 66 #[.slice A n c, nm x, .int .i64 k] w (EntPost (withL x k d) w) := by
  have CW := Lib.hid (rwithout_any (c := c) h x hn)
  have hlen : (wout x d).length ≤ n := by
    have := List.length_filter_le (fun e : List UInt8 × Int => decide (e.1 ≠ x)) d
    unfold wout
    rw [h.len] at this
    exact this
  obtain ⟨r, hr⟩ : ∃ r, r = wout x d := ⟨_, rfl⟩
  have hW : withL x k d = if (wfold x k r).2 then (wfold x k r).1 else (wfold x k r).1 ++ [(x, k)] := by unfold withL; rw [hr]
  obtain ⟨R, hR⟩ : ∃ R, R = withL x k d := ⟨_, rfl⟩
  rw [← hR]
  have HR := Lib.hid (hR.trans hW)
  clear hR
  unfold EntPost at CW ⊢
  rw [← hr] at CW hlen
  obtain ⟨m, hm⟩ : ∃ m, m = r.length := ⟨_, rfl⟩
  rw [← hm] at CW hlen
  have Hm := Lib.hid hm
  clear hW hr hm h
  go_enter Try.func66, Try.ntmps66
  go_wp2_with fail
  refine CW.out.mono ?_
  rintro e w1 ⟨A1, c1, rfl, ho1, he1⟩
  have HO1 := Lib.hid ho1.rd
  rw [← Hm.out] at HO1
  have HE1 := Lib.hid he1
  have hmade := OwnG.made (base := w1.heap.size) shE 114 w1 (Nat.le_refl _)
  have Hmade := Lib.hid hmade
  clear ho1 he1 hmade
  go_wp2_with fail
  go_loopw [8, 9, 10] (fun v f i wr => ∃ (j q : Nat) (A' : Option Addr) (c' : Nat) (b9 : Bool), j ≤ m ∧ i = .int .i64 (j : Int) ∧ f = .bool b9 ∧ Hid (b9 = (wfold x k (r.take j)).2) ∧ v = .slice A' q c' ∧ Hid ((wfold x k (r.take j)).1.length = q) ∧ Hid (OwnG shE 114 wr w1.heap.size A' c' (wfold x k (r.take j)).1) ∧ Hid (Ext w1 wr)) (fun _ _ i _ => m - (intOf i).toNat)
  case atStart => exact ⟨0, 0, _, _, false, Nat.zero_le _, rfl, rfl, Lib.hid rfl, rfl, Lib.hid rfl, Hmade, Lib.hid ((Ext.refl w1).alloc _)⟩
  case round =>
    obtain ⟨j, q, A', c', b9, hj, rfl, rfl, Hb9, rfl, HM, HO, HE⟩ := hrel
    have hq9 : q ≤ 1000001 := by
      have h1 := HM.out
      rw [wfold_len, List.length_take] at h1
      have : (wfold x k (r.take j)).2.toNat ≤ 1 := Bool.toNat_le _
      omega
    by_cases hlt : j < m
    · obtain ⟨b, o, e, hA, hbl, hx, hcx⟩ := (HO1.out.ext HE.out).at_ hlt
      obtain ⟨y, z⟩ := e
      have q0 : wr.cell? ⟨b, o + j * 2, none⟩ = some (nm y) := by simpa [shE] using hcx 0 _ rfl
      have q1 : wr.cell? ⟨b, o + j * 2 + 1, none⟩ = some (.int .i64 z) := by simpa [shE] using hcx 1 _ rfl
      rw [hA]
      have htk : Hid (wfold x k (r.take (j + 1)) = wstep x k (wfold x k (r.take j)) (y, z)) := Lib.hid (by rw [List.take_add_one, hx]; exact wfold_snoc x k (r.take j) (y, z))
      have HC : Hid (∀ W, Ext w1 W → W.cell? ⟨b, o + j * 2, none⟩ = some (nm y) ∧ W.cell? ⟨b, o + j * 2 + 1, none⟩ = some (.int .i64 z)) := Lib.hid (fun W hW => by
        obtain ⟨b', o', e', hA', _, hx', hc'⟩ := (HO1.out.ext hW).at_ hlt
        rw [hx] at hx'
        injection hx' with hx'
        subst hx'
        rw [hA] at hA'
        injection hA' with hA'
        injection hA' with h1 h2
        subst h1
        subst h2
        exact ⟨by simpa [shE] using hc' 0 _ rfl, by simpa [shE] using hc' 1 _ rfl⟩)
      have Hlt := Lib.hid hlt
      have hbd : ((q + 1) + (q + 1) / 4 + 192) * 24 ≤ 281474976710656 := bd24 (by omega)
      have hbd2 : ((q + 1 + 1) + (q + 1 + 1) / 4 + 192) * 24 ≤ 281474976710656 := bd24 (by omega)
      clear hA hbl hx hcx hlt
      by_cases hcase : b9 = false ∧ Op.bytesLess x y = true
      · obtain ⟨rfl, hxy⟩ := hcase
        have hst : Hid (wfold x k (r.take (j + 1)) = ((wfold x k (r.take j)).1 ++ [(x, k), (y, z)], true)) := Lib.hid (by rw [htk.out]; unfold wstep; rw [if_pos ⟨Hb9.out.symm, hxy⟩])
        have e1 : Op.bytesLess x y = true := hxy
        clear hxy
        go_wp2_with (first
          | (at_builtin; refine wpList_pushG (w0 := w1) (base := w1.heap.size) shE (x, k) 114 rfl _ _ 56 rfl _ 24 Try.underlying56 Try.infoE rfl (by decide) (HO.out.ext ((Ext.refl _).alloc _)) q HM.out rfl rfl (heap_alloc_new _ _) hbd (by omega) (HE.out.alloc _) (by simp; have := HE.out.size; omega) ?_; intro A5 c5 w5 ho5 _ hb5 _; have HO5 := Lib.hid ho5; have HE5 : Hid (Ext w1 w5) := Lib.hid hb5; have HM5 : Hid (((wfold x k (r.take j)).1 ++ [(x, k)]).length = q + 1) := Lib.hid (by rw [List.length_append, HM.out]; rfl); have q05 : w5.cell? ⟨b, o + j * 2, none⟩ = some (nm y) := HC.out w5 hb5 |>.1; have q15 : w5.cell? ⟨b, o + j * 2 + 1, none⟩ = some (.int .i64 z) := HC.out w5 hb5 |>.2; clear ho5 hb5)
          | (at_builtin; refine wpList_pushG (w0 := w1) (base := w1.heap.size) shE (y, z) 114 rfl _ _ 56 rfl _ 24 Try.underlying56 Try.infoE rfl (by decide) (HO5.out.ext ((Ext.refl _).alloc _)) (q + 1) HM5.out rfl rfl (heap_alloc_new _ _) hbd2 (by omega) (HE5.out.alloc _) (by simp; have := HE5.out.size; omega) ?_; intro A6 c6 w6 ho6 _ hb6 _))
        go_roundw
        case rel => exact ⟨j + 1, q + 1 + 1, A6, c6, true, by have := Hlt.out; omega, by go_num, rfl, Lib.hid (by rw [hst.out]), rfl, Lib.hid (by rw [hst.out]; simp [HM.out]), Lib.hid (by rw [hst.out]; simpa using ho6), Lib.hid hb6⟩
        case measure => simp [intOf]; have := Hlt.out; omega
      · have hst : Hid (wfold x k (r.take (j + 1)) = ((wfold x k (r.take j)).1 ++ [(y, z)], b9)) := Lib.hid (by rw [htk.out]; unfold wstep; rw [if_neg (by rw [← Hb9.out]; exact hcase), ← Hb9.out])
        have e1 : b9 = true ∨ Op.bytesLess x y = false := by
          rcases b9 with _ | _
          · rcases h : Op.bytesLess x y with _ | _
            · exact Or.inr rfl
            · exact absurd ⟨rfl, h⟩ hcase
          · exact Or.inl rfl
        clear hcase
        have hq2 : q + 1 ≤ 1000002 := by omega
        rcases e1 with rfl | e1
        · go_wp2_with (at_builtin; refine wpList_pushG (w0 := w1) (base := w1.heap.size) shE (y, z) 114 rfl _ _ 56 rfl _ 24 Try.underlying56 Try.infoE rfl (by decide) (HO.out.ext ((Ext.refl _).alloc _)) q HM.out rfl rfl (heap_alloc_new _ _) hbd (by omega) (HE.out.alloc _) (by simp; have := HE.out.size; omega) ?_; intro A6 c6 w6 ho6 _ hb6 _)
          go_roundw
          case rel => exact ⟨j + 1, q + 1, A6, c6, true, by have := Hlt.out; omega, by go_num, rfl, Lib.hid (by rw [hst.out]), rfl, Lib.hid (by rw [hst.out, List.length_append, HM.out]; rfl), Lib.hid (by rw [hst.out]; exact ho6), Lib.hid hb6⟩
          case measure => simp [intOf]; have := Hlt.out; omega
        · rcases b9 with _ | _
          · go_wp2_with (at_builtin; refine wpList_pushG (w0 := w1) (base := w1.heap.size) shE (y, z) 114 rfl _ _ 56 rfl _ 24 Try.underlying56 Try.infoE rfl (by decide) (HO.out.ext ((Ext.refl _).alloc _)) q HM.out rfl rfl (heap_alloc_new _ _) hbd (by omega) (HE.out.alloc _) (by simp; have := HE.out.size; omega) ?_; intro A6 c6 w6 ho6 _ hb6 _)
            go_roundw
            case rel => exact ⟨j + 1, q + 1, A6, c6, false, by have := Hlt.out; omega, by go_num, rfl, Lib.hid (by rw [hst.out]), rfl, Lib.hid (by rw [hst.out, List.length_append, HM.out]; rfl), Lib.hid (by rw [hst.out]; exact ho6), Lib.hid hb6⟩
            case measure => simp [intOf]; have := Hlt.out; omega
          · go_wp2_with (at_builtin; refine wpList_pushG (w0 := w1) (base := w1.heap.size) shE (y, z) 114 rfl _ _ 56 rfl _ 24 Try.underlying56 Try.infoE rfl (by decide) (HO.out.ext ((Ext.refl _).alloc _)) q HM.out rfl rfl (heap_alloc_new _ _) hbd (by omega) (HE.out.alloc _) (by simp; have := HE.out.size; omega) ?_; intro A6 c6 w6 ho6 _ hb6 _)
            go_roundw
            case rel => exact ⟨j + 1, q + 1, A6, c6, true, by have := Hlt.out; omega, by go_num, rfl, Lib.hid (by rw [hst.out]), rfl, Lib.hid (by rw [hst.out, List.length_append, HM.out]; rfl), Lib.hid (by rw [hst.out]; exact ho6), Lib.hid hb6⟩
            case measure => simp [intOf]; have := Hlt.out; omega
    · obtain rfl : j = m := by omega
      have hfull : Hid (r.take j = r) := Lib.hid (List.take_of_length_le (by rw [← Hm.out]; exact Nat.le_refl _))
      have hbd : ((q + 1) + (q + 1) / 4 + 192) * 24 ≤ 281474976710656 := bd24 (by omega)
      clear hlt
      rcases b9 with _ | _
      · go_wp2_with (at_builtin; refine wpList_pushG (w0 := w1) (base := w1.heap.size) shE (x, k) 114 rfl _ _ 56 rfl _ 24 Try.underlying56 Try.infoE rfl (by decide) (HO.out.ext ((Ext.refl _).alloc _)) q HM.out rfl rfl (heap_alloc_new _ _) hbd (by omega) (HE.out.alloc _) (by simp; have := HE.out.size; omega) ?_; intro A6 c6 w6 ho6 _ hb6 _)
        have hb := Hb9.out
        have HM' := HM.out
        rw [hfull.out] at hb HM' ho6
        have hRe : R = (wfold x k r).1 ++ [(x, k)] := by rw [HR.out, ← hb]; rfl
        have hRl : R.length = q + 1 := by rw [hRe, List.length_append, HM']; rfl
        have HRl := Lib.hid hRl
        have HRe := Lib.hid hRe
        clear hb HM' hRl hRe
        go_ret
        exact ⟨A6, c6, congrArg (fun z : Nat => Ending.returned (.slice A6 z c6)) HRl.out.symm, HRe.out ▸ ho6.mono HE1.out.size, HE1.out.trans hb6⟩
      · have hb := Hb9.out
        have HO' := HO.out
        have HM' := HM.out
        rw [hfull.out] at hb HO' HM'
        have hRe : R = (wfold x k r).1 := by rw [HR.out, ← hb]; rfl
        have HRe := Lib.hid hRe
        have HRl : Hid (R.length = q) := Lib.hid (by rw [hRe, HM'])
        have HOr : Hid (OwnG shE 114 wr w1.heap.size A' c' R) := Lib.hid (by rw [hRe]; exact HO')
        clear hb HO' HM' hRe
        go_wp2_with fail
        go_ret
        exact ⟨A', c', congrArg (fun z : Nat => Ending.returned (.slice A' z c')) HRl.out.symm, HOr.out.mono HE1.out.size, HE1.out.trans HE.out⟩

end Go.Proofs.Ytjckfbpdnpehcaa

/-
  Layer 14: the document's disk without changes: its directory, a name's file, why a file can't be made.
-/
namespace Go.Proofs.Ytjckfbpdnpehcaa
open Go.RowKit Go.Maps Go.WideMaps
set_option maxRecDepth 100000

/-- The document's disk without changes and plan, with the power on: its cells. -/
def rdC (B D : Value) (room st : Int) : Array Value := #[B, D, .slice none 0 0, .int .i64 room, .slice none 0 0, .int .i64 st, .bool false]
/-- As it is handed in. -/
def rdV (B D : Value) (room st : Int) : Value := .agg (rdC B D room st)
/-- Where it lies. -/
structure RdAt (w : World) (g : Nat) (B D : Value) (room st : Int) : Prop where
  row : w.heap[g]? = some (.cells (rdC B D room st) 59 (0, 0))
  c0 : w.cell? ⟨g, 0, none⟩ = some B
  c1 : w.cell? ⟨g, 1, none⟩ = some D
  c2 : w.cell? ⟨g, 2, none⟩ = some (.slice none 0 0)
  c3 : w.cell? ⟨g, 3, none⟩ = some (.int .i64 room)
theorem RdAt.of {w : World} {g : Nat} {B D : Value} {room st : Int} (h : w.heap[g]? = some (.cells (rdC B D room st) 59 (0, 0))) : RdAt w g B D room st :=
  ⟨h, cell_of_row w g 0 _ _ (0, 0) h, cell_of_row w g 1 _ _ (0, 0) h, cell_of_row w g 2 _ _ (0, 0) h, cell_of_row w g 3 _ _ (0, 0) h⟩
theorem RdAt.to {w w' : World} {g : Nat} {B D : Value} {room st : Int} (h : RdAt w g B D room st) (he : Ext w w') : RdAt w' g B D room st :=
  .of ((he.block g (Array.getElem?_eq_some_iff.1 h.row).1).trans h.row)
theorem RdAt.lt {w : World} {g : Nat} {B D : Value} {room st : Int} (h : RdAt w g B D room st) : g < w.heap.size := (Array.getElem?_eq_some_iff.1 h.row).1
theorem RdAt.new (w : World) (B D : Value) (room st : Int) : RdAt (w.alloc (.cells #[B, D, .slice none 0 0, .int .i64 room, .slice none 0 0, .int .i64 st, .bool false] 59)) w.heap.size B D room st := .of (heap_alloc_new w _)

set_option maxHeartbeats 3200000 in
theorem rafter_any (w : World) (B D : Value) (room st k : Int) :
    Calls Try.prog 73 #[rdV B D room st, .int .i64 k] w fun e w' => e = .returned D ∧ Ext w w' := by
  unfold rdV rdC
  have hat := Lib.hid (RdAt.new w B D room st)
  go_enter Try.func73, Try.ntmps73
  have q1 := hat.out.c1
  go_wp2_with fail
  go_loopw [5, 6] (fun v i wr => v = D ∧ i = .int .i64 0 ∧ Ext w wr ∧ Hid (RdAt wr w.heap.size B D room st)) (fun _ _ _ => 0)
  case atStart => exact ⟨rfl, rfl, (Ext.refl w).alloc _, hat⟩
  case round =>
    obtain ⟨rfl, rfl, he, hh⟩ := hrel
    have q2 := hh.out.c2
    go_wp2_with fail
    go_ret
    exact ⟨rfl, he⟩

set_option maxHeartbeats 3200000 in
theorem rnow_any (w : World) (B D : Value) (room st : Int) :
    Calls Try.prog 72 #[rdV B D room st] w fun e w' => e = .returned D ∧ Ext w w' := by
  unfold rdV rdC
  have hat := Lib.hid (RdAt.new w B D room st)
  have CA := rafter_any (w.alloc (.cells #[B, D, .slice none 0 0, .int .i64 room, .slice none 0 0, .int .i64 st, .bool false] 59)) B D room st 0
  unfold rdV rdC at CA
  have CA := Lib.hid CA
  go_enter Try.func72, Try.ntmps72
  have q2 := hat.out.c2
  go_wp2_with (first
    | (refine wpList_load_row rfl 59 _ rfl w.heap.size rfl 59 _ (0, 0) _ hat.out.row Try.underlying59 rfl (by kernel_rfl) ?_)
    | fail)
  refine CA.out.mono ?_
  rintro e w1 ⟨rfl, he⟩
  have he := (((Ext.refl w).alloc _).trans he)
  go_wp2_with fail
  go_ret
  exact ⟨rfl, he⟩

/-- The number of a name's file. -/
def findE (x : List UInt8) (d : List (List UInt8 × Int)) : Int := match d.find? fun e => decide (e.1 = x) with
  | some e => e.2
  | none => -1
theorem findE_hit {x : List UInt8} {d : List (List UInt8 × Int)} {j : Nat} {z : Int} (hj : d[j]? = some (x, z)) (hn : (d.take j).find? (fun e => decide (e.1 = x)) = none) : findE x d = z := by
  have hl : j < d.length := (List.getElem?_eq_some_iff.1 hj).1
  have e : d = d.take j ++ (x, z) :: d.drop (j + 1) := by
    rw [← (List.getElem?_eq_some_iff.1 hj).2, ← List.drop_eq_getElem_cons hl, List.take_append_drop]
  unfold findE
  rw [e, List.find?_append, hn, List.find?_cons]
  simp
theorem findE_none {x : List UInt8} {d : List (List UInt8 × Int)} (h : d.find? (fun e => decide (e.1 = x)) = none) : findE x d = -1 := by unfold findE; rw [h]

set_option maxHeartbeats 3200000 in
theorem rfind_any {w : World} {A : Option Addr} {n c : Nat} {d : List (List UInt8 × Int)} (h : RdG shE w A n d) (B : Value) (room st : Int) (x : List UInt8) (hn : n ≤ 1000000) :
    Calls Try.prog 41 #[rdV B (.slice A n c) room st, nm x] w fun e w' => e = .returned (.int .i64 (findE x d)) ∧ Ext w w' := by
  obtain ⟨R, hR⟩ : ∃ R, R = findE x d := ⟨_, rfl⟩
  rw [← hR]
  have HR := Lib.hid hR
  have HD := Lib.hid h
  have Hl := Lib.hid h.len
  clear hR h
  unfold rdV rdC
  have hat := Lib.hid (RdAt.new w B (.slice A n c) room st)
  have CN := rnow_any (w.alloc (.cells #[B, (.slice A n c), .slice none 0 0, .int .i64 room, .slice none 0 0, .int .i64 st, .bool false] 59)) B (.slice A n c) room st
  unfold rdV rdC at CN
  have CN := Lib.hid CN
  go_enter Try.func41, Try.ntmps41
  go_wp2_with (first
    | (refine wpList_load_row rfl 59 _ rfl w.heap.size rfl 59 _ (0, 0) _ hat.out.row Try.underlying59 rfl (by kernel_rfl) ?_)
    | fail)
  refine CN.out.mono ?_
  rintro e w1 ⟨rfl, he1⟩
  have HE1 := Lib.hid (((Ext.refl w).alloc _).trans he1)
  clear he1 CN
  go_wp2_with fail
  go_loopw [6] (fun i wr => ∃ j : Nat, j ≤ n ∧ i = .int .i64 (j : Int) ∧ Hid (Ext w wr) ∧ Hid ((d.take j).find? (fun e => decide (e.1 = x)) = none)) (fun i _ => n - (intOf i).toNat)
  case atStart => exact ⟨0, Nat.zero_le _, rfl, HE1, Lib.hid rfl⟩
  case round =>
    obtain ⟨j, hj, rfl, HE, HN⟩ := hrel
    by_cases hlt : j < n
    · obtain ⟨b, o, e, hA, hbl, hx, hcx⟩ := (HD.out.ext HE.out).at_ hlt
      obtain ⟨y, z⟩ := e
      have q0 : wr.cell? ⟨b, o + j * 2, none⟩ = some (nm y) := by simpa [shE] using hcx 0 _ rfl
      have q1 : wr.cell? ⟨b, o + j * 2 + 1, none⟩ = some (.int .i64 z) := by simpa [shE] using hcx 1 _ rfl
      rw [hA]
      have Hx := Lib.hid hx
      have Hlt := Lib.hid hlt
      clear hA hbl hx hcx hlt
      by_cases hne : y = x
      · have e1 : (y.toArray.toList == x.toArray.toList) = true := by rw [hne]; simp
        have hF : Hid (R = z) := Lib.hid (by rw [HR.out]; subst hne; exact findE_hit Hx.out HN.out)
        clear hne
        go_wp2_with fail
        go_ret
        exact ⟨congrArg (fun z : Int => Ending.returned (.int .i64 z)) hF.out.symm, HE.out⟩
      · have e1 := neq_nm y x hne
        have hF : Hid ((d.take (j + 1)).find? (fun e => decide (e.1 = x)) = none) := Lib.hid (by rw [List.take_add_one, Hx.out, List.find?_append, HN.out]; simp [hne])
        clear hne
        go_wp2_with fail
        go_roundw
        case rel => exact ⟨j + 1, by have := Hlt.out; omega, by go_num, HE, hF⟩
        case measure => simp [intOf]; have := Hlt.out; omega
    · obtain rfl : j = n := by omega
      have hF : Hid (R = -1) := Lib.hid (by
        have h1 := HN.out
        rw [List.take_of_length_le (by rw [Hl.out]; exact Nat.le_refl _)] at h1
        rw [HR.out]; exact findE_none h1)
      clear hlt
      go_wp2_with fail
      go_ret
      exact ⟨congrArg (fun z : Int => Ending.returned (.int .i64 z)) hF.out.symm, HE.out⟩

/-- Why a file can't be made. -/
def refE (x : List UInt8) (d : List (List UInt8 × Int)) : Int := if isNm ⟨x.toArray⟩ = false then 145 else if 0 ≤ findE x d then 144 else if 400 ≤ d.length then 142 else 0

set_option maxHeartbeats 3200000 in
theorem rrefuse_any {w : World} {A : Option Addr} {n c : Nat} {d : List (List UInt8 × Int)} (h : RdG shE w A n d) (B : Value) (room st : Int) (x : List UInt8) (hx : x.length ≤ 140737488355328) (hn : n ≤ 1000000) :
    Calls Try.prog 64 #[rdV B (.slice A n c) room st, nm x] w fun e w' => e = .returned (.int .i64 (refE x d)) ∧ Ext w w' := by
  obtain ⟨R, hR⟩ : ∃ R, R = refE x d := ⟨_, rfl⟩
  rw [← hR]
  unfold refE at hR
  obtain ⟨k, hk⟩ : ∃ k, k = findE x d := ⟨_, rfl⟩
  rw [h.len, ← hk] at hR
  obtain ⟨w0, hw0⟩ : ∃ w0, w0 = w.alloc (.cells #[B, (.slice A n c), .slice none 0 0, .int .i64 room, .slice none 0 0, .int .i64 st, .bool false] 59) := ⟨_, rfl⟩
  have hE0 : Ext w w0 := by rw [hw0]; exact (Ext.refl w).alloc _
  have hat := Lib.hid (RdAt.new w B (.slice A n c) room st)
  rw [← hw0] at hat
  have CM := rnamed_any ⟨x.toArray⟩ w0 (by simpa [ByteArray.size] using hx)
  have CF := rfind_any (c := c) (h.ext hE0) B room st x hn
  rw [← hk] at CF
  unfold rdV rdC at CF ⊢
  have CM := Lib.hid CM
  have CF := Lib.hid CF
  have CN : Hid (∀ W, Calls Try.prog 72 #[.agg #[B, (.slice A n c), .slice none 0 0, .int .i64 room, .slice none 0 0, .int .i64 st, .bool false]] W fun e w' => e = .returned (.slice A n c) ∧ Ext W w') := Lib.hid (fun W => rnow_any W B (.slice A n c) room st)
  have HE0 := Lib.hid hE0
  clear h hk hE0 hx
  subst hw0
  go_enter Try.func64, Try.ntmps64
  go_wp2_with fail
  refine CM.out.mono ?_
  rintro e w1 ⟨rfl, rfl⟩
  clear CM
  rcases hb : isNm ⟨x.toArray⟩ with _ | _
  · have HRv : Hid (R = 145) := Lib.hid (by rw [hR, if_pos hb])
    clear hR hb
    go_wp2_with fail
    go_ret
    exact ⟨congrArg (fun z : Int => Ending.returned (.int .i64 z)) HRv.out.symm, HE0.out⟩
  · rw [if_neg (by rw [hb]; simp)] at hR
    have HRv := Lib.hid hR
    clear hR hb
    go_wp2_with (first
      | (refine wpList_load_row rfl 59 _ rfl w.heap.size rfl 59 _ (0, 0) _ hat.out.row Try.underlying59 rfl (by kernel_rfl) ?_)
      | fail)
    refine CF.out.mono ?_
    rintro e w2 ⟨rfl, he2⟩
    have HE2 := Lib.hid (HE0.out.trans he2)
    have hat2 := Lib.hid (hat.out.to he2)
    have CN2 := Lib.hid (CN.out w2)
    clear CN CF he2
    by_cases h4 : 0 ≤ k
    · have HRw : Hid (R = 144) := Lib.hid (by rw [HRv.out, if_pos h4])
      go_wp2_with fail
      go_ret
      exact ⟨congrArg (fun z : Int => Ending.returned (.int .i64 z)) HRw.out.symm, HE2.out⟩
    · have HRw := HRv.out
      rw [if_neg h4] at HRw
      have HRw := Lib.hid HRw
      go_wp2_with (first
        | (refine wpList_load_row rfl 59 _ rfl w.heap.size rfl 59 _ (0, 0) _ hat2.out.row Try.underlying59 rfl (by kernel_rfl) ?_)
        | fail)
      refine CN2.out.mono ?_
      rintro e w3 ⟨rfl, he3⟩
      have HE3 := Lib.hid (HE2.out.trans he3)
      clear CN2 he3
      by_cases h5 : 400 ≤ n
      · have HRx : Hid (R = 142) := Lib.hid (by rw [HRw.out, if_pos h5])
        have h6 : (400 : Int) ≤ (n : Int) := by omega
        go_wp2_with fail
        go_ret
        exact ⟨congrArg (fun z : Int => Ending.returned (.int .i64 z)) HRx.out.symm, HE3.out⟩
      · have HRx : Hid (R = 0) := Lib.hid (by rw [HRw.out, if_neg h5])
        have h6 : ¬ (400 : Int) ≤ (n : Int) := by omega
        go_wp2_with fail
        go_ret
        exact ⟨congrArg (fun z : Int => Ending.returned (.int .i64 z)) HRx.out.symm, HE3.out⟩

end Go.Proofs.Ytjckfbpdnpehcaa

/-
  Layer 14: the document's empty disk; its disk with one more file.
-/
namespace Go.Proofs.Ytjckfbpdnpehcaa
open Go.RowKit Go.Maps Go.WideMaps
set_option maxRecDepth 100000

/-- A file's bytes and how many of them are safe. -/
def shBd : Shape (Sl × Int) := ⟨fun r => [r.1.v, .int .i64 r.2], 2, fun _ => rfl, by
  intro x u hu
  simp only [List.mem_cons, List.not_mem_nil, or_false] at hu
  rcases hu with rfl | rfl <;> rfl⟩
theorem Try.infoBd : (Try.prog.info? 77).map (fun i => (i.zero, i.size, i.bytes)) = some (some (Value.agg #[.slice none 0 0, .int .i64 0]), 2, 32) := by kernel_rfl
theorem bd32 {n : Nat} (h : n ≤ 2000000) : (n + n / 4 + 192) * 32 ≤ 281474976710656 := by omega

set_option maxHeartbeats 1600000 in
theorem rnew_any (w : World) (room : Int) (h0 : 0 ≤ room) (h1 : room ≤ 16777216) :
    Calls Try.prog 63 #[.int .i64 room] w fun e w' => e = .returned (.agg #[.slice none 0 0, .slice none 0 0, .slice none 0 0, .int .i64 room, .slice none 0 0, .int .i64 0, .bool false]) ∧ Ext w w' := by
  have HZ := Lib.hid (heap_alloc_new w (.cells #[.slice none 0 0, .slice none 0 0, .slice none 0 0, .int .i64 0, .slice none 0 0, .int .i64 0, .bool false] 59))
  go_enter Try.func63, Try.ntmps63
  have a1 : ¬ room < 0 := by omega
  have a2 : ¬ (16777216 : Int) < room := by omega
  go_wp2_with (first
    | (refine wpList_store_row rfl 59 _ _ rfl w.heap.size #[.slice none 0 0, .slice none 0 0, .slice none 0 0, .int .i64 room, .slice none 0 0, .int .i64 0, .bool false] rfl rfl 59 #[.slice none 0 0, .slice none 0 0, .slice none 0 0, .int .i64 0, .slice none 0 0, .int .i64 0, .bool false] HZ.out (by kernel_rfl) rfl (by simp [Value.oneCell']) ?_)
    | fail)
  refine bodyPost_ret (results_cell_row rfl _ _ w.heap.size 59 #[.slice none 0 0, .slice none 0 0, .slice none 0 0, .int .i64 room, .slice none 0 0, .int .i64 0, .bool false] (0, 0) _ rfl (setRow_heap _ _ _ _ 59 (0, 0) HZ.out) Try.underlying59 rfl (by kernel_rfl)) rfl ?_
  exact ⟨rfl, ((Ext.refl w).alloc _).setRow (Nat.le_refl _) _⟩

set_option maxHeartbeats 6400000 in
theorem rbody_any {w : World} {A : Option Addr} {n c : Nat} {bs : List (Sl × Int)} (h : RdG shBd w A n bs) (DA : Option Addr) (dn dc : Nat) (room st : Int) (SA : Option Addr) (sn sc : Nat) (s : Sl) (hs : s.v = .slice SA sn sc) (k : Int) (hn : n ≤ 1000000) :
    Calls Try.prog 65 #[.agg #[.slice A n c, .slice DA dn dc, .slice none 0 0, .int .i64 room, .slice none 0 0, .int .i64 st, .bool false], .agg #[.slice SA sn sc, .int .i64 k]] w fun e w' =>
      ∃ A' c', e = .returned (.agg #[.slice A' (n + 1) c', .slice DA dn dc, .slice none 0 0, .int .i64 room, .slice none 0 0, .int .i64 st, .bool false]) ∧ OwnG shBd 77 w' w.heap.size A' c' (bs ++ [(s, k)]) ∧ Ext w w' := by
  obtain ⟨w3, hw3⟩ : ∃ w3, w3 = ((w.alloc (.cells #[.slice A n c, .slice DA dn dc, .slice none 0 0, .int .i64 room, .slice none 0 0, .int .i64 st, .bool false] 59)).alloc (.cells #[.slice SA sn sc, .int .i64 k] 77)).alloc (.cells #[.slice none 0 0, .slice none 0 0, .slice none 0 0, .int .i64 0, .slice none 0 0, .int .i64 0, .bool false] 59) := ⟨_, rfl⟩
  have hE3 : Ext w w3 := by rw [hw3]; exact (((Ext.refl w).alloc _).alloc _).alloc _
  have hz3 : w3.heap.size = w.heap.size + 3 := by rw [hw3]; simp
  have r1 : RdAt w3 w.heap.size (.slice A n c) (.slice DA dn dc) room st := by
    rw [hw3]; exact ((RdAt.new w (.slice A n c) (.slice DA dn dc) room st).to ((Ext.refl _).alloc _)).to ((Ext.refl _).alloc _)
  have r2 : w3.heap[w.heap.size + 1]? = some (.cells #[.slice SA sn sc, .int .i64 k] 77 (0, 0)) := by
    rw [hw3]
    refine (heap_alloc_old _ _ (by simp)).trans ?_
    have := heap_alloc_new (w.alloc (.cells #[.slice A n c, .slice DA dn dc, .slice none 0 0, .int .i64 room, .slice none 0 0, .int .i64 st, .bool false] 59)) (.cells #[.slice SA sn sc, .int .i64 k] 77)
    simpa using this
  have r3 : w3.heap[w.heap.size + 2]? = some (.cells #[.slice none 0 0, .slice none 0 0, .slice none 0 0, .int .i64 0, .slice none 0 0, .int .i64 0, .bool false] 59 (0, 0)) := by
    rw [hw3]
    have := heap_alloc_new ((w.alloc (.cells #[.slice A n c, .slice DA dn dc, .slice none 0 0, .int .i64 room, .slice none 0 0, .int .i64 st, .bool false] 59)).alloc (.cells #[.slice SA sn sc, .int .i64 k] 77)) (.cells #[.slice none 0 0, .slice none 0 0, .slice none 0 0, .int .i64 0, .slice none 0 0, .int .i64 0, .bool false] 59)
    simpa using this
  have HR : Hid (∀ W, Ext w3 W → RdAt W w.heap.size (.slice A n c) (.slice DA dn dc) room st ∧ W.heap[w.heap.size + 1]? = some (.cells #[.slice SA sn sc, .int .i64 k] 77 (0, 0)) ∧ W.heap[w.heap.size + 2]? = some (.cells #[.slice none 0 0, .slice none 0 0, .slice none 0 0, .int .i64 0, .slice none 0 0, .int .i64 0, .bool false] 59 (0, 0))) :=
    Lib.hid (fun W hW => ⟨r1.to hW, (hW.block _ (by omega)).trans r2, (hW.block _ (by omega)).trans r3⟩)
  have HD := Lib.hid (h.ext hE3)
  have Hl := Lib.hid h.len
  have HE3 := Lib.hid hE3
  have Hz3 := Lib.hid hz3
  have hmade := OwnG.made (base := w3.heap.size) shBd 77 w3 (Nat.le_refl _)
  rw [show (some (⟨w3.heap.size, 0, none⟩ : Addr)) = some ⟨w.heap.size + 1 + 1 + 1, 0, none⟩ from by rw [hz3]] at hmade
  have Hmade := Lib.hid hmade
  have Hs := Lib.hid hs
  have HW3 := Lib.hid hw3
  clear h hE3 hz3 r1 r2 r3 hmade hs
  go_enter Try.func65, Try.ntmps65
  go_wp2_with fail
  rw [← HW3.out]
  clear hw3
  go_loopw [5, 6] (fun v i wr => ∃ (j : Nat) (A' : Option Addr) (c' : Nat), j ≤ n ∧ i = .int .i64 (j : Int) ∧ v = .slice A' j c' ∧ Hid (OwnG shBd 77 wr w3.heap.size A' c' (bs.take j)) ∧ Hid (Ext w3 wr)) (fun _ i _ => n - (intOf i).toNat)
  case atStart => exact ⟨0, _, _, Nat.zero_le _, rfl, rfl, Hmade, Lib.hid ((Ext.refl w3).alloc _)⟩
  case round =>
    obtain ⟨j, A', c', hj, rfl, rfl, HO, HE⟩ := hrel
    have HM : Hid ((bs.take j).length = j) := Lib.hid (by rw [List.length_take, Hl.out]; omega)
    obtain ⟨hr1, hr2, hr3⟩ := HR.out wr HE.out
    have q0 := hr1.c0
    have hbd : ((j + 1) + (j + 1) / 4 + 192) * 32 ≤ 281474976710656 := bd32 (by omega)
    by_cases hlt : j < n
    · obtain ⟨b, o, e, hA, hbl, hx, hcx⟩ := (HD.out.ext HE.out).at_ hlt
      obtain ⟨y, z⟩ := e
      have c0 : wr.cell? ⟨b, o + j * 2, none⟩ = some y.v := by simpa [shBd] using hcx 0 _ rfl
      have c1 : wr.cell? ⟨b, o + j * 2 + 1, none⟩ = some (.int .i64 z) := by simpa [shBd] using hcx 1 _ rfl
      rw [hA] at q0
      obtain ⟨ys, hys⟩ : ∃ ys, ys = y.v := ⟨_, rfl⟩
      rw [← hys] at c0
      have Hys := Lib.hid hys
      have Hlt := Lib.hid hlt
      have htk : Hid (bs.take (j + 1) = bs.take j ++ [(y, z)]) := Lib.hid (by rw [List.take_add_one, hx]; rfl)
      have hone : ys.oneCell' = true := by rw [hys]; rfl
      clear hA hbl hx hcx hlt hr1 hr2 hr3 hys
      go_wp2_with (at_builtin; refine wpList_pushG (w0 := w3) (base := w3.heap.size) shBd (y, z) 77 rfl _ _ 55 rfl _ 32 Try.underlying55 Try.infoBd rfl (by decide) (HO.out.ext ((Ext.refl _).alloc _)) j HM.out rfl rfl (by rw [show (shBd.cells (y, z)).toArray = #[ys, .int .i64 z] from by rw [Hys.out]; rfl]; exact heap_alloc_new _ _) hbd (by omega) (HE.out.alloc _) (by simp; have := HE.out.size; omega) ?_; intro A5 c5 w5 ho5 _ hb5 _)
      go_roundw
      case rel => exact ⟨j + 1, A5, c5, by have := Hlt.out; omega, by go_num, rfl, Lib.hid (by rw [htk.out]; exact ho5), Lib.hid hb5⟩
      case measure => simp [intOf]; have := Hlt.out; omega
    · obtain rfl : j = n := by omega
      have hfull : bs.take j = bs := List.take_of_length_le (by rw [Hl.out]; exact Nat.le_refl _)
      rw [hfull] at HO HM
      have d0 : wr.cell? ⟨w.heap.size + 1, 0, none⟩ = some (.slice SA sn sc) := cell_of_row wr _ 0 _ _ (0, 0) hr2
      have d1 : wr.cell? ⟨w.heap.size + 1, 1, none⟩ = some (.int .i64 k) := cell_of_row wr _ 1 _ _ (0, 0) hr2
      clear hlt hfull hr1 hr2 hr3
      go_wp2_with (first
        | (at_builtin; refine wpList_pushG (w0 := w3) (base := w3.heap.size) shBd (s, k) 77 rfl _ _ 55 rfl _ 32 Try.underlying55 Try.infoBd rfl (by decide) (HO.out.ext ((Ext.refl _).alloc _)) j HM.out rfl rfl (by rw [show (shBd.cells (s, k)).toArray = #[.slice SA sn sc, .int .i64 k] from by rw [← Hs.out]; rfl]; exact heap_alloc_new _ _) hbd (by omega) (HE.out.alloc _) (by simp; have := HE.out.size; omega) ?_; intro A5 c5 w5 ho5 _ hb5 _; obtain ⟨hr1, hr2, hr3⟩ := HR.out w5 hb5; have HB5 := Lib.hid hb5; have HO5 := Lib.hid ho5; have hq0 := hr1.c0; have hfr : w5.frozen? ⟨w.heap.size, 0, none⟩ = false := (by simp [World.frozen?, hr1.row]); have HS5 : Hid ((w5.setCell ⟨w.heap.size, 0, none⟩ (.slice A5 (j + 1) c5)).heap[w.heap.size]? = some (.cells #[.slice A5 (j + 1) c5, .slice DA dn dc, .slice none 0 0, .int .i64 room, .slice none 0 0, .int .i64 st, .bool false] 59 (0, 0))) := Lib.hid (by rw [heap_setCell_same _ w.heap.size 0 _ _ _ hr1.row]; (try rfl)); have HT5 : Hid ((w5.setCell ⟨w.heap.size, 0, none⟩ (.slice A5 (j + 1) c5)).heap[w.heap.size + 1 + 1]? = some (.cells #[.slice none 0 0, .slice none 0 0, .slice none 0 0, .int .i64 0, .slice none 0 0, .int .i64 0, .bool false] 59 (0, 0))) := Lib.hid (((setCell_grown w5 ⟨w.heap.size, 0, none⟩ (.slice A5 (j + 1) c5)).block _ (Array.getElem?_eq_some_iff.1 hr3).1 (fun e => by have h9 : w.heap.size + 1 + 1 = w.heap.size := Option.some.inj e; omega)).trans hr3); clear hr1 hr2 hr3 ho5 hb5)
        | (refine wpList_load_row rfl 59 _ rfl w.heap.size rfl 59 _ (0, 0) _ HS5.out Try.underlying59 rfl (by kernel_rfl) ?_)
        | (refine wpList_store_row rfl 59 _ _ rfl (w.heap.size + 1 + 1) #[.slice A5 (j + 1) c5, .slice DA dn dc, .slice none 0 0, .int .i64 room, .slice none 0 0, .int .i64 st, .bool false] rfl rfl 59 _ HT5.out (by kernel_rfl) rfl (by simp [Value.oneCell']) ?_)
        | fail)
      refine bodyPost_ret (results_cell_row rfl _ _ (w.heap.size + 1 + 1) 59 #[.slice A5 (j + 1) c5, .slice DA dn dc, .slice none 0 0, .int .i64 room, .slice none 0 0, .int .i64 st, .bool false] (0, 0) _ rfl (setRow_heap _ _ _ _ 59 (0, 0) HT5.out) Try.underlying59 rfl (by kernel_rfl)) rfl ?_
      have hO := (HO5.out.grown (setCell_grown w5 ⟨w.heap.size, 0, none⟩ (.slice A5 (j + 1) c5)) (fun a ha e => by have h1 := (HO5.out.block a ha).1; have h9 : a.block = w.heap.size := Option.some.inj e; have := Hz3.out; omega))
      have hO2 := hO.grown (grown_setRow _ (w.heap.size + 1 + 1) #[.slice A5 (j + 1) c5, .slice DA dn dc, .slice none 0 0, .int .i64 room, .slice none 0 0, .int .i64 st, .bool false]) (fun a ha e => by have h1 := (HO5.out.block a ha).1; have h9 : a.block = w.heap.size + 1 + 1 := Option.some.inj e; have := Hz3.out; omega)
      exact ⟨A5, c5, rfl, hO2.mono HE3.out.size, ((HE3.out.trans HB5.out).setCell (Nat.le_refl _) _).setRow (by omega) _⟩

end Go.Proofs.Ytjckfbpdnpehcaa

/-
  Layer 14: the document's disk that is made with files.
-/
namespace Go.Proofs.Ytjckfbpdnpehcaa
open Go.RowKit Go.Maps Go.WideMaps
set_option maxRecDepth 100000

/-- The directory behind the first j files. -/
def dirF (F : List (List UInt8 × List Nat)) : Nat → List (List UInt8 × Int)
  | 0 => []
  | j + 1 => match F[j]? with
    | some e => withL e.1 (j : Int) (dirF F j)
    | none => dirF F j
theorem withL_len (x : List UInt8) (k : Int) (d : List (List UInt8 × Int)) : (withL x k d).length = (wout x d).length + 1 := by
  have h := wfold_len x k (wout x d)
  unfold withL
  split
  · rename_i h1; rw [h, h1]; rfl
  · rename_i h1
    rw [List.length_append, h]
    rw [Bool.not_eq_true] at h1
    rw [h1]; rfl
theorem wout_id {x : List UInt8} {d : List (List UInt8 × Int)} (hp : ∀ e ∈ d, 0 ≤ e.2) (h : ¬ 0 ≤ findE x d) : wout x d = d := by
  unfold wout
  refine List.filter_eq_self.2 fun e he => ?_
  by_cases h1 : e.1 = x
  · exfalso
    apply h
    unfold findE
    split
    · rename_i e' hf
      exact hp _ (List.mem_of_find?_eq_some hf)
    · rename_i hf
      exact absurd h1 (by simpa using List.find?_eq_none.1 hf e he)
  · simpa using h1
theorem wfold_mem {x : List UInt8} {k : Int} {r : List (List UInt8 × Int)} : ∀ e ∈ (wfold x k r).1, e = (x, k) ∨ e ∈ r := by
  have : ∀ (l : List (List UInt8 × Int)) (s : List (List UInt8 × Int) × Bool), ∀ e ∈ (l.foldl (wstep x k) s).1, e = (x, k) ∨ e ∈ s.1 ∨ e ∈ l := by
    intro l
    induction l with
    | nil => intro s e he; exact .inr (.inl he)
    | cons a r ih =>
      intro s e he
      rcases ih (wstep x k s a) e he with h | h | h
      · exact .inl h
      · unfold wstep at h
        split at h
        · simp only [List.mem_append, List.mem_cons, List.not_mem_nil, or_false] at h
          rcases h with h | h | h
          · exact .inr (.inl h)
          · exact .inl h
          · exact .inr (.inr (List.mem_cons.2 (.inl h)))
        · simp only [List.mem_append, List.mem_cons, List.not_mem_nil, or_false] at h
          rcases h with h | h
          · exact .inr (.inl h)
          · exact .inr (.inr (List.mem_cons.2 (.inl h)))
      · exact .inr (.inr (List.mem_cons.2 (.inr h)))
  intro e he
  rcases this r ([], false) e he with h | h | h
  · exact .inl h
  · cases h
  · exact .inr h
theorem withL_mem {x : List UInt8} {k : Int} {d : List (List UInt8 × Int)} : ∀ e ∈ withL x k d, e = (x, k) ∨ e ∈ d := by
  intro e he
  have hw : ∀ e ∈ wout x d, e ∈ d := fun e he => (List.mem_filter.1 he).1
  unfold withL at he
  split at he
  · rcases wfold_mem e he with h | h
    · exact .inl h
    · exact .inr (hw e h)
  · rcases List.mem_append.1 he with he | he
    · rcases wfold_mem e he with h | h
      · exact .inl h
      · exact .inr (hw e h)
    · exact .inl (List.mem_singleton.1 he)
theorem dirF_ids (F : List (List UInt8 × List Nat)) : ∀ j, ∀ e ∈ dirF F j, 0 ≤ e.2
  | 0, e, he => by cases he
  | j + 1, e, he => by
    unfold dirF at he
    split at he
    · rcases withL_mem e he with h | h
      · rw [h]; exact Int.natCast_nonneg j
      · exact dirF_ids F j e h
    · exact dirF_ids F j e he
theorem refE_0 {x : List UInt8} {d : List (List UInt8 × Int)} (h : refE x d = 0) : isNm ⟨x.toArray⟩ = true ∧ ¬ 0 ≤ findE x d ∧ d.length < 400 := by
  unfold refE at h
  split at h
  · omega
  · rename_i h1
    split at h
    · omega
    · rename_i h2
      split at h
      · omega
      · rename_i h3
        exact ⟨by simpa using h1, h2, by omega⟩
theorem dirF_len {F : List (List UInt8 × List Nat)} : ∀ j, j ≤ F.length → (∀ i x, i < j → F[i]? = some x → refE x.1 (dirF F i) = 0) → (dirF F j).length = j ∧ j ≤ 400
  | 0, _, _ => ⟨rfl, by omega⟩
  | j + 1, hj, h => by
    obtain ⟨h1, h2⟩ := dirF_len j (by omega) (fun i x hi => h i x (by omega))
    have hx : F[j]? = some F[j] := List.getElem?_eq_getElem (by omega)
    obtain ⟨_, h4, h5⟩ := refE_0 (h j _ (by omega) hx)
    unfold dirF
    simp only [hx]
    rw [withL_len, wout_id (dirF_ids F j) h4, h1]
    exact ⟨rfl, by omega⟩

/-- Seven cells stored one by one. -/
def set7 (w : World) (g : Nat) (v0 v1 v2 v3 v4 v5 v6 : Value) : World := ((((((w.setCell ⟨g, 0, none⟩ v0).setCell ⟨g, 1, none⟩ v1).setCell ⟨g, 2, none⟩ v2).setCell ⟨g, 3, none⟩ v3).setCell ⟨g, 4, none⟩ v4).setCell ⟨g, 5, none⟩ v5).setCell ⟨g, 6, none⟩ v6
theorem set7_heap {w : World} {g : Nat} {a0 a1 a2 a3 a4 a5 a6 : Value} {T : TypeId} (h : w.heap[g]? = some (.cells #[a0, a1, a2, a3, a4, a5, a6] T (0, 0))) (v0 v1 v2 v3 v4 v5 v6 : Value) : (set7 w g v0 v1 v2 v3 v4 v5 v6).heap[g]? = some (.cells #[v0, v1, v2, v3, v4, v5, v6] T (0, 0)) := by
  have h0 : ((w.setCell ⟨g, 0, none⟩ v0)).heap[g]? = some (.cells #[v0, a1, a2, a3, a4, a5, a6] T (0, 0)) := by
    rw [heap_setCell_same w g 0 _ _ v0 h]
    rfl
  have h1 : (((w.setCell ⟨g, 0, none⟩ v0).setCell ⟨g, 1, none⟩ v1)).heap[g]? = some (.cells #[v0, v1, a2, a3, a4, a5, a6] T (0, 0)) := by
    rw [heap_setCell_same (w.setCell ⟨g, 0, none⟩ v0) g 1 _ _ v1 h0]
    rfl
  have h2 : ((((w.setCell ⟨g, 0, none⟩ v0).setCell ⟨g, 1, none⟩ v1).setCell ⟨g, 2, none⟩ v2)).heap[g]? = some (.cells #[v0, v1, v2, a3, a4, a5, a6] T (0, 0)) := by
    rw [heap_setCell_same ((w.setCell ⟨g, 0, none⟩ v0).setCell ⟨g, 1, none⟩ v1) g 2 _ _ v2 h1]
    rfl
  have h3 : (((((w.setCell ⟨g, 0, none⟩ v0).setCell ⟨g, 1, none⟩ v1).setCell ⟨g, 2, none⟩ v2).setCell ⟨g, 3, none⟩ v3)).heap[g]? = some (.cells #[v0, v1, v2, v3, a4, a5, a6] T (0, 0)) := by
    rw [heap_setCell_same (((w.setCell ⟨g, 0, none⟩ v0).setCell ⟨g, 1, none⟩ v1).setCell ⟨g, 2, none⟩ v2) g 3 _ _ v3 h2]
    rfl
  have h4 : ((((((w.setCell ⟨g, 0, none⟩ v0).setCell ⟨g, 1, none⟩ v1).setCell ⟨g, 2, none⟩ v2).setCell ⟨g, 3, none⟩ v3).setCell ⟨g, 4, none⟩ v4)).heap[g]? = some (.cells #[v0, v1, v2, v3, v4, a5, a6] T (0, 0)) := by
    rw [heap_setCell_same ((((w.setCell ⟨g, 0, none⟩ v0).setCell ⟨g, 1, none⟩ v1).setCell ⟨g, 2, none⟩ v2).setCell ⟨g, 3, none⟩ v3) g 4 _ _ v4 h3]
    rfl
  have h5 : (((((((w.setCell ⟨g, 0, none⟩ v0).setCell ⟨g, 1, none⟩ v1).setCell ⟨g, 2, none⟩ v2).setCell ⟨g, 3, none⟩ v3).setCell ⟨g, 4, none⟩ v4).setCell ⟨g, 5, none⟩ v5)).heap[g]? = some (.cells #[v0, v1, v2, v3, v4, v5, a6] T (0, 0)) := by
    rw [heap_setCell_same (((((w.setCell ⟨g, 0, none⟩ v0).setCell ⟨g, 1, none⟩ v1).setCell ⟨g, 2, none⟩ v2).setCell ⟨g, 3, none⟩ v3).setCell ⟨g, 4, none⟩ v4) g 5 _ _ v5 h4]
    rfl
  have h6 : ((((((((w.setCell ⟨g, 0, none⟩ v0).setCell ⟨g, 1, none⟩ v1).setCell ⟨g, 2, none⟩ v2).setCell ⟨g, 3, none⟩ v3).setCell ⟨g, 4, none⟩ v4).setCell ⟨g, 5, none⟩ v5).setCell ⟨g, 6, none⟩ v6)).heap[g]? = some (.cells #[v0, v1, v2, v3, v4, v5, v6] T (0, 0)) := by
    rw [heap_setCell_same ((((((w.setCell ⟨g, 0, none⟩ v0).setCell ⟨g, 1, none⟩ v1).setCell ⟨g, 2, none⟩ v2).setCell ⟨g, 3, none⟩ v3).setCell ⟨g, 4, none⟩ v4).setCell ⟨g, 5, none⟩ v5) g 6 _ _ v6 h5]
    rfl
  exact h6
theorem grown_cell {w0 w : World} {g : Nat} (h : w0.grownBy w (some g)) (i : Nat) (v : Value) : w0.grownBy (w.setCell ⟨g, i, none⟩ v) (some g) := h.trans (setCell_grown w ⟨g, i, none⟩ v)
theorem set7_grown (w : World) (g : Nat) (v0 v1 v2 v3 v4 v5 v6 : Value) : w.grownBy (set7 w g v0 v1 v2 v3 v4 v5 v6) (some g) := by
  unfold set7
  exact grown_cell (grown_cell (grown_cell (grown_cell (grown_cell (grown_cell (setCell_grown w ⟨g, 0, none⟩ v0) 1 v1) 2 v2) 3 v3) 4 v4) 5 v5) 6 v6
theorem set7_ext {w0 w : World} (h : Ext w0 w) {g : Nat} (hg : w0.heap.size ≤ g) (v0 v1 v2 v3 v4 v5 v6 : Value) : Ext w0 (set7 w g v0 v1 v2 v3 v4 v5 v6) := by
  unfold set7
  exact ((((((h.setCell hg v0).setCell hg v1).setCell hg v2).setCell hg v3).setCell hg v4).setCell hg v5).setCell hg v6

end Go.Proofs.Ytjckfbpdnpehcaa
