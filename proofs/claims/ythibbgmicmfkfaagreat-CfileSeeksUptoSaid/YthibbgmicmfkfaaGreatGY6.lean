import Derived.Test.YthibbgmicmfkfaaGreatGY5
import Derived.Shelf.SlIter.Nil
import Derived.Shelf.SortM.Plain
import Derived.Shelf.SortM.SortNone
import Derived.Ground.GgzProg
import Derived.Ground.SlgmProg
import Derived.Test.YthibbgmicmfkfaaGreatProg
namespace Go.Proofs.YthibbgmicmfkfaaGreat
open Go.RowKit
set_option maxRecDepth 100000
theorem foldl_min_le (r : List Int) (x : Int) : r.foldl min x ≤ x ∧ ∀ v ∈ r, r.foldl min x ≤ v := by
  induction r generalizing x with
  | nil => exact ⟨Int.le_refl _, fun v hv => by cases hv⟩
  | cons y r ih =>
    obtain ⟨h1, h2⟩ := ih (min x y)
    refine ⟨by rw [List.foldl_cons]; omega, fun v hv => ?_⟩
    rw [List.foldl_cons]
    rcases List.mem_cons.1 hv with rfl | hv
    · omega
    · exact h2 v hv
theorem foldl_min_mem (r : List Int) (x : Int) : r.foldl min x = x ∨ r.foldl min x ∈ r := by
  induction r generalizing x with
  | nil => exact .inl rfl
  | cons y r ih =>
    rw [List.foldl_cons]
    rcases ih (min x y) with h | h
    · rcases Int.le_total x y with hxy | hxy
      · left; rw [h]; omega
      · right; rw [h, show min x y = y by omega]; simp
    · exact .inr (List.mem_cons_of_mem _ h)
theorem lo_le {xs : List Int} : ∀ v ∈ xs, lo xs ≤ v := by
  cases xs with
  | nil => intro v hv; cases hv
  | cons x r =>
    intro v hv
    rcases List.mem_cons.1 hv with rfl | hv
    · exact (foldl_min_le r v).1
    · exact (foldl_min_le r x).2 v hv
theorem lo_mem {xs : List Int} (h : 0 < xs.length) : lo xs ∈ xs := by
  cases xs with
  | nil => simp at h
  | cons x r =>
    rcases foldl_min_mem r x with h | h
    · show r.foldl min x ∈ x :: r
      rw [h]; simp
    · exact List.mem_cons_of_mem _ h
def dst (l : Int) (vs : List Int) : List Nat := vs.map fun v => (v - l).toNat
theorem dst_len (l : Int) (vs : List Int) : (dst l vs).length = vs.length := by simp [dst]
theorem dst_at {l : Int} {vs : List Int} {j : Nat} (h : j < vs.length) : (dst l vs).getD j 0 = (vs.getD j 0 - l).toNat := by simp [dst, List.getD, h]
theorem dst_u64 {l : Int} {vs : List Int} (hv : R64s vs) (hl : R64 l) : U64 (dst l vs) := by
  intro x hx
  obtain ⟨v, hvv, rfl⟩ := List.mem_map.1 hx
  have := hv v hvv
  unfold R64 at this hl
  omega
theorem wrap_dist {v l : Int} (hv : R64 v) (hl : R64 l) (h : l ≤ v) : IntKind.u64.wrap (IntKind.u64.wrap v - IntKind.u64.wrap l) = v - l := by
  simp only [IntKind.wrap_u64]
  unfold R64 at hv hl
  omega
theorem set_next {xs : List Nat} {n j : Nat} (hl : xs.length = n) (h : j < n) : (xs.take j ++ List.replicate (n - j) 0).set j (xs.getD j 0) = xs.take (j + 1) ++ List.replicate (n - (j + 1)) 0 := by
  have h1 : (xs.take j).length = j := by rw [List.length_take]; omega
  rw [List.set_append_right _ _ (by omega), h1, Nat.sub_self, show n - j = (n - (j + 1)) + 1 from by omega, List.replicate_succ, List.set_cons_zero, take_next xs j (by omega)]
  simp
set_option maxHeartbeats 1600000 in
theorem distances_any (l : Int) (A : Option Addr) (n c : Nat) (vs : List Int) (w : World) (hx : RdG shZ w A n vs) (hv : R64s vs) (hl : R64 l) (hle : ∀ v ∈ vs, l ≤ v) (hn : n ≤ 4096) :
    Calls Tryz.prog 176 #[.int .i64 l, .slice A n c] w fun e w' => ∃ A' c', e = .returned (.slice A' n c') ∧ Own .u64 69 w' w.heap.size A' c' (dst l vs) ∧ Ext w w' := by
  have Hl := Lib.hid hx.len
  obtain ⟨D, hD⟩ : ∃ D, D = dst l vs := ⟨_, rfl⟩
  rw [← hD]
  have HD := Lib.hid hD
  have HDl := Lib.hid (show D.length = n by rw [hD, dst_len]; exact Hl.out)
  have Hv := Lib.hid hv
  have Hle := Lib.hid hle
  have HL := Lib.hid hl
  clear hD hv hle hl
  go_enter Tryz.func176, Tryz.ntmps176
  go_wp2_with (refine wpList_mk .u64 69 rfl _ _ 72 rfl 8 Tryz.underlying72 Tryz.infoU64 .i64 .i64 n rfl rfl rfl rfl (by omega) (by omega) ?_; intro w1 hown1 he1)
  go_loopw [12] (fun i wr => ∃ j : Nat, j ≤ n ∧ i = .int .i64 j ∧ Own .u64 69 wr w.heap.size (some ⟨w.heap.size, 0, none⟩) n (D.take j ++ List.replicate (n - j) 0) ∧ Ext w wr) (fun i _ => n - (intOf i).toNat)
  case atStart => exact ⟨0, Nat.zero_le _, rfl, by simpa using hown1, he1⟩
  case round =>
    obtain ⟨j, hj, rfl, hown, hE⟩ := hrel
    by_cases hlt : j < n
    · obtain ⟨b, o, rfl, hbl, hc⟩ := (hx.ext hE).atZ hlt
      have hjl : j < (D.take j ++ List.replicate (n - j) 0).length := by rw [List.length_append, List.length_take, List.length_replicate, HDl.out]; omega
      obtain ⟨b', hA', hbb', hbl', hc', hf', hst⟩ := hown.at_ hjl
      injection hA' with hA'
      injection hA' with hA'
      subst hA'
      have hmem : vs.getD j 0 ∈ vs := by rw [List.getD, List.getElem?_eq_getElem (by have := Hl.out; omega)]; exact List.getElem_mem _
      have h64 := Hv.out _ hmem
      have hlev := Hle.out _ hmem
      have hDj := dst_at (l := l) (vs := vs) (j := j) (by have := Hl.out; omega)
      rw [← HD.out] at hDj
      obtain ⟨v, hve⟩ : ∃ v, v = vs.getD j 0 := ⟨_, rfl⟩
      rw [← hve] at hc h64 hlev hDj
      obtain ⟨x, hxe⟩ : ∃ x, x = D.getD j 0 := ⟨_, rfl⟩
      have hstep := set_next HDl.out hlt
      obtain ⟨hs1, hs2⟩ := hst x
      rw [hxe, hstep] at hs1
      rw [← hxe] at hDj
      have hw := wrap_dist h64 HL.out hlev
      rw [show v - l = (x : Int) by omega] at hw
      have Hs1 := Lib.hid hs1
      rw [← hxe] at Hs1
      have He := Lib.hid (hE.setCell (p := ⟨w.heap.size, j, none⟩) (Nat.le_refl _) (.int .u64 (x : Int)))
      obtain ⟨old, hold⟩ : ∃ v, v = Value.int .u64 (((D.take j ++ List.replicate (n - j) 0).getD j 0 : Nat) : Int) := ⟨_, rfl⟩
      rw [← hold] at hc'
      clear hold hs1 hs2 hst hown hE hxe hDj hstep hjl hmem h64 hlev hve
      go_wp2_with fail
      go_roundw
      case rel => exact ⟨j + 1, by omega, by go_num, Hs1.out, He.out⟩
      case measure => simp [intOf]; omega
    · obtain rfl : j = n := by omega
      rw [Nat.sub_self, List.replicate_zero, List.append_nil, List.take_of_length_le (by have := HDl.out; omega)] at hown
      go_wp2_with fail
      go_ret
      exact ⟨_, _, rfl, hown, hE⟩
theorem refFold_any (v : Int) (w : World) (h0 : -9223372036854775808 ≤ v) (h1 : v ≤ 9223372036854775807) :
    Calls Tryz.prog 196 #[.int .i64 v] w fun e w' => e = .returned (.int .u64 (foldS v)) ∧ w = w' := by
  obtain ⟨R, hR⟩ : ∃ R, R = foldS v := ⟨_, rfl⟩
  rw [← hR]
  unfold foldS at hR
  have HR := Lib.hid hR
  clear hR
  by_cases h : v < 0
  · have b1 : decide (0 ≤ v) = false := decide_eq_false (by omega)
    have h3 := HR.out
    rw [if_pos h] at h3
    have H3 := Lib.hid h3
    clear h3
    go_enter Tryz.func196, Tryz.ntmps196
    go_wp2
    go_ret
    refine ⟨ret_int ?_, rfl⟩
    have := H3.out
    omega
  · have h2 : 0 ≤ v := by omega
    have h3 := HR.out
    rw [if_neg h] at h3
    have H3 := Lib.hid h3
    clear h3
    go_enter Tryz.func196, Tryz.ntmps196
    go_wp2
    go_ret
    refine ⟨ret_int ?_, rfl⟩
    have := H3.out
    omega
def wid (vs : List Int) : Nat := wdt (dst (lo vs) vs)
def encP (vs : List Int) : List Nat := if vs.length = 0 then vput 0 else vput vs.length ++ (vput (foldS (lo vs)).toNat ++ ([wid vs] ++ packB (wid vs) (dst (lo vs) vs)))
def encode9 (vs : List Int) : List Nat × Int := if 4096 < vs.length then ([], 4) else (encP vs, 0)
def Enc9Post (vs : List Int) (w : World) (e : Ending) (w' : World) : Prop :=
  ∃ A' c', e = .returned (.tuple #[.slice A' (encode9 vs).1.length c', .int .i64 (encode9 vs).2]) ∧ Own .u8 5 w' w.heap.size A' c' (encode9 vs).1 ∧ Ext w w'
theorem wid_le {vs : List Int} (h : R64s vs) (hn : 0 < vs.length) : wid vs ≤ 64 := wdt_le.2 (U64_wd.1 (dst_u64 h (h _ (lo_mem hn))))
theorem packB_len9 (wd : Nat) (vs : List Nat) : (packB wd vs).length = (wd * vs.length + 7) / 8 := upk_len ..
theorem pack_dst {vs : List Int} (h : R64s vs) (hn : 0 < vs.length) (h4 : vs.length ≤ 4096) : packE (wid vs) (dst (lo vs) vs) = 0 ∧ packL (wid vs) (dst (lo vs) vs) = packB (wid vs) (dst (lo vs) vs) := by
  have h1 := wid_le h hn
  have hE : packE (wid vs) (dst (lo vs) vs) = 0 := packE_ok (by omega) (by rw [dst_len]; omega) (by show ¬ ((wid vs : Nat) : Int) < ((wid vs : Nat) : Int); omega)
  exact ⟨hE, by unfold packL; rw [if_pos hE]; rfl⟩
theorem RdSS.four (e : TypeId) (w : World) {b n c n2 c2 n3 c3 n4 c4 : Nat} {A A2 A3 A4 : Option Addr} {xs ys zs us : List Nat} (hb : w.heap.size = b) (h : Rd .u8 w A n xs) (h2 : Rd .u8 w A2 n2 ys) (h3 : Rd .u8 w A3 n3 zs) (h4 : Rd .u8 w A4 n4 us) :
    RdSS (w.alloc (.cells #[.slice A n c, .slice A2 n2 c2, .slice A3 n3 c3, .slice A4 n4 c4] e)) (some ⟨b, 0, none⟩) 4 [xs, ys, zs, us] := by
  subst hb
  exact RdSS.lit e w [(A, n, c), (A2, n2, c2), (A3, n3, c3), (A4, n4, c4)] [xs, ys, zs, us] rfl (fun j hj => by
    have hj2 : j < 4 := hj
    rcases (show j = 0 ∨ j = 1 ∨ j = 2 ∨ j = 3 by omega) with rfl | rfl | rfl | rfl
    · exact h
    · exact h2
    · exact h3
    · exact h4)
set_option maxHeartbeats 3200000 in
theorem p9encode_any (A : Option Addr) (n c : Nat) (vs : List Int) (w : World) (hx : RdG shZ w A n vs) (hv : R64s vs) :
    Calls Tryz.prog 144 #[.slice A n c] w (Enc9Post vs w) := by
  have hl := hx.len
  unfold Enc9Post
  by_cases hbig : 4096 < n
  · rw [show encode9 vs = ([], 4) by unfold encode9; rw [if_pos (by omega)]]
    clear hl
    go_enter Tryz.func144, Tryz.ntmps144
    go_wp2_with fail
    go_ret2
    exact ⟨none, 0, rfl, Own.nil _ _ _ _, Ext.refl w⟩
  · have hd4 : decide ((4096 : Int) < (n : Int)) = false := decide_eq_false (by omega)
    rw [show encode9 vs = (encP vs, 0) by unfold encode9; rw [if_neg (by omega)]]
    rcases Nat.eq_zero_or_pos n with h0 | hp
    · subst h0
      have hP : encP vs = vput 0 := by unfold encP; rw [if_pos hl]
      rw [hP]
      have HV := Lib.hid hP
      clear hl hP
      go_enter Tryz.func144, Tryz.ntmps144
      go_wp2_with fail
      refine (put_any 0 _ (by omega)).mono ?_
      rintro e w2 ⟨A2, c2, rfl, hown2, he2⟩
      go_wp2_with fail
      go_ret2
      exact ⟨A2, c2, rfl, hown2, he2⟩
    · have hP : encP vs = vput n ++ (vput (foldS (lo vs)).toNat ++ ([wid vs] ++ packB (wid vs) (dst (lo vs) vs))) := by unfold encP; rw [if_neg (by omega), hl]
      rw [hP]
      have hlm := hv _ (lo_mem (show 0 < vs.length by omega))
      have hle := lo_le (xs := vs)
      have hw64 := wid_le hv (show 0 < vs.length by omega)
      obtain ⟨hpE, hpL⟩ := pack_dst hv (show 0 < vs.length by omega) (by omega)
      have hpl := packB_len9 (wid vs) (dst (lo vs) vs)
      rw [dst_len, hl] at hpl
      have hdu := dst_u64 hv hlm
      have hdl := (dst_len (lo vs) vs).trans hl
      obtain ⟨f0, f1⟩ := fold_range hlm
      obtain ⟨u, hu⟩ : ∃ u : Nat, foldS (lo vs) = (u : Int) := ⟨(foldS (lo vs)).toNat, by omega⟩
      rw [hu, Int.toNat_natCast]
      have hMin : Hid (∀ W, Ext w W → Calls Tryz.prog 175 #[.slice A n c] W fun e w' => e = .returned (.int .i64 (lo vs)) ∧ W = w') := Lib.hid fun W hW => minZ_any A n c vs W (hx.ext hW) hp (by omega)
      have hDis : Hid (∀ W, Ext w W → Calls Tryz.prog 176 #[.int .i64 (lo vs), .slice A n c] W fun e w' => ∃ A' c', e = .returned (.slice A' n c') ∧ Own .u64 69 w' W.heap.size A' c' (dst (lo vs) vs) ∧ Ext W w') := Lib.hid fun W hW => distances_any (lo vs) A n c vs W (hx.ext hW) hv hlm hle (by omega)
      have hPk : Hid (∀ (B : Option Addr) (cb : Nat) W, Rd .u64 W B n (dst (lo vs) vs) → Calls Tryz.prog 141 #[.int .i64 (wid vs : Nat), .slice B n cb] W fun e w' => ∃ A' c', e = .returned (.tuple #[.slice A' (packB (wid vs) (dst (lo vs) vs)).length c', .int .i64 0]) ∧ Own .u8 5 w' W.heap.size A' c' (packB (wid vs) (dst (lo vs) vs)) ∧ Ext W w') := Lib.hid fun B cb W h => by
        have := pack_any B n cb (wid vs) (dst (lo vs) vs) W h hdu (by omega)
        unfold PackPost at this
        rw [hpE, hpL] at this
        exact this
      have hWd : Hid (∀ (B : Option Addr) (cb : Nat) W, Rd .u64 W B n (dst (lo vs) vs) → Calls Tryz.prog 169 #[.slice B n cb] W fun e w' => e = .returned (.int .i64 (wid vs : Nat)) ∧ W = w') := Lib.hid fun B cb W h => width_any B n cb (dst (lo vs) vs) W h hdu (by omega)
      have hFo : Hid (∀ W, Calls Tryz.prog 174 #[.int .i64 (lo vs)] W fun e w' => e = .returned (.int .u64 (u : Int)) ∧ W = w') := Lib.hid fun W => by rw [← hu]; exact fold_any _ W hlm.1 hlm.2
      obtain ⟨l, hle'⟩ : ∃ l, l = lo vs := ⟨_, rfl⟩
      obtain ⟨d, hde⟩ : ∃ d, d = wid vs := ⟨_, rfl⟩
      obtain ⟨D, hDe⟩ : ∃ D, D = dst (lo vs) vs := ⟨_, rfl⟩
      rw [← hDe, ← hde] at hPk hpl
      rw [← hDe] at hDis hWd hdl
      rw [← hde] at hWd hw64
      rw [← hDe, ← hde]
      rw [← hle'] at hMin hDis hFo
      obtain ⟨Q, hQ⟩ : ∃ Q, Q = packB d D := ⟨_, rfl⟩
      rw [← hQ] at hPk hpl ⊢
      obtain ⟨q, hq⟩ : ∃ q, q = Q.length := ⟨_, rfl⟩
      rw [← hq] at hPk hpl
      have Hq := Lib.hid hq.symm
      have Hdl := Lib.hid hdl
      have hdn : d * n ≤ 64 * 4096 := Nat.mul_le_mul hw64 (by omega)
      have hq4 : q ≤ 40000 := by rw [hpl]; omega
      have hvn := vsize_le (u := n) (by omega)
      have hvu := vsize_le (u := u) (by omega)
      rw [← vput_len] at hvn hvu
      obtain ⟨V1, hV1⟩ : ∃ V, V = vput n := ⟨_, rfl⟩
      obtain ⟨V2, hV2⟩ : ∃ V, V = vput u := ⟨_, rfl⟩
      have HV1 := Lib.hid hV1
      have HV2 := Lib.hid hV2
      rw [← hV1] at hvn ⊢
      rw [← hV2] at hvu ⊢
      have hfl : ([V1, V2, [d], Q] : List (List Nat)).flatten = V1 ++ (V2 ++ ([d] ++ Q)) := by simp
      have hfl2 : ([V1, V2, [d], Q] : List (List Nat)).flatten.length ≤ 180000000000000 := by rw [hfl]; simp; omega
      obtain ⟨L, hL⟩ : ∃ L, L = V1 ++ (V2 ++ ([d] ++ Q)) := ⟨_, rfl⟩
      rw [← hL] at hfl ⊢
      have Hfl := Lib.hid hfl
      have hn4 : n ≤ 4096 := by omega
      have Hu64 := Lib.hid (show u < 18446744073709551616 by omega)
      have hd8 : IntKind.u8.wrap (d : Int) = (d : Int) := IntWalk.u8_in _ (by omega)
      have hn0 : ((n : Int) == 0) = false := by rw [beq_eq_false_iff_ne]; omega
      have hwn : IntKind.u64.wrap (n : Int) = (n : Int) := IntWalk.u64_in _ (by omega)
      clear hl hlm hle hpE hpL hdu hdl f0 f1 hu hle' hde hDe hQ hq hpl hdn hV1 hV2 hfl hL hP hv hbig
      go_enter Tryz.func144, Tryz.ntmps144
      go_wp2_with fail
      refine (put_any n _ (by omega)).mono ?_
      rintro e w1 ⟨A1, c1, rfl, hown1, he1⟩
      rw [← HV1.out] at hown1 ⊢
      have hr1 := hown1.rd
      clear hown1
      go_wp2_with fail
      refine (hMin.out _ he1).mono ?_
      rintro e w2 ⟨rfl, rfl⟩
      go_wp2_with fail
      refine (hDis.out _ he1).mono ?_
      rintro e w2 ⟨A2, c2, rfl, hown2, he2⟩
      have hr2 := hown2.rd' Hdl.out
      clear hown2
      go_wp2_with fail
      refine (hWd.out _ _ _ hr2).mono ?_
      rintro e w3 ⟨rfl, rfl⟩
      go_wp2_with fail
      refine (hPk.out _ _ _ hr2).mono ?_
      rintro e w3 ⟨A3, c3, rfl, hown3, he3⟩
      have hr3 := hown3.rd' Hq.out
      clear hown3
      go_wp2_with fail
      refine (hFo.out _).mono ?_
      rintro e w4 ⟨rfl, rfl⟩
      go_wp2_with fail
      refine (put_any u _ Hu64.out).mono ?_
      rintro e w4 ⟨A4, c4, rfl, hown4, he4⟩
      rw [← HV2.out] at hown4 ⊢
      have hr4 := hown4.rd
      clear hown4
      have hX : ∀ o, Ext w4 (w4.alloc o) := fun o => (Ext.refl w4).alloc o
      go_wp2_with fail
      refine (concat_any _ 4 4 [V1, V2, [d], Q] _ (RdSS.four 22 _ (by simp) (((((hr1.ext he2).ext he3).ext he4).ext (hX _))) (hr4.ext (hX _)) (Rd.lit_at .u8 5 w4 [d] rfl rfl) ((hr3.ext he4).ext (hX _))) hfl2 (by omega)).mono ?_
      rintro e w5 ⟨A5, c5, rfl, hown5, he5⟩
      rw [Hfl.out] at hown5 ⊢
      have hE5 : Ext w w5 := (((he1.trans he2).trans he3).trans he4).trans (((hX _).alloc _).trans he5)
      have hb5 := (((he1.trans he2).trans he3).trans he4).size
      go_wp2_with fail
      go_ret2
      exact ⟨A5, c5, rfl, hown5.mono (by simp; omega), hE5⟩
def onlyF (l : Int) (wd : Int) (far : List Nat) : Bool := decide ((wdt far : Int) = wd) && (decide (loN far = 0) && decide ((hiN far : Int) ≤ 9223372036854775807 - l))
def secE (bs : List Nat) (a n : Nat) : Int := unpE (pk 8 (bs.drop (a + 1))) (bs.length - (a + 1)) (bs.getD a 0 : Nat) n
def secL (bs : List Nat) (a n : Nat) : List Nat := unpL (pk 8 (bs.drop (a + 1))) (bs.length - (a + 1)) (bs.getD a 0 : Nat) n
def above (l : Int) (far : List Nat) : List Int := far.map fun x : Nat => l + (x : Int)
theorem above_len (l : Int) (far : List Nat) : (above l far).length = far.length := by simp [above]
def decTail (bs : List Nat) (l : Int) (a n : Nat) : List Int × Int :=
  if a = bs.length then ([], 2) else if 64 < bs.getD a 0 then ([], 5) else if secE bs a n ≠ 0 then ([], secE bs a n) else if onlyF l (bs.getD a 0 : Nat) (secL bs a n) = true then (above l (secL bs a n), 0) else ([], 5)
def decSome (bs : List Nat) (a : Int) (n : Nat) : List Int × Int :=
  if (vget bs a).2.2 ≠ 0 then ([], (vget bs a).2.2) else decTail bs (unfS (vget bs a).1) (vget bs a).2.1.toNat n
def decode9 (bs : List Nat) : List Int × Int :=
  if (vget bs 0).2.2 ≠ 0 then ([], (vget bs 0).2.2) else if 4096 < (vget bs 0).1 then ([], 4) else
  if (vget bs 0).1 = 0 then (if (vget bs 0).2.1 < (bs.length : Int) then ([], 3) else ([], 0)) else decSome bs (vget bs 0).2.1 (vget bs 0).1
def Dec9Post (R : List Int × Int) (w : World) (e : Ending) (w' : World) : Prop :=
  ∃ A' c', e = .returned (.tuple #[.slice A' R.1.length c', .int .i64 R.2]) ∧ OwnG shZ 2 w' w.heap.size A' c' R.1 ∧ Ext w w'
theorem Rd.dropAt {w : World} {b o n k : Nat} {bs : List Nat} (h : Rd .u8 w (some ⟨b, o, none⟩) n bs) (hk : k ≤ n) : Rd .u8 w (some ⟨b, o + k, none⟩) (n - k) (bs.drop k) := by
  refine ⟨by rw [List.length_drop, h.1], fun hn => ?_⟩
  obtain ⟨b', o', e, hb, hc⟩ := h.2 (by omega)
  injection e with e
  injection e with e1 e2
  subst e1 e2
  refine ⟨b, o + k, rfl, hb, fun j hj => ?_⟩
  have := hc (k + j) (by omega)
  rw [Nat.add_assoc, this]
  simp [List.getD, List.getElem?_drop]
theorem wrap_room {l : Int} (hl : R64 l) : IntKind.u64.wrap (9223372036854775807 - IntKind.u64.wrap l) = 9223372036854775807 - l := by
  simp only [IntKind.wrap_u64]
  unfold R64 at hl
  omega
theorem wrap_above {l : Int} {x : Nat} (hl : R64 l) (h : (x : Int) ≤ 9223372036854775807 - l) : IntKind.i64.wrap (IntKind.u64.wrap (IntKind.u64.wrap l + (x : Int))) = l + (x : Int) := by
  simp only [IntKind.wrap_u64, IntKind.wrap_i64]
  unfold R64 at hl
  omega
set_option maxHeartbeats 1600000 in
theorem isOnly_any (l wd : Int) (A : Option Addr) (n c : Nat) (far : List Nat) (w : World) (hl : R64 l) (hx : Rd .u64 w A n far) (hu : U64 far) (hp : 0 < n) (hn : n ≤ 140737488355328) :
    Calls Tryz.prog 208 #[.int .i64 l, .int .i64 wd, .slice A n c] w fun e w' => e = .returned (.bool (onlyF l wd far)) ∧ w = w' := by
  have hw := wrap_room hl
  obtain ⟨R, hR⟩ : ∃ R, R = onlyF l wd far := ⟨_, rfl⟩
  rw [← hR]
  unfold onlyF at hR
  have h1 : Hid (Calls Tryz.prog 169 #[.slice A n c] w fun e w' => e = .returned (.int .i64 (wdt far)) ∧ w = w') := Lib.hid (width_any A n c far w hx hu hn)
  have h2 : Hid (Calls Tryz.prog 217 #[.slice A n c] w fun e w' => e = .returned (.int .u64 (loN far : Nat)) ∧ w = w') := Lib.hid (minU_any A n c far w hx hp (by omega))
  have h3 : Hid (Calls Tryz.prog 218 #[.slice A n c] w fun e w' => e = .returned (.int .u64 (hiN far : Nat)) ∧ w = w') := Lib.hid (maxU_any A n c far w hx hp (by omega))
  obtain ⟨a, ha⟩ : ∃ a, a = wdt far := ⟨_, rfl⟩
  obtain ⟨b, hb⟩ : ∃ b, b = loN far := ⟨_, rfl⟩
  obtain ⟨d, hd⟩ : ∃ d, d = hiN far := ⟨_, rfl⟩
  rw [← ha] at h1 hR
  rw [← hb] at h2 hR
  rw [← hd] at h3 hR
  have HR := Lib.hid hR
  clear hR ha hb hd hx hu hl
  by_cases c1 : (a : Int) = wd
  · have k1 : ((a : Int) == wd) = true := by simpa using c1
    by_cases c2 : b = 0
    · have k2 : ((b : Int) == 0) = true := by simpa using c2
      have HE := Lib.hid (show R = decide ((d : Int) ≤ 9223372036854775807 - l) by rw [HR.out, decide_eq_true c1, decide_eq_true c2]; rfl)
      clear c1 c2
      go_enter Tryz.func208, Tryz.ntmps208
      go_wp2_with fail
      refine h1.out.mono ?_
      rintro e w1 ⟨rfl, rfl⟩
      go_wp2_with fail
      refine h2.out.mono ?_
      rintro e w1 ⟨rfl, rfl⟩
      go_wp2_with fail
      refine h3.out.mono ?_
      rintro e w1 ⟨rfl, rfl⟩
      go_wp2_with fail
      go_ret
      exact ⟨by rw [HE.out]; rfl, rfl⟩
    · have k2 : ((b : Int) == 0) = false := by rw [beq_eq_false_iff_ne]; omega
      have HE := Lib.hid (show R = false by rw [HR.out, decide_eq_false c2]; simp)
      clear c1 c2
      go_enter Tryz.func208, Tryz.ntmps208
      go_wp2_with fail
      refine h1.out.mono ?_
      rintro e w1 ⟨rfl, rfl⟩
      go_wp2_with fail
      refine h2.out.mono ?_
      rintro e w1 ⟨rfl, rfl⟩
      go_wp2_with fail
      go_ret
      exact ⟨by rw [HE.out]; rfl, rfl⟩
  · have k1 : ((a : Int) == wd) = false := by simpa using c1
    have HE := Lib.hid (show R = false by rw [HR.out, decide_eq_false c1]; rfl)
    clear c1
    go_enter Tryz.func208, Tryz.ntmps208
    go_wp2_with fail
    refine h1.out.mono ?_
    rintro e w1 ⟨rfl, rfl⟩
    go_wp2_with fail
    go_ret
    exact ⟨by rw [HE.out]; rfl, rfl⟩
theorem wpList_mkZ {P : Program} {w : World} {ops : Array Oper} {rest : List Oper} {o : Oper} {a : Act} {Q : Exit → Act → World → Prop} (e : TypeId) (hgd : o.guard = none) (l c : Operand) (t : TypeId)
    (hop : o.op = Op.makeSlice t l c) (bytes : Nat) (ht : P.underlying t = some (.slice e)) (hi : (P.info? e).map (fun i => (i.zero, i.size, i.bytes)) = some (some (.int .i64 0), 1, bytes))
    (kl kc : IntKind) {L C : Int} (n : Nat) (hl : a.eval l = .int kl L) (hc : a.eval c = .int kc C) (hL : L = (n : Int)) (hC : C = (n : Int)) (hb : bytes * n ≤ 281474976710656) (hn : n ≤ 9223372036854775807)
    (h : ∀ w', OwnG shZ e w' w.heap.size (some ⟨w.heap.size, 0, none⟩) n (List.replicate n 0) → Ext w w' → wpList P ops Q rest (a.put o.dst (.slice (some ⟨w.heap.size, 0, none⟩) n n)) w') :
    wpList P ops Q (o :: rest) a w := by
  obtain ⟨i, hi0, hz, hsz, hbs⟩ := info_parts hi
  refine wpList_make_full w hgd l c t hop w.heap.size e i (.int .i64 0) 1 ht hi0 hz hsz kl kc L C n hl hc hL hC (by rw [hbs]; exact hb) (by unfold maxLen; omega) (Nat.le_refl _) ?_
  intro w' h1 h2
  refine h w' ?_ ⟨h2.os, h2.tape, h2.output, h2.size, fun j hj => h2.block j hj (by simp)⟩
  unfold OwnG
  have e1 : (madeCells (Value.int .i64 0).cells (n * 1)).toList = List.replicate n (Value.int .i64 0) := by
    rw [Nat.mul_one]; exact toList_madeCells_one _ _
  rw [e1] at h1
  rw [shZ.all]
  simpa [shZ] using h1
theorem set_nextZ {xs : List Int} {n j : Nat} (hl : xs.length = n) (h : j < n) : (xs.take j ++ List.replicate (n - j) 0).set j (xs.getD j 0) = xs.take (j + 1) ++ List.replicate (n - (j + 1)) 0 := by
  have h1 : (xs.take j).length = j := by rw [List.length_take]; omega
  rw [List.set_append_right _ _ (by omega), h1, Nat.sub_self, show n - j = (n - (j + 1)) + 1 from by omega, List.replicate_succ, List.set_cons_zero, take_nextG xs j (x := xs.getD j 0) (by rw [List.getD, List.getElem?_eq_getElem (by omega)]; rfl)]
  simp
theorem secL_len {bs : List Nat} {a n : Nat} (h : secE bs a n = 0) : (secL bs a n).length = n := by
  unfold secL
  rw [unp_ok h, upk_len, Int.toNat_natCast]
theorem secL_u64 (bs : List Nat) (a n : Nat) (h : bs.getD a 0 ≤ 64) : U64 (secL bs a n) := by
  unfold secL unpL
  split
  · rw [Int.toNat_natCast]
    intro v hv
    have := upk_wd _ _ _ v hv
    exact Nat.lt_of_lt_of_le this (Nat.pow_le_pow_right (by omega) h)
  · intro v hv; cases hv
theorem le_hiN {xs : List Nat} : ∀ x ∈ xs, x ≤ hiN xs := by
  have key : ∀ (r : List Nat) (x : Nat), x ≤ r.foldl max x ∧ ∀ y ∈ r, y ≤ r.foldl max x := by
    intro r
    induction r with
    | nil => intro x; exact ⟨Nat.le_refl _, fun y hy => by cases hy⟩
    | cons z r ih =>
      intro x
      obtain ⟨h1, h2⟩ := ih (max x z)
      refine ⟨by rw [List.foldl_cons]; omega, fun y hy => ?_⟩
      rw [List.foldl_cons]
      rcases List.mem_cons.1 hy with rfl | hy
      · omega
      · exact h2 y hy
  cases xs with
  | nil => intro x hx; cases hx
  | cons z r =>
    intro x hx
    rcases List.mem_cons.1 hx with rfl | hx
    · exact (key r x).1
    · exact (key r z).2 x hx
def nn (xs : List Ci) : List Ci := xs.filter fun x => !x.nul
theorem nn_snoc (xs : List Ci) (x : Ci) : nn (xs ++ [x]) = nn xs ++ (if x.nul then [] else [x]) := by
  unfold nn
  rw [List.filter_append]
  cases h : x.nul <;> simp [h]
theorem nn_le (xs : List Ci) : (nn xs).length ≤ xs.length := List.length_filter_le _ _
theorem nn_take {xs : List Ci} {j : Nat} {x : Ci} (h : xs[j]? = some x) : nn (xs.take (j + 1)) = nn (xs.take j) ++ (if x.nul then [] else [x]) := by
  rw [List.take_add_one, h]; exact nn_snoc _ _
theorem nn_mem {xs : List Ci} {x : Ci} (h : x ∈ nn xs) : x ∈ xs := (List.mem_filter.1 h).1
set_option maxHeartbeats 2000000 in
theorem withoutNulls_any (A : Option Addr) (n c : Nat) (xs : List Ci) (w : World) (hx : RdX w A n xs) (hn : n ≤ 4398046511104) :
    Calls Tryz.prog 108 #[.slice A n c] w fun e w' => ∃ A' c', e = .returned (.slice A' (nn xs).length c') ∧ OwnX w' w.heap.size A' c' (nn xs) ∧ Ext w w' := by
  have Hx := Lib.hid hx
  have Hl := Lib.hid hx.1
  clear hx
  go_enter Tryz.func108, Tryz.ntmps108
  go_wp2_with fail
  go_loopw [3, 8] (fun y i wr => ∃ (j k : Nat) (A' : Option Addr) (c' : Nat), j ≤ n ∧ k ≤ j ∧ i = .int .i64 (j : Int) ∧ y = .slice A' k c' ∧ Hid ((nn (xs.take j)).length = k) ∧ OwnX wr w.heap.size A' c' (nn (xs.take j)) ∧ Ext w wr ∧ w.heap.size ≤ wr.heap.size) (fun _ i _ => n - (intOf i).toNat)
  case atStart => exact ⟨0, 0, none, 0, Nat.zero_le _, Nat.le_refl _, rfl, rfl, Lib.hid rfl, OwnX.nil _ _, Ext.refl _, Nat.le_refl _⟩
  case round =>
    obtain ⟨j, k, A', c', hj, hkj, rfl, rfl, HK, hO, hE, hz⟩ := hrel
    by_cases hlt : j < n
    · obtain ⟨b, o, x, rfl, hb, hxj, hc0, hc1, hc2, hin⟩ := (Hx.out.ext hE).at_ hlt
      have Ht := Lib.hid (nn_take hxj)
      have HO := Lib.hid hO
      have hg1 := heap_alloc_new wr (.cells #[.bool x.nul, .int .i64 x.num, .slice x.A x.txt.length x.c] 61)
      clear hO hxj hin
      obtain ⟨nu, num, xA, xc, xt⟩ := x
      simp only at hc0 hc1 hc2 Ht hg1
      cases nu with
      | true =>
        have hcb : (wr.alloc (.cells #[.bool true, .int .i64 num, .slice xA xt.length xc] 61)).cell? ⟨wr.heap.size, 0, none⟩ = some (.bool true) := cell_of_row _ wr.heap.size 0 _ _ (0, 0) hg1
        go_wp2_with fail
        go_roundw
        case rel => exact ⟨j + 1, k, A', c', hlt, by omega, by go_num, rfl, Lib.hid (by rw [Ht.out]; simpa using HK.out), by rw [Ht.out]; simpa using HO.out.ext ((Ext.refl _).alloc _), hE.alloc _, by simp; omega⟩
        case measure => simp [intOf]; omega
      | false =>
        have hcb : (wr.alloc (.cells #[.bool false, .int .i64 num, .slice xA xt.length xc] 61)).cell? ⟨wr.heap.size, 0, none⟩ = some (.bool false) := cell_of_row _ wr.heap.size 0 _ _ (0, 0) hg1
        go_wp2_with (at_builtin; refine wpList_pushX (w0 := w) (base := w.heap.size) ⟨false, num, xA, xc, xt⟩ rfl _ _ rfl (HO.out.ext (((Ext.refl _).alloc _).alloc _)) k HK.out rfl rfl ?_ (by omega) ((hE.alloc _).alloc _) (by simp; omega) ?_; (focus (exact heap_at (by simp))); intro A3 c3 w3 hO3 _ hE3 hz3)
        go_roundw
        case rel => exact ⟨j + 1, k + 1, A3, c3, hlt, by omega, by go_num, rfl, Lib.hid (by rw [Ht.out, List.length_append, HK.out]; rfl), by rw [Ht.out]; exact hO3, hE3, hz3⟩
        case measure => simp [intOf]; omega
    · obtain rfl : j = n := by omega
      rw [List.take_of_length_le (Nat.le_of_eq Hl.out)] at hO
      have Hk2 : Hid ((nn xs).length = k) := Lib.hid (by have := HK.out; rwa [List.take_of_length_le (Nat.le_of_eq Hl.out)] at this)
      go_wp2
      go_ret
      exact ⟨A', c', by rw [Hk2.out]; rfl, hO, hE⟩
theorem heap_cell {w : World} {o : Obj} (x : Ci) (ho : o = .cells #[.bool x.nul, .int .i64 x.num, .slice x.A x.txt.length x.c] 61) :
    (w.alloc o).cell? ⟨w.heap.size, 0, none⟩ = some (.bool x.nul) ∧ (w.alloc o).cell? ⟨w.heap.size, 1, none⟩ = some (.int .i64 x.num) ∧ (w.alloc o).cell? ⟨w.heap.size, 2, none⟩ = some (.slice x.A x.txt.length x.c) := by
  subst ho
  have h := heap_alloc_new w (.cells #[.bool x.nul, .int .i64 x.num, .slice x.A x.txt.length x.c] 61)
  exact ⟨cell_of_row _ w.heap.size 0 _ _ (0, 0) h, cell_of_row _ w.heap.size 1 _ _ (0, 0) h, cell_of_row _ w.heap.size 2 _ _ (0, 0) h⟩
set_option maxHeartbeats 2000000 in
theorem toNumbers_any (A : Option Addr) (n c : Nat) (xs : List Ci) (w : World) (hx : RdX w A n xs) (hn : n ≤ 4398046511104) :
    Calls Tryz.prog 143 #[.slice A n c] w fun e w' => ∃ A' c', e = .returned (.slice A' n c') ∧ OwnG shZ 2 w' w.heap.size A' c' (xs.map Ci.num) ∧ Ext w w' := by
  have Hx := Lib.hid hx
  have Hl := Lib.hid hx.1
  have Hml := Lib.hid (show (xs.map Ci.num).length = n by rw [List.length_map]; exact hx.1)
  clear hx
  go_enter Tryz.func143, Tryz.ntmps143
  go_wp2_with (first | (at_make; refine wpList_mkZ 2 rfl _ _ 115 rfl 8 Tryz.underlying115 Tryz.infoI64 _ _ n rfl rfl rfl rfl (by omega) (by omega) ?_; intro w7 hown7 he7) | fail)
  have hz7 := he7.size
  have hb7 := (hown7.block _ rfl).2
  go_loopw [11] (fun i wr => ∃ j : Nat, j ≤ n ∧ i = .int .i64 (j : Int) ∧ OwnG shZ 2 wr w.heap.size (some ⟨w.heap.size, 0, none⟩) n ((xs.map Ci.num).take j ++ List.replicate (n - j) 0) ∧ Ext w wr ∧ w.heap.size < wr.heap.size) (fun i _ => n - (intOf i).toNat)
  case atStart => exact ⟨0, Nat.zero_le _, rfl, by simpa using hown7, he7, hb7⟩
  case round =>
    clear hown7 he7
    obtain ⟨j, hj, rfl, hO, hE, hsz⟩ := hrel
    by_cases hlt : j < n
    · obtain ⟨b, o, x, rfl, hb, hxj, hc0, hc1, hc2, hin⟩ := (Hx.out.ext hE).at_ hlt
      have hnum : (xs.map Ci.num).getD j 0 = x.num := by rw [List.getD, List.getElem?_map, hxj]; rfl
      have Hn := Lib.hid (set_nextZ (j := j) Hml.out hlt)
      rw [hnum] at Hn
      have hg := heap_cell (w := wr) x rfl
      have hO2 := hO.ext ((Ext.refl wr).alloc (.cells #[.bool x.nul, .int .i64 x.num, .slice x.A x.txt.length x.c] 61))
      obtain ⟨b', y, e', hb1, hb2, hy, hcell, hfr, hset⟩ := hO2.at_ (j := j) (by rw [List.length_append, List.length_take, List.length_replicate, Hml.out]; omega)
      injection e' with e'
      injection e' with e1
      subst e1
      obtain ⟨hO3, hg3⟩ := hset 0 x.num (.int .i64 x.num) (by decide) rfl
      have hf0 := hfr j
      have ej : j * shZ.sz + 0 = j := by show j * 1 + 0 = j; omega
      rw [ej] at hO3 hg3
      have hold : ∃ v, (wr.alloc (.cells #[.bool x.nul, .int .i64 x.num, .slice x.A x.txt.length x.c] 61)).cell? ⟨w.heap.size, j, none⟩ = some (.int .i64 v) := ⟨y, by have := hcell 0 (.int .i64 y) rfl; rwa [ej] at this⟩
      obtain ⟨v0, hold⟩ := hold
      rw [Hn.out] at hO3
      obtain ⟨_, _, e4, _, _, _, _, _, hset4⟩ := hO.at_ (j := j) (by rw [List.length_append, List.length_take, List.length_replicate, Hml.out]; omega)
      injection e4 with e4
      injection e4 with e4
      subst e4
      obtain ⟨hO5, hg5⟩ := hset4 0 x.num (.int .i64 x.num) (by decide) rfl
      rw [ej] at hO5 hg5
      rw [Hn.out] at hO5
      have HO3 := Lib.hid hO5
      have HE3 := Lib.hid (grownBy_ext hE hg5 (fun x e => by have e2 : w.heap.size = x := Option.some.inj e; omega))
      have hs3 := hg5.size
      obtain ⟨nu, num, xA, xc, xt⟩ := x
      simp only at hc0 hc1 hc2 hg HO3 HE3 hold hf0 hs3 ⊢
      obtain ⟨hg0, hg1, hg2⟩ := hg
      clear hO hO2 hO3 hO5 hg5 hg3 hset hset4 hcell hfr hin hxj hnum
      go_wp2_with fail
      go_roundw
      case rel => exact ⟨j + 1, hlt, by go_num, HO3.out.ext ((Ext.refl _).alloc _), HE3.out.alloc _, by simp; omega⟩
      case measure => simp [intOf]; omega
    · obtain rfl : j = n := by omega
      rw [List.take_of_length_le (Nat.le_of_eq Hml.out), Nat.sub_self, List.replicate_zero, List.append_nil] at hO
      go_wp2
      go_ret
      exact ⟨_, _, rfl, hO, hE⟩
end Go.Proofs.YthibbgmicmfkfaaGreat
namespace Go.Proofs
open Go.Shelf
def Tryz.keys205_ren : Go.Shelf.Ren := ⟨fun | 7 => 205 | 10 => 216 | n => n, fun | 23 => 222 | 26 => 9 | 3 => 3 | 28 => 226 | 0 => 0 | 27 => 225 | 33 => 241 | 4 => 4 | n => n, fun | n => n⟩
theorem Tryz.keys205 : Go.Proofs.SlLaysZ.n7 Tryz.prog Tryz.keys205_ren := {
  mixed := by kernel_rfl
  f7 := ⟨Tryz.f205.name, by decide, Tryz.func205.trans (congrArg some (by kernel_rfl))⟩
  f10 := ⟨Tryz.f216.name, by decide, Tryz.func216.trans (congrArg some (by kernel_rfl))⟩
  t0 := Tryz.underlying0
  a0 := Tryz.isAgg0
  z0 := Tryz.sizeOf0
  v0 := Tryz.zeroValue0
  t4 := Tryz.underlying4
  a4 := Tryz.isAgg4
  z4 := Tryz.sizeOf4
  v4 := Tryz.zeroValue4
  t23 := Tryz.underlying222
  a23 := Tryz.isAgg222
  z23 := Tryz.sizeOf222
  v23 := Tryz.zeroValue222
  t26 := Tryz.underlying9
  a26 := Tryz.isAgg9
  z26 := Tryz.sizeOf9
  v26 := Tryz.zeroValue9
  t27 := Tryz.underlying225
  a27 := Tryz.isAgg225
  z27 := Tryz.sizeOf225
  v27 := Tryz.zeroValue225
  t28 := Tryz.underlying226
  a28 := Tryz.isAgg226
  z28 := Tryz.sizeOf226
  v28 := Tryz.zeroValue226
  t33 := Tryz.underlying241
  a33 := Tryz.isAgg241
  z33 := Tryz.sizeOf241
  v33 := Tryz.zeroValue241 }
def Tryz.sorted204_ren : Go.Shelf.Ren := ⟨fun | 6 => 204 | 8 => 214 | 9 => 215 | 11 => 221 | 13 => 223 | 12 => 222 | 23 => 233 | 24 => 201 | 14 => 224 | 15 => 225 | 16 => 226 | 17 => 227 | 18 => 228 | 19 => 229 | 20 => 230 | 21 => 231 | 22 => 232 | 25 => 234 | 26 => 235 | 27 => 236 | 28 => 237 | 29 => 238 | 30 => 239 | 31 => 240 | n => n, fun | 26 => 9 | 28 => 226 | 24 => 223 | 0 => 0 | 3 => 3 | 37 => 129 | 48 => 57 | 50 => 69 | 4 => 4 | 40 => 250 | 39 => 249 | 45 => 255 | 5 => 5 | 9 => 9 | 51 => 258 | 55 => 262 | 57 => 264 | 58 => 265 | 33 => 241 | n => n, fun | n => n⟩
theorem Tryz.sorted204 : Go.Proofs.SlLaysZ.n6 Tryz.prog Tryz.sorted204_ren := {
  mixed := by kernel_rfl
  f6 := ⟨Tryz.f204.name, by decide, Tryz.func204.trans (congrArg some (by kernel_rfl))⟩
  f8 := ⟨Tryz.f214.name, by decide, Tryz.func214.trans (congrArg some (by kernel_rfl))⟩
  f11 := ⟨Tryz.f221.name, by decide, Tryz.func221.trans (congrArg some (by kernel_rfl))⟩
  t0 := Tryz.underlying0
  a0 := Tryz.isAgg0
  z0 := Tryz.sizeOf0
  v0 := Tryz.zeroValue0
  t24 := Tryz.underlying223
  a24 := Tryz.isAgg223
  z24 := Tryz.sizeOf223
  v24 := Tryz.zeroValue223
  t26 := Tryz.underlying9
  a26 := Tryz.isAgg9
  z26 := Tryz.sizeOf9
  v26 := Tryz.zeroValue9
  t28 := Tryz.underlying226
  a28 := Tryz.isAgg226
  z28 := Tryz.sizeOf226
  v28 := Tryz.zeroValue226
  i26 := by kernel_rfl }
def Tryz.sort215_ren : Go.Shelf.Ren := ⟨fun | 6 => 215 | 8 => 223 | 9 => 222 | 19 => 233 | 20 => 201 | 21 => 224 | 22 => 225 | 23 => 226 | 24 => 227 | 25 => 228 | 26 => 229 | 27 => 230 | 28 => 231 | 29 => 232 | 36 => 234 | 31 => 235 | 32 => 236 | 37 => 237 | 38 => 238 | 39 => 239 | 41 => 240 | n => n, fun | 27 => 223 | 29 => 9 | 3 => 3 | 32 => 129 | 26 => 223 | 0 => 0 | 44 => 57 | 46 => 69 | 4 => 4 | 36 => 250 | 35 => 249 | 41 => 255 | 5 => 5 | 9 => 9 | 53 => 258 | 57 => 262 | 63 => 264 | 64 => 265 | n => n, fun | n => n⟩
theorem Tryz.sort215 : Go.Proofs.SlLaysM.n6 Tryz.prog Tryz.sort215_ren := {
  mixed := by kernel_rfl
  f6 := ⟨Tryz.f215.name, by decide, Tryz.func215.trans (congrArg some (by kernel_rfl))⟩
  f8 := Tryz.func223.trans (congrArg some (by kernel_rfl))
  f9 := ⟨Tryz.f222.name, by decide, Tryz.func222.trans (congrArg some (by kernel_rfl))⟩
  f19 := Tryz.func233.trans (congrArg some (by kernel_rfl))
  f20 := Tryz.func201.trans (congrArg some (by kernel_rfl))
  f21 := ⟨Tryz.f224.name, by decide, Tryz.func224.trans (congrArg some (by kernel_rfl))⟩
  f22 := ⟨Tryz.f225.name, by decide, Tryz.func225.trans (congrArg some (by kernel_rfl))⟩
  f23 := ⟨Tryz.f226.name, by decide, Tryz.func226.trans (congrArg some (by kernel_rfl))⟩
  f24 := ⟨Tryz.f227.name, by decide, Tryz.func227.trans (congrArg some (by kernel_rfl))⟩
  f25 := ⟨Tryz.f228.name, by decide, Tryz.func228.trans (congrArg some (by kernel_rfl))⟩
  f26 := ⟨Tryz.f229.name, by decide, Tryz.func229.trans (congrArg some (by kernel_rfl))⟩
  f27 := ⟨Tryz.f230.name, by decide, Tryz.func230.trans (congrArg some (by kernel_rfl))⟩
  f28 := ⟨Tryz.f231.name, by decide, Tryz.func231.trans (congrArg some (by kernel_rfl))⟩
  f29 := ⟨Tryz.f232.name, by decide, Tryz.func232.trans (congrArg some (by kernel_rfl))⟩
  f31 := Tryz.func235.trans (congrArg some (by kernel_rfl))
  f32 := Tryz.func236.trans (congrArg some (by kernel_rfl))
  f36 := ⟨Tryz.f234.name, by decide, Tryz.func234.trans (congrArg some (by kernel_rfl))⟩
  f37 := ⟨Tryz.f237.name, by decide, Tryz.func237.trans (congrArg some (by kernel_rfl))⟩
  f38 := ⟨Tryz.f238.name, by decide, Tryz.func238.trans (congrArg some (by kernel_rfl))⟩
  f39 := ⟨Tryz.f239.name, by decide, Tryz.func239.trans (congrArg some (by kernel_rfl))⟩
  f41 := ⟨Tryz.f240.name, by decide, Tryz.func240.trans (congrArg some (by kernel_rfl))⟩
  t0 := Tryz.underlying0
  a0 := Tryz.isAgg0
  z0 := Tryz.sizeOf0
  v0 := Tryz.zeroValue0
  t3 := Tryz.underlying3
  a3 := Tryz.isAgg3
  z3 := Tryz.sizeOf3
  v3 := Tryz.zeroValue3
  t4 := Tryz.underlying4
  a4 := Tryz.isAgg4
  z4 := Tryz.sizeOf4
  v4 := Tryz.zeroValue4
  t5 := Tryz.underlying5
  a5 := Tryz.isAgg5
  z5 := Tryz.sizeOf5
  v5 := Tryz.zeroValue5
  t9 := Tryz.underlying9
  a9 := Tryz.isAgg9
  z9 := Tryz.sizeOf9
  v9 := Tryz.zeroValue9
  t26 := Tryz.underlying223
  a26 := Tryz.isAgg223
  z26 := Tryz.sizeOf223
  v26 := Tryz.zeroValue223
  t27 := Tryz.underlying223
  a27 := Tryz.isAgg223
  z27 := Tryz.sizeOf223
  v27 := Tryz.zeroValue223
  t29 := Tryz.underlying9
  a29 := Tryz.isAgg9
  z29 := Tryz.sizeOf9
  v29 := Tryz.zeroValue9
  t32 := Tryz.underlying129
  a32 := Tryz.isAgg129
  z32 := Tryz.sizeOf129
  v32 := Tryz.zeroValue129
  t35 := Tryz.underlying249
  a35 := Tryz.isAgg249
  z35 := Tryz.sizeOf249
  v35 := Tryz.zeroValue249
  t36 := Tryz.underlying250
  a36 := Tryz.isAgg250
  z36 := Tryz.sizeOf250
  v36 := Tryz.zeroValue250
  t41 := Tryz.underlying255
  a41 := Tryz.isAgg255
  z41 := Tryz.sizeOf255
  v41 := Tryz.zeroValue255
  t44 := Tryz.underlying57
  a44 := Tryz.isAgg57
  z44 := Tryz.sizeOf57
  v44 := Tryz.zeroValue57
  t46 := Tryz.underlying69
  a46 := Tryz.isAgg69
  z46 := Tryz.sizeOf69
  v46 := Tryz.zeroValue69
  t53 := Tryz.underlying258
  a53 := Tryz.isAgg258
  z53 := Tryz.sizeOf258
  v53 := Tryz.zeroValue258
  t57 := Tryz.underlying262
  a57 := Tryz.isAgg262
  z57 := Tryz.sizeOf262
  v57 := Tryz.zeroValue262
  t63 := Tryz.underlying264
  a63 := Tryz.isAgg264
  z63 := Tryz.sizeOf264
  v63 := Tryz.zeroValue264
  t64 := Tryz.underlying265
  a64 := Tryz.isAgg265
  z64 := Tryz.sizeOf265
  v64 := Tryz.zeroValue265 }
end Go.Proofs
namespace Go.Proofs.YthibbgmicmfkfaaGreat
theorem ordT_self : ∀ a : List Nat, ordT a a = 0
  | [] => rfl
  | x :: r => by rw [ordT, if_neg (Nat.lt_irrefl _), if_neg (Nat.lt_irrefl _)]; exact ordT_self r
theorem ordT_zero : ∀ {a b : List Nat}, ordT a b = 0 → a = b
  | [], [], _ => rfl
  | [], _ :: _, h => by rw [ordT] at h; exact absurd h (by decide)
  | _ :: _, [], h => by rw [ordT] at h; exact absurd h (by decide)
  | x :: r, y :: s, h => by
    rw [ordT] at h
    split at h
    · exact absurd h (by decide)
    · split at h
      · exact absurd h (by decide)
      · rw [ordT_zero h, show x = y by omega]
theorem ordT_swap : ∀ a b : List Nat, ordT b a = - ordT a b
  | [], [] => rfl
  | [], _ :: _ => rfl
  | _ :: _, [] => rfl
  | x :: r, y :: s => by
    rw [ordT, ordT]
    rcases Nat.lt_trichotomy x y with h | h | h
    · rw [if_neg (by omega), if_pos h, if_pos h]; rfl
    · subst h; rw [if_neg (Nat.lt_irrefl _), if_neg (Nat.lt_irrefl _), if_neg (Nat.lt_irrefl _), if_neg (Nat.lt_irrefl _)]; exact ordT_swap r s
    · rw [if_pos h, if_neg (by omega), if_pos h]
theorem ordT_trans : ∀ {a b c : List Nat}, ordT a b < 0 → ordT b c < 0 → ordT a c < 0
  | [], [], _, h, _ => by rw [ordT] at h; exact absurd h (by decide)
  | [], _ :: _, [], _, h => by rw [ordT] at h; exact absurd h (by decide)
  | [], _ :: _, _ :: _, _, _ => by rw [ordT]; decide
  | _ :: _, [], _, h, _ => by rw [ordT] at h; exact absurd h (by decide)
  | _ :: _, _ :: _, [], _, h => by rw [ordT] at h; exact absurd h (by decide)
  | x :: r, y :: s, z :: t, h1, h2 => by
    rw [ordT] at h1 h2 ⊢
    rcases Nat.lt_trichotomy x y with h | h | h
    · rcases Nat.lt_trichotomy y z with k | k | k
      · rw [if_pos (by omega)]; decide
      · rw [if_pos (by omega)]; decide
      · rw [if_neg (by omega), if_pos k] at h2; exact absurd h2 (by decide)
    · rw [if_neg (by omega), if_neg (by omega)] at h1
      rcases Nat.lt_trichotomy y z with k | k | k
      · rw [if_pos (by omega)]; decide
      · rw [if_neg (by omega), if_neg (by omega)] at h2
        rw [if_neg (by omega), if_neg (by omega)]
        exact ordT_trans h1 h2
      · rw [if_neg (by omega), if_pos k] at h2; exact absurd h2 (by decide)
    · rw [if_neg (by omega), if_pos h] at h1; exact absurd h1 (by decide)
def Asc (L : List (List Nat)) : Prop := L.Pairwise fun a b => ordT a b < 0
theorem skN_le (t : List Nat) : ∀ L : List (List Nat), skN t L ≤ L.length
  | [] => Nat.le_refl _
  | s :: r => by
    have := skN_le t r
    unfold skN
    split <;> simp <;> omega
theorem skN_lt {t : List Nat} : ∀ {L : List (List Nat)} {i : Nat} {x : List Nat}, i < skN t L → L[i]? = some x → ordT x t < 0
  | [], i, x, h, _ => by simp [skN] at h
  | s :: r, i, x, h, hx => by
    unfold skN at h
    split at h
    · rename_i hs
      cases i with
      | zero => simp at hx; subst hx; exact hs
      | succ i => exact skN_lt (L := r) (i := i) (by omega) (by simpa using hx)
    · omega
theorem skN_ge {t : List Nat} : ∀ {L : List (List Nat)} {i : Nat} {x : List Nat}, Asc L → skN t L ≤ i → L[i]? = some x → 0 ≤ ordT x t
  | [], i, x, _, _, hx => by simp at hx
  | s :: r, i, x, ha, h, hx => by
    obtain ⟨h1, h2⟩ := List.pairwise_cons.1 ha
    unfold skN at h
    split at h
    · cases i with
      | zero => omega
      | succ i => exact skN_ge (L := r) (i := i) h2 (by omega) (by simpa using hx)
    · rename_i hs
      cases i with
      | zero => simp at hx; subst hx; omega
      | succ i =>
        have hm : x ∈ r := List.mem_of_getElem? (by simpa using hx)
        have h3 := h1 x hm
        rcases Int.lt_or_le (ordT x t) 0 with h4 | h4
        · exact absurd (ordT_trans h3 h4) (by omega)
        · exact h4
theorem skN_at {t : List Nat} {L : List (List Nat)} (ha : Asc L) (ht : t ∈ L) : L[skN t L]? = some t := by
  obtain ⟨i, hi⟩ := List.getElem?_of_mem ht
  have hil : i < L.length := (List.getElem?_eq_some_iff.1 hi).1
  rcases Nat.lt_trichotomy i (skN t L) with h | h | h
  · have := skN_lt h hi
    rw [ordT_self] at this
    omega
  · rw [← h]; exact hi
  · obtain ⟨x, hx⟩ : ∃ x, L[skN t L]? = some x := ⟨_, List.getElem?_eq_getElem (by omega)⟩
    have h1 := skN_ge ha (Nat.le_refl _) hx
    have h2 : ordT x t < 0 := by
      obtain ⟨q1, rfl⟩ := List.getElem?_eq_some_iff.1 hx
      obtain ⟨q2, rfl⟩ := List.getElem?_eq_some_iff.1 hi
      exact List.pairwise_iff_getElem.1 ha _ _ q1 q2 h
    omega
theorem skN_notMem {t : List Nat} {L : List (List Nat)} (h : L[skN t L]? ≠ some t) (ha : Asc L) : ¬ t ∈ L := fun ht => h (skN_at ha ht)
def insL (L : List (List Nat)) (t : List Nat) : List (List Nat) := if L[skN t L]? = some t then L else L.take (skN t L) ++ t :: L.drop (skN t L)
theorem insL_yes {L : List (List Nat)} {t : List Nat} (h : L[skN t L]? = some t) : insL L t = L := if_pos h
theorem insL_no {L : List (List Nat)} {t : List Nat} (h : ¬ L[skN t L]? = some t) : insL L t = L.take (skN t L) ++ t :: L.drop (skN t L) := if_neg h
theorem insL_mem {L : List (List Nat)} {t x : List Nat} : x ∈ insL L t ↔ x ∈ L ∨ x = t := by
  by_cases h : L[skN t L]? = some t
  · rw [insL_yes h]
    constructor
    · exact .inl
    · rintro (h1 | rfl)
      · exact h1
      · exact List.mem_of_getElem? h
  · rw [insL_no h]
    have e : x ∈ L ↔ x ∈ L.take (skN t L) ∨ x ∈ L.drop (skN t L) := by
      rw [← List.mem_append, List.take_append_drop]
    simp only [List.mem_append, List.mem_cons, e]
    constructor
    · rintro (h1 | h1 | h1)
      · exact .inl (.inl h1)
      · exact .inr h1
      · exact .inl (.inr h1)
    · rintro ((h1 | h1) | h1)
      · exact .inl h1
      · exact .inr (.inr h1)
      · exact .inr (.inl h1)
theorem insL_asc {L : List (List Nat)} {t : List Nat} (ha : Asc L) : Asc (insL L t) := by
  by_cases h : L[skN t L]? = some t
  · rw [insL_yes h]; exact ha
  · rw [insL_no h]
    have hp : Asc (L.take (skN t L) ++ L.drop (skN t L)) := by rw [List.take_append_drop]; exact ha
    obtain ⟨h1, h2, h3⟩ := List.pairwise_append.1 hp
    have hlt : ∀ x ∈ L.take (skN t L), ordT x t < 0 := by
      intro x hx
      obtain ⟨i, hi⟩ := List.getElem?_of_mem hx
      rw [List.getElem?_take] at hi
      split at hi
      · rename_i hi2; exact skN_lt hi2 hi
      · cases hi
    have hgt : ∀ x ∈ L.drop (skN t L), ordT t x < 0 := by
      intro x hx
      obtain ⟨i, hi⟩ := List.getElem?_of_mem hx
      rw [List.getElem?_drop] at hi
      have h4 := skN_ge ha (Nat.le_add_right _ _) hi
      have h5 : ordT x t ≠ 0 := by
        intro e
        obtain rfl := ordT_zero e
        exact skN_notMem h ha (List.mem_of_getElem? hi)
      rw [ordT_swap x t]
      omega
    refine List.pairwise_append.2 ⟨h1, List.pairwise_cons.2 ⟨hgt, h2⟩, ?_⟩
    intro x hx y hy
    rcases List.mem_cons.1 hy with rfl | hy
    · exact hlt x hx
    · exact h3 x hx y hy
def dents (ss : List (List Nat)) : List (List Nat) := ss.foldl insL []
theorem dents_snoc (ss : List (List Nat)) (t : List Nat) : dents (ss ++ [t]) = insL (dents ss) t := by simp [dents, List.foldl_append]
theorem dents_step {ss : List (List Nat)} {j : Nat} {t : List Nat} (h : ss[j]? = some t) : dents (ss.take (j + 1)) = insL (dents (ss.take j)) t := by
  obtain ⟨h1, rfl⟩ := List.getElem?_eq_some_iff.1 h
  rw [List.take_succ_eq_append_getElem h1, dents_snoc]
theorem foldl_ins : ∀ (ss L : List (List Nat)), Asc L → Asc (ss.foldl insL L) ∧ ∀ x, x ∈ ss.foldl insL L ↔ x ∈ L ∨ x ∈ ss
  | [], L, h => ⟨h, fun x => by simp⟩
  | t :: r, L, h => by
    obtain ⟨h1, h2⟩ := foldl_ins r (insL L t) (insL_asc h)
    refine ⟨h1, fun x => ?_⟩
    rw [List.foldl_cons, h2, insL_mem, List.mem_cons]
    constructor
    · rintro ((h | h) | h)
      · exact .inl h
      · exact .inr (.inl h)
      · exact .inr (.inr h)
    · rintro (h | h | h)
      · exact .inl (.inl h)
      · exact .inl (.inr h)
      · exact .inr h
theorem dents_asc (ss : List (List Nat)) : Asc (dents ss) := (foldl_ins ss [] List.Pairwise.nil).1
theorem dents_mem {ss : List (List Nat)} {x : List Nat} : x ∈ dents ss ↔ x ∈ ss := by rw [dents, (foldl_ins ss [] List.Pairwise.nil).2 x]; simp
theorem insL_len (L : List (List Nat)) (t : List Nat) : (insL L t).length ≤ L.length + 1 := by
  by_cases h : L[skN t L]? = some t
  · rw [insL_yes h]; omega
  · rw [insL_no h]; simp; omega
theorem dents_len : ∀ (n : Nat) (ss : List (List Nat)), ss.length = n → (dents ss).length ≤ n
  | 0, ss, h => by rw [List.eq_nil_of_length_eq_zero h]; simp [dents]
  | n + 1, ss, h => by
    have hl : n < ss.length := by omega
    have h1 := dents_len n (ss.take n) (by simp; omega)
    have h2 := insL_len (dents (ss.take n)) ss[n]
    rw [← dents_step (List.getElem?_eq_getElem hl), List.take_of_length_le (by omega)] at h2
    omega
theorem Asc.ext : ∀ {L M : List (List Nat)}, Asc L → Asc M → (∀ x, x ∈ L ↔ x ∈ M) → L = M
  | [], [], _, _, _ => rfl
  | [], y :: s, _, _, h => absurd ((h y).2 (by simp)) (by simp)
  | x :: r, [], _, _, h => absurd ((h x).1 (by simp)) (by simp)
  | x :: r, y :: s, h1, h2, h => by
    obtain ⟨a1, a2⟩ := List.pairwise_cons.1 h1
    obtain ⟨b1, b2⟩ := List.pairwise_cons.1 h2
    have hself : ∀ z : List Nat, ¬ ordT z z < 0 := fun z => by rw [ordT_self]; omega
    have e : x = y := by
      rcases List.mem_cons.1 ((h x).1 (by simp)) with e | hx
      · exact e
      · rcases List.mem_cons.1 ((h y).2 (by simp)) with e | hy
        · exact e.symm
        · exact absurd (ordT_trans (a1 y hy) (b1 x hx)) (hself x)
    subst e
    congr 1
    refine Asc.ext a2 b2 fun z => ⟨fun hz => ?_, fun hz => ?_⟩
    · rcases List.mem_cons.1 ((h z).1 (List.mem_cons_of_mem _ hz)) with e | hz2
      · subst e; exact absurd (a1 z hz) (hself z)
      · exact hz2
    · rcases List.mem_cons.1 ((h z).2 (List.mem_cons_of_mem _ hz)) with e | hz2
      · subst e; exact absurd (b1 z hz) (hself z)
      · exact hz2
theorem anyLong_snoc {ss : List (List Nat)} {t : List Nat} (h : anyLong ss = false) (ht : t.length ≤ 200) : anyLong (ss ++ [t]) = false := by
  have h2 : anyLong [t] = false := by simp [anyLong]; omega
  unfold anyLong at h h2 ⊢
  rw [List.any_append, h, h2]; rfl
theorem dents_short {ss : List (List Nat)} (h : anyLong ss = false) : ∀ x ∈ dents ss, x.length ≤ 200 := fun x hx => anyLong_no h x (dents_mem.1 hx)
def idxR (ss : List (List Nat)) : List (List Nat) × List Nat × Int := if 4096 < ss.length ∨ anyLong ss = true then ([], [], 4) else (dents ss, ss.map (fun s => skN s (dents ss)), 0)
theorem idxR_bad {ss : List (List Nat)} (h : 4096 < ss.length ∨ anyLong ss = true) : idxR ss = ([], [], 4) := if_pos h
theorem idxR_good {ss : List (List Nat)} (h : ss.length ≤ 4096) (h2 : anyLong ss = false) : idxR ss = (dents ss, ss.map (fun s => skN s (dents ss)), 0) := if_neg (fun q => by
  rcases q with q | q
  · omega
  · rw [h2] at q; cases q)
open Go.RowKit
set_option maxRecDepth 100000
set_option maxHeartbeats 800000 in
theorem order_any (A A2 : Option Addr) (n c n2 c2 : Nat) (xs ys : List Nat) (w : World) (hx : Rd .u8 w A n xs) (hy : Rd .u8 w A2 n2 ys) (hn : n ≤ 140737488355328) (hn2 : n2 ≤ 140737488355328) :
    Calls Tryz.prog 32 #[.slice A n c, .slice A2 n2 c2] w fun e w' => e = .returned (.int .i64 (ordT xs ys)) ∧ ∃ q, w' = w.drewN q := by
  have hl := hx.len
  have hl2 := hy.len
  obtain ⟨R, hR⟩ : ∃ R, R = ordT xs ys := ⟨_, rfl⟩
  rw [← hR]
  have HR := Lib.hid hR
  have Hl := Lib.hid hl
  have Hl2 := Lib.hid hl2
  clear hR hl hl2
  go_enter Tryz.func32, Tryz.ntmps32
  go_wp2
  go_loopw [5] (fun i wr => ∃ j q : Nat, j ≤ n ∧ j ≤ n2 ∧ i = .int .i64 j ∧ wr = w.drewN q ∧ Hid (R = ordT (xs.drop j) (ys.drop j))) (fun i _ => n - (intOf i).toNat)
  case atStart => exact ⟨0, 0, Nat.zero_le _, Nat.zero_le _, rfl, rfl, HR.out⟩
  case round =>
    obtain ⟨j, q, hj, hj2, rfl, hw, Hj⟩ := hrel
    subst hw
    by_cases hlt : j < n ∧ j < n2
    · obtain ⟨hlt1, hlt2⟩ := hlt
      obtain ⟨b, o, rfl, hbl, hc⟩ := hx.at_ hlt1
      obtain ⟨b', o', rfl, hbl', hc'⟩ := hy.at_ hlt2
      have hd1 := drop_cons (bs := xs) (k := j) (by have := Hl.out; omega)
      have hd2 := drop_cons (bs := ys) (k := j) (by have := Hl2.out; omega)
      obtain ⟨u, hu⟩ : ∃ u, u = xs.getD j 0 := ⟨_, rfl⟩
      obtain ⟨v, hv⟩ : ∃ v, v = ys.getD j 0 := ⟨_, rfl⟩
      rw [← hu] at hc hd1
      rw [← hv] at hc' hd2
      have Hd1 := Lib.hid hd1
      have Hd2 := Lib.hid hd2
      clear hu hv hd1 hd2
      have hji : (j : Int) < (n : Int) := by omega
      have hji2 : (j : Int) < (n2 : Int) := by omega
      by_cases h1 : u < v
      · have HE := Lib.hid (show R = -1 by rw [Hj.out, Hd1.out, Hd2.out, ordT_lt h1])
        have d1 : decide (u < v) = true := decide_eq_true h1
        have d1' : decide ((u : Int) < (v : Int)) = true := decide_eq_true (by omega)
        clear h1
        go_wp2_with fail
        go_quiet (fail)
        go_wp2
        go_ret
        exact ⟨by rw [HE.out]; rfl, _, World.drewN_drewN ..⟩
      · by_cases h2 : v < u
        · have HE := Lib.hid (show R = 1 by rw [Hj.out, Hd1.out, Hd2.out, ordT_gt h2])
          have d1 : decide (u < v) = false := decide_eq_false h1
          have d1' : decide ((u : Int) < (v : Int)) = false := decide_eq_false (by omega)
          have d2 : decide (v < u) = true := decide_eq_true h2
          have d2' : decide ((v : Int) < (u : Int)) = true := decide_eq_true (by omega)
          clear h1 h2
          go_wp2_with fail
          go_quiet (fail)
          go_wp2_with fail
          go_quiet (fail)
          go_wp2
          go_ret
          exact ⟨by rw [HE.out]; rfl, _, drew3 ..⟩
        · have HN := Lib.hid (show R = ordT (xs.drop (j + 1)) (ys.drop (j + 1)) by rw [Hj.out, Hd1.out, Hd2.out, ordT_eq (by omega)])
          have d1 : decide (u < v) = false := decide_eq_false h1
          have d1' : decide ((u : Int) < (v : Int)) = false := decide_eq_false (by omega)
          have d2 : decide (v < u) = false := decide_eq_false h2
          have d2' : decide ((v : Int) < (u : Int)) = false := decide_eq_false (by omega)
          clear h1 h2
          go_wp2_with fail
          go_quiet (fail)
          go_wp2_with fail
          go_quiet (fail)
          go_wp2
          go_roundw
          case rel => exact ⟨j + 1, _, by omega, by omega, by go_num, rfl, HN.out⟩
          case measure => simp [intOf]; omega
    · have HE := Lib.hid (show R = if n < n2 then -1 else if n2 < n then 1 else 0 by
        rw [Hj.out, ordT_end (by have := Hl.out; have := Hl2.out; omega) (by have := Hl.out; omega) (by have := Hl2.out; omega), Hl.out, Hl2.out])
      have h3 : ¬ (j : Int) < (n : Int) ∨ ¬ (j : Int) < (n2 : Int) := by omega
      clear hlt
      rcases Nat.lt_trichotomy n n2 with h4 | h4 | h4
      · have e3 := HE.out
        rw [if_pos h4] at e3
        have He3 := Lib.hid e3
        obtain rfl : j = n := by omega
        clear HE e3 h3
        go_wp2
        go_ret
        exact ⟨by rw [He3.out]; rfl, _, rfl⟩
      · subst h4
        obtain rfl : j = n := by omega
        have e3 := HE.out
        rw [if_neg (by omega), if_neg (by omega)] at e3
        have He3 := Lib.hid e3
        clear HE e3 h3
        go_wp2
        go_ret
        exact ⟨by rw [He3.out]; rfl, _, rfl⟩
      · have e3 := HE.out
        rw [if_neg (by omega), if_pos h4] at e3
        have He3 := Lib.hid e3
        obtain rfl : j = n2 := by omega
        clear HE e3 h3
        go_wp2
        go_ret
        exact ⟨by rw [He3.out]; rfl, _, rfl⟩
end Go.Proofs.YthibbgmicmfkfaaGreat
