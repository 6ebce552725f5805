import Derived.Test.YthibbgmicmfkfaaGreatGX13
import Derived.Deep.RegionHeld3
namespace Go.Proofs.YthibbgmicmfkfaaGreat
open Go.RowKit
set_option maxRecDepth 100000
def chkV (k : Int) : List Cv → Int
  | [] => 0
  | v :: r => if chk k true v.1 v.2.1 v.2.2 ≠ 0 then chk k true v.1 v.2.1 v.2.2 else chkV k r
def chkBv (k : Int) (vs : List Cv) : Int := if 4096 < vs.length then 4 else chkV k vs
theorem chkA_val (k : Int) : ∀ (xs : List Ci), chkA k xs = chkV k (xs.map Ci.val)
  | [] => rfl
  | x :: r => by
    show (if chk k true x.nul x.num x.txt ≠ 0 then _ else chkA k r) = if chk k true x.nul x.num x.txt ≠ 0 then _ else chkV k (r.map Ci.val)
    rw [chkA_val k r]
    rfl
theorem chkB_val (k : Int) (xs : List Ci) : chkB k xs = chkBv k (xs.map Ci.val) := by
  unfold chkB chkBv
  rw [List.length_map, chkA_val]
theorem getB_in {k : Int} {bs : List Nat} (hu : U8 bs) : ∀ v ∈ (getB k bs).1, VIn v := by
  have h0 : ∀ v ∈ ([] : List Cv), VIn v := fun v hv => by cases hv
  unfold getB
  split
  · exact h0
  · split
    · exact h0
    · split
      · exact h0
      · split
        · exact h0
        · split
          · exact h0
          · split
            · exact h0
            · exact wN_in _ _ (valuesR_in (fun v hv => hu v (List.mem_of_mem_drop hv)))
theorem wN_len : ∀ (us : List Nat) (vs : List Cv), (wN us vs).length ≤ us.length
  | [], _ => Nat.le_refl _
  | u :: r, vs => by
    by_cases q : u = 1
    · rw [wN_null q, List.length_cons, List.length_cons]
      have := wN_len r vs
      omega
    · cases vs with
      | nil => simp [wN, q]
      | cons x s =>
        rw [wN_val q, List.length_cons, List.length_cons]
        have := wN_len r s
        omega
theorem getB_len {k : Int} {bs : List Nat} (hu : U8 bs) : (getB k bs).1.length ≤ 4096 := by
  unfold getB
  split
  · simp
  · split
    · simp
    · split
      · simp
      · rename_i q3
        split
        · simp
        · rename_i q4
          split
          · simp
          · rename_i q5
            split
            · simp
            · dsimp only
              rcases hg : vget bs 1 with ⟨u, nx, e⟩
              rw [hg] at q3 q4 q5
              obtain rfl : e = 0 := by simpa using q3
              obtain ⟨_, v1, v2, _, _⟩ := vget_at hu hg
              have h1 := nullR_ok (bs := bs) (a := nx.toNat) (n := u) (by omega) (by simpa using q5)
              refine Nat.le_trans (wN_len _ _) ?_
              rw [h1.1]
              simp only at q4
              omega
def bdecR (k : Int) (bs : List Nat) : List Cv × Int :=
  if kindK k = false then ([], 1) else if 65000 < bs.length then ([], 4) else if ¬ sld bs then ([], 6)
  else if (getB k (bs.take (bs.length - 4))).2 ≠ 0 then ([], (getB k (bs.take (bs.length - 4))).2)
  else if chkBv k (getB k (bs.take (bs.length - 4))).1 ≠ 0 then ([], chkBv k (getB k (bs.take (bs.length - 4))).1)
  else ((getB k (bs.take (bs.length - 4))).1, 0)
set_option maxHeartbeats 3200000 in
theorem bdecode_any (k : Int) (A : Option Addr) (n c : Nat) (bs : List Nat) (w : World) (hx : Rd .u8 w A n bs) (hu : U8 bs) (hn : n ≤ 140737488351232) (hc : n ≤ c) (hcm : c ≤ 9223372036854775807) :
    Calls Tryz.prog 10 #[.int .i64 k, .slice A n c] w (GcPost (bdecR k bs) w) := by
  have hl := hx.len
  have hR := bdecR.eq_1 k bs
  obtain ⟨R, hRR⟩ : ∃ R, R = bdecR k bs := ⟨_, rfl⟩
  rw [← hRR] at hR ⊢
  rw [hl] at hR
  clear hRR
  have HK := Lib.hid (fun W => isKindB_any k W)
  cases hk : kindK k with
  | false =>
    rw [hk, if_pos rfl] at hR
    rw [hk] at HK
    have HR := Lib.hid hR
    clear hR hx hu hl hk
    go_enter Tryz.func10, Tryz.ntmps10
    go_wp2_with fail
    refine (HK.out _).mono ?_
    rintro e w1 ⟨rfl, he1⟩
    go_wp2_with fail
    go_ret2
    exact GcPost.bad _ HR.out he1
  | true =>
  rw [hk, if_neg (by decide)] at hR
  rw [hk] at HK
  clear hk
  by_cases hbig : 65000 < n
  · rw [if_pos hbig] at hR
    have HR := Lib.hid hR
    have hb1 : decide ((65000 : Int) < (n : Int)) = true := decide_eq_true (by omega)
    have hb2 : (65000 : Int) < (n : Int) := by omega
    clear hR hx hu hl hbig
    go_enter Tryz.func10, Tryz.ntmps10
    go_wp2_with fail
    refine (HK.out _).mono ?_
    rintro e w1 ⟨rfl, he1⟩
    go_wp2_with fail
    go_ret2
    exact GcPost.bad _ HR.out he1
  rw [if_neg hbig] at hR
  have hb1 : ¬ (65000 : Int) < (n : Int) := by omega
  have HS := Lib.hid (fun W (hW : Ext w W) => sealed_any A n c bs W (hx.ext hW) hu (by omega) hc hcm)
  by_cases hs : sld bs
  rotate_left
  · rw [if_pos hs] at hR
    have HR := Lib.hid hR
    rw [decide_eq_false hs] at HS
    clear hR hx hu hl hbig hs
    go_enter Tryz.func10, Tryz.ntmps10
    go_wp2_with fail
    refine (HK.out _).mono ?_
    rintro e w1 ⟨rfl, he1⟩
    go_wp2_with fail
    refine (HS.out _ he1).mono ?_
    rintro e w2 ⟨rfl, he2⟩
    go_wp2_with fail
    go_ret2
    exact GcPost.bad _ HR.out (he1.trans he2)
  rw [if_neg (fun q => q hs)] at hR
  rw [decide_eq_true hs] at HS
  have h4 : 4 ≤ n := by have := hs.1; omega
  have hup := run_upto .i64 A n c (n - 4) (by omega)
  have hn4 : ((n - 4 : Nat) : Int) = (n : Int) - 4 := by omega
  rw [hn4] at hup
  have HG := Lib.hid (fun W (hW : Ext w W) => get12_any k A (n - 4) c (bs.take (n - 4)) W ((hx.ext hW).upto (by omega)) (fun v hv => hu v (List.mem_of_mem_take hv)) (by omega) (by omega) hcm)
  have hvi := getB_in (k := k) (bs := bs.take (n - 4)) (fun v hv => hu v (List.mem_of_mem_take hv))
  have hvl := getB_len (k := k) (bs := bs.take (n - 4)) (fun v hv => hu v (List.mem_of_mem_take hv))
  obtain ⟨⟨vs, ev⟩, hV⟩ : ∃ V, V = getB k (bs.take (n - 4)) := ⟨_, rfl⟩
  unfold GcPost at HG
  rw [← hV] at HG hR hvi hvl
  simp only at HG hR hvi hvl
  have Hvl := Lib.hid hvl
  have HR := Lib.hid hR
  have Hvi := Lib.hid hvi
  clear hV hx hu hl hs hR hvi hvl hn4 hbig
  go_enter Tryz.func10, Tryz.ntmps10
  go_wp2_with fail
  refine (HK.out _).mono ?_
  rintro e w1 ⟨rfl, he1⟩
  go_wp2_with fail
  refine (HS.out _ he1).mono ?_
  rintro e w2 ⟨rfl, he2⟩
  have hE2 := he1.trans he2
  go_wp2_with fail
  refine (HG.out _ hE2).mono ?_
  rintro e w3 ⟨fs, A3, c3, rfl, hv3, ho3, ht3, he3⟩
  have hE3 := hE2.trans he3
  by_cases hev : ev = 0
  · subst hev
    have hR := HR.out
    rw [if_neg (fun q => q rfl)] at hR
    have hfl : fs.length = vs.length := by rw [← hv3, List.length_map]
    obtain ⟨z, hz⟩ : ∃ z, z = vs.length := ⟨_, rfl⟩
    rw [← hz] at hfl ⊢
    have hrx := ans_rdX hv3 hfl Hvi.out ho3 (fun f hf => (ht3.1 f hf).rd)
    have hCh := checkB_any k A3 z c3 fs w3 hrx (by have := Hvl.out; omega)
    rw [chkB_val, hv3] at hCh
    obtain ⟨E, hE⟩ : ∃ E, E = chkBv k vs := ⟨_, rfl⟩
    rw [← hE] at hCh hR
    have HRg := Lib.hid hR
    have Hz := Lib.hid hz
    clear hR hrx hE hz hfl
    go_wp2_with fail
    refine hCh.mono ?_
    rintro e w4 ⟨rfl, he4⟩
    by_cases hq : E = 0
    · have hR := HRg.out
      rw [if_neg (fun q => q hq)] at hR
      have HRk := Lib.hid hR
      subst hq
      clear hR
      go_wp2_with fail
      go_ret2
      rw [HRk.out]
      exact ⟨fs, A3, c3, by rw [← Hz.out]; rfl, hv3, (ho3.mono hE2.size).ext he4, TxtX.ext (TxtX.mono ht3 hE2.size) he4, hE3.trans he4⟩
    · have hR := HRg.out
      rw [if_pos hq] at hR
      have HRk := Lib.hid hR
      have hb3 : (E != 0) = true := by simp [hq]
      clear hR
      go_wp2_with fail
      go_ret2
      exact GcPost.bad _ HRk.out (hE3.trans he4)
  · have hR := HR.out
    rw [if_pos hev] at hR
    have HRb := Lib.hid hR
    have hb3 : (ev != 0) = true := by simp [hev]
    clear hR hev
    go_wp2_with fail
    go_ret2
    exact GcPost.bad _ HRb.out hE3
theorem RdX.lit (w : World) (xs : List Ci) (h : ∀ x ∈ xs, x.In (w.alloc (.cells (xcells xs).toArray 61))) : RdX (w.alloc (.cells (xcells xs).toArray 61)) (some ⟨w.heap.size, 0, none⟩) xs.length xs :=
  ⟨rfl, fun _ => ⟨w.heap.size, 0, rfl, by simp, fun j x hj => by
    refine ⟨?_, ?_, ?_, h x (List.mem_of_getElem? hj)⟩
    · rw [cell_of_row _ w.heap.size _ _ _ (0, 0) (heap_alloc_new w _), Nat.zero_add, List.getElem?_toArray]
      exact xcells_at hj 0 (by omega)
    · rw [cell_of_row _ w.heap.size _ _ _ (0, 0) (heap_alloc_new w _), Nat.zero_add, List.getElem?_toArray]
      exact xcells_at hj 1 (by omega)
    · rw [cell_of_row _ w.heap.size _ _ _ (0, 0) (heap_alloc_new w _), Nat.zero_add, List.getElem?_toArray]
      exact xcells_at hj 2 (by omega)⟩⟩
theorem RdX.at {w : World} {A : Option Addr} {n : Nat} {xs : List Ci} (h : RdX w A n xs) (hn : 0 < n) : ∃ b o, A = some ⟨b, o, none⟩ ∧ b < w.heap.size ∧ ∀ j x, xs[j]? = some x → w.cell? ⟨b, o + j * 3, none⟩ = some (.bool x.nul) ∧ w.cell? ⟨b, o + j * 3 + 1, none⟩ = some (.int .i64 x.num) := by
  obtain ⟨b, o, e, hb, hc⟩ := h.2 hn
  exact ⟨b, o, e, hb, fun j x hj => ⟨(hc j x hj).1, (hc j x hj).2.1⟩⟩
def e7 : Ci := ⟨false, 7, none, 0, []⟩
theorem e7_in (w : World) : e7.In w := ⟨Rd.nil .., (by intro x hx; cases hx), by decide, by decide, by decide⟩
set_option maxHeartbeats 1600000 in
theorem refFits_any (k v : Int) (w : World) (hk : 1 ≤ k ∧ k ≤ 8) : Calls Tryz.prog 45 #[.int .i64 k, .int .i64 v] w fun e w' => e = .returned (.bool (decide (v ∈ codecs k))) ∧ w = w' := by
  unfold codecs
  by_cases h6 : k ≤ 6
  · have h7 : ¬ 6 < k := by omega
    rw [numK_yes ⟨hk.1, h6⟩, if_pos rfl]
    by_cases h1 : v = 1
    · subst h1
      go_enter Tryz.func45, Tryz.ntmps45
      go_wp2
      go_ret
      exact ⟨rfl, rfl⟩
    · by_cases h2 : v = 2
      · subst h2
        go_enter Tryz.func45, Tryz.ntmps45
        go_wp2
        go_ret
        exact ⟨rfl, rfl⟩
      · by_cases h3 : v = 3
        · subst h3
          go_enter Tryz.func45, Tryz.ntmps45
          go_wp2
          go_ret
          exact ⟨rfl, rfl⟩
        · rw [decide_eq_false (by simp [h1, h2, h3])]
          have b1 : (v == 1) = false := by simp [h1]
          have b2 : (v == 2) = false := by simp [h2]
          have b3 : (v == 3) = false := by simp [h3]
          clear h1 h2 h3
          go_enter Tryz.func45, Tryz.ntmps45
          go_wp2
          go_ret
          exact ⟨rfl, rfl⟩
  · have h7 : 6 < k := by omega
    rw [numK_no (fun q => h6 q.2), if_neg (by decide)]
    by_cases h1 : v = 1
    · subst h1
      go_enter Tryz.func45, Tryz.ntmps45
      go_wp2
      go_ret
      exact ⟨rfl, rfl⟩
    · by_cases h2 : v = 4
      · subst h2
        go_enter Tryz.func45, Tryz.ntmps45
        go_wp2
        go_ret
        exact ⟨rfl, rfl⟩
      · by_cases h3 : v = 5
        · subst h3
          go_enter Tryz.func45, Tryz.ntmps45
          go_wp2
          go_ret
          exact ⟨rfl, rfl⟩
        · rw [decide_eq_false (by simp [h1, h2, h3])]
          have b1 : (v == 1) = false := by simp [h1]
          have b2 : (v == 4) = false := by simp [h2]
          have b3 : (v == 5) = false := by simp [h3]
          clear h1 h2 h3
          go_enter Tryz.func45, Tryz.ntmps45
          go_wp2
          go_ret
          exact ⟨rfl, rfl⟩
set_option maxHeartbeats 1600000 in
theorem refCheckB_any (k : Int) (A : Option Addr) (n c : Nat) (xs : List Ci) (w : World) (hx : RdX w A n xs) (hn : n ≤ 281474976710656) :
    Calls Tryz.prog 49 #[.int .i64 k, .slice A n c] w fun e w' => e = .returned (.int .i64 (chkB k xs)) ∧ Ext w w' := by
  have hl := hx.1
  by_cases hbig : 4096 < n
  · have hE : chkB k xs = 4 := by unfold chkB; rw [hl, if_pos hbig]
    have hb : (4096 : Int) < (n : Int) := by omega
    rw [hE]
    clear hE hx hl hbig
    go_enter Tryz.func49, Tryz.ntmps49
    go_wp2
    go_ret
    exact ⟨rfl, Ext.refl w⟩
  · have hE : chkB k xs = chkA k xs := by unfold chkB; rw [hl, if_neg hbig]
    have hb : ¬ (4096 : Int) < (n : Int) := by omega
    rw [hE]
    obtain ⟨R, hR⟩ : ∃ R, R = chkA k xs := ⟨_, rfl⟩
    rw [← hR]
    have HR0 := Lib.hid (show R = chkA k (xs.drop 0) by simpa using hR)
    have Hx := Lib.hid hx
    have Hl := Lib.hid hl
    clear hR hE hx hl hbig
    go_enter Tryz.func49, Tryz.ntmps49
    go_wp2
    go_loopw [5] (fun i wr => ∃ j : Nat, j ≤ n ∧ i = .int .i64 j ∧ Hid (R = chkA k (xs.drop j)) ∧ Hid (Ext w wr)) (fun i _ => n - (intOf i).toNat)
    case atStart => exact ⟨0, Nat.zero_le _, rfl, HR0.out, Ext.refl w⟩
    case round =>
      clear HR0
      obtain ⟨j, hj, rfl, HR, HE⟩ := hrel
      by_cases hlt : j < n
      · obtain ⟨b, o, x, hA, hbl, hxj, x0, x1, x2, xin⟩ := (Hx.out.ext HE.out).at_ hlt
        subst hA
        have hst := HR.out.trans (chkA_at hxj)
        obtain ⟨xn, xi, xA, xc, xt⟩ := x
        simp only at x0 x1 x2 hst
        have hxl := xin.len
        simp only at hxl
        have HC := refCheck_any k true xn xi xA xt.length xc xt wr xin.rd xin.lo xin.hi (by omega)
        obtain ⟨E, hE⟩ : ∃ E, E = chk k true xn xi xt := ⟨_, rfl⟩
        rw [← hE] at HC hst
        obtain ⟨xl, hxe⟩ : ∃ xl, xl = xt.length := ⟨_, rfl⟩
        rw [← hxe] at HC x2
        have HCh := Lib.hid HC
        have Hst := Lib.hid hst
        clear HC hst hE xin hxl hxe hxj
        go_wp2_with fail
        refine HCh.out.mono ?_
        rintro e w1 ⟨rfl, he1⟩
        have HE1 := Lib.hid (HE.out.trans he1)
        by_cases q : E = 0
        · have HN := Lib.hid (Hst.out.trans (if_neg (fun z => z q)))
          subst q
          go_wp2_with fail
          go_roundw
          case rel => exact ⟨j + 1, by omega, by go_num, HN.out, HE1.out⟩
          case measure => simp [intOf]; omega
        · have HN := Lib.hid (Hst.out.trans (if_pos q))
          have b1 : (E != 0) = true := by simp [q]
          go_wp2_with fail
          go_ret
          exact ⟨by rw [HN.out]; rfl, HE1.out⟩
      · obtain rfl : j = n := by omega
        have HN := Lib.hid (show R = 0 by rw [HR.out, List.drop_of_length_le (Nat.le_of_eq Hl.out)]; rfl)
        go_wp2_with fail
        go_ret
        exact ⟨by rw [HN.out]; rfl, HE.out⟩
theorem grown_step {w wr w1 : World} {g : Option Nat} {A1 A2 : Option Addr} (h : w.grownBy wr g) (hA : ∀ p, A1 = some p → some p.block = g ∨ w.heap.size ≤ p.block)
    (hs : A2 = A1 ∧ wr.grownBy w1 (A1.map (·.block)) ∨ Ext wr w1 ∧ ∀ q, A2 = some q → wr.heap.size ≤ q.block) :
    w.grownBy w1 g ∧ ∀ p, A2 = some p → some p.block = g ∨ w.heap.size ≤ p.block := by
  rcases hs with ⟨rfl, h1⟩ | ⟨h1, h2⟩
  · refine ⟨⟨h1.os.trans h.os, h1.tape.trans h.tape, h1.output.trans h.output, Nat.le_trans h.size h1.size, fun b hb hne => (h1.block b (Nat.lt_of_lt_of_le hb h.size) (fun e => ?_)).trans (h.block b hb hne)⟩, hA⟩
    cases hA2 : A2 with
    | none => rw [hA2] at e; cases e
    | some p =>
      rw [hA2] at e
      injection e with e
      have e' : p.block = b := e.symm
      rcases hA p hA2 with q | q
      · exact hne (by rw [← e']; exact q)
      · omega
  · exact ⟨⟨h1.os.trans h.os, h1.tape.trans h.tape, h1.output.trans h.output, Nat.le_trans h.size h1.size, fun b hb hne => (h1.block b (Nat.lt_of_lt_of_le hb h.size)).trans (h.block b hb hne)⟩, fun p hp => .inr (Nat.le_trans h.size (h2 p hp))⟩
set_option maxHeartbeats 800000 in
theorem add12_any (A A2 : Option Addr) (n c m c2 base : Nat) (xs ys : List Nat) (w : World) (hown : Own .u8 5 w base A c xs) (hn : xs.length = n) (hy : Rd .u8 w A2 m ys)
    (hne : 0 < m → ∀ p q, A = some p → A2 = some q → p.block ≠ q.block) (hz : base ≤ w.heap.size) (hlen : n + m ≤ 100000000) :
    Calls Tryz.prog 164 #[.slice A n c, .slice A2 m c2] w fun e w' => ∃ A' c', e = .returned (.slice A' (n + m : Nat) c') ∧ Own .u8 5 w' base A' c' (xs ++ ys) ∧ w.grownBy w' (A.map (·.block)) := by
  have Hl := Lib.hid hy.len
  have Hn := Lib.hid hn
  have h0 : Own .u8 5 w base A c (xs ++ ys.take 0) := by simpa using hown
  have H0 := Lib.hid h0
  have Hy := Lib.hid hy
  have Hne := Lib.hid hne
  clear hn hown h0 hy hne
  go_enter Tryz.func164, Tryz.ntmps164
  go_wp2
  go_loopw [0, 5] (fun v i wr => ∃ (j : Nat) (A' : Option Addr) (c' : Nat), j ≤ m ∧ i = .int .i64 j ∧ v = .slice A' (n + j : Nat) c' ∧ Hid (Own .u8 5 wr base A' c' (xs ++ ys.take j)) ∧ Hid (w.grownBy wr (A.map (·.block)) ∧ ∀ p, A' = some p → some p.block = A.map (·.block) ∨ w.heap.size ≤ p.block)) (fun _ i _ => m - (intOf i).toNat)
  case atStart => exact ⟨0, A, c, Nat.zero_le _, rfl, rfl, H0.out, ⟨⟨rfl, rfl, rfl, Nat.le_refl _, fun _ _ _ => rfl⟩, fun p hp => .inl (by rw [hp]; rfl)⟩⟩
  case round =>
    clear H0
    obtain ⟨j, A', c', hj, rfl, rfl, HO, HG⟩ := hrel
    by_cases hlt : j < m
    · have hyr := Hy.out.grown HG.out.1 (fun a ha e => by
        cases hA : A with
        | none => rw [hA] at e; cases e
        | some p => rw [hA] at e; injection e with e; exact Hne.out (by omega) p a hA ha e.symm)
      obtain ⟨b, o, hA2, hbl, hc⟩ := hyr.at_ hlt
      have Htl := Lib.hid (show (xs ++ ys.take j).length = n + j by rw [List.length_append, List.length_take, Hl.out, Hn.out]; omega)
      have hzr : base ≤ wr.heap.size := Nat.le_trans hz HG.out.1.size
      subst hA2
      clear hyr
      go_wp2_with (at_builtin; refine wpList_push2 .u8 (ys.getD j 0) 5 rfl _ _ 22 rfl _ 1 Tryz.underlying22 Tryz.infoU8 rfl HO.out (n + j) Htl.out rfl rfl rfl (by omega) (by omega) hzr ?_; intro A1 c1 w1 hown1 hw1 hz1)
      have HG1 := Lib.hid (grown_step HG.out.1 HG.out.2 hw1)
      have HO1 : Hid (Own .u8 5 w1 base A1 c1 (xs ++ ys.take (j + 1))) := Lib.hid (by rw [take_next _ _ (by have := Hl.out; omega), ← List.append_assoc]; exact hown1)
      clear hown1 hw1
      go_roundw
      case rel => exact ⟨j + 1, A1, c1, by omega, by go_num, by go_num, HO1.out, HG1.out⟩
      case measure => simp [intOf]; omega
    · obtain rfl : j = m := by omega
      have ho := HO.out
      rw [List.take_of_length_le (Nat.le_of_eq Hl.out)] at ho
      have HO2 := Lib.hid ho
      clear ho
      go_wp2
      go_ret
      exact ⟨_, _, rfl, HO2.out, HG.out.1⟩
set_option maxHeartbeats 400000 in
theorem refPutT_any (A A2 : Option Addr) (n c m c2 base : Nat) (xs ys : List Nat) (w0 w : World) (hown : Own .u8 5 w base A c xs) (hn : xs.length = n) (hy : Rd .u8 w A2 m ys)
    (hne : 0 < m → ∀ p q, A = some p → A2 = some q → p.block ≠ q.block) (hb : Below base w0 w) (hz : base ≤ w.heap.size) (hlen : n + m ≤ 100000000) :
    Calls Tryz.prog 213 #[.slice A n c, .slice A2 m c2] w fun e w' => ∃ A' c', e = .returned (.slice A' (n + m : Nat) c') ∧ Own .u8 5 w' base A' c' (xs ++ ys) ∧ Below base w0 w' ∧ base ≤ w'.heap.size := by
  have hl := hy.len
  have Hl := Lib.hid hl
  have Hn := Lib.hid hn
  clear hl hn
  have h0 : Own .u8 5 w base A c (xs ++ ys.take 0) := by simpa using hown
  go_enter Tryz.func213, Tryz.ntmps213
  go_wp2
  go_loopw [0, 5] (fun v i wr => ∃ (j : Nat) (A' : Option Addr) (c' : Nat), j ≤ m ∧ i = .int .i64 j ∧ v = .slice A' (n + j : Nat) c' ∧ Own .u8 5 wr base A' c' (xs ++ ys.take j) ∧ Rd .u8 wr A2 m ys ∧ (0 < m → ∀ p q, A' = some p → A2 = some q → p.block ≠ q.block) ∧ Below base w0 wr ∧ base ≤ wr.heap.size) (fun _ i _ => m - (intOf i).toNat)
  case atStart => exact ⟨0, A, c, Nat.zero_le _, rfl, rfl, h0, hy, hne, hb, hz⟩
  case round =>
    clear h0 hown hy hne hb hz
    obtain ⟨j, A', c', hj, rfl, rfl, hown, hy, hne, hb, hz⟩ := hrel
    by_cases hlt : j < m
    · have hy' := hy
      obtain ⟨b, o, rfl, hbl, hc⟩ := hy.at_ hlt
      have htl : (xs ++ ys.take j).length = n + j := by rw [List.length_append, List.length_take, Hl.out, Hn.out]; omega
      have Htl := Lib.hid htl
      have Hne := Lib.hid (hne (by omega))
      have Hown := Lib.hid hown
      have Hy := Lib.hid hy'
      clear htl hne hown hy hy'
      go_wp2_with (at_builtin; refine wpList_push2 .u8 (ys.getD j 0) 5 rfl _ _ 22 rfl _ 1 Tryz.underlying22 Tryz.infoU8 rfl Hown.out (n + j) Htl.out rfl rfl rfl (by omega) (by omega) hz ?_; intro A1 c1 w1 hown1 hw1 hz1)
      have hN : Rd .u8 w1 (some ⟨b, o, none⟩) m ys ∧ (∀ p q, A1 = some p → some (⟨b, o, none⟩ : Addr) = some q → p.block ≠ q.block) ∧ Below base w0 w1 := by
        rcases hw1 with ⟨rfl, hg⟩ | ⟨he, hq⟩
        · refine ⟨Hy.out.grown hg (fun a ha e => ?_), Hne.out, Below.grown hb hg hz (fun g hg' => (Hown.out.lt g (by cases A1 with | none => cases hg' | some p => exact hg')).1)⟩
          cases hA : A1 with
          | none => rw [hA] at e; cases e
          | some p => rw [hA] at e; injection e with e; exact Hne.out p a hA ha e.symm
        · refine ⟨Hy.out.ext he, fun p q hp hq2 e => ?_, Below.trans hb (Below.mono he hz)⟩
          have h1 := hq p hp
          injection hq2 with hq2
          subst hq2
          have h2 : p.block = b := e
          omega
      have HN := Lib.hid hN
      clear hN hw1
      go_roundw
      case rel => exact ⟨j + 1, A1, c1, by omega, by go_num, rfl, by rw [take_next _ _ (by have := Hl.out; omega), ← List.append_assoc]; exact hown1, HN.out.1, fun _ => HN.out.2.1, HN.out.2.2, hz1⟩
      case measure => simp [intOf]; omega
    · obtain rfl : j = m := by omega
      rw [List.take_of_length_le (Nat.le_of_eq Hl.out)] at hown
      go_wp2
      go_ret
      exact ⟨_, _, rfl, hown, hb, hz⟩
set_option maxHeartbeats 1600000 in
theorem refEncode11_any (A : Option Addr) (n c : Nat) (ss : List Sl) (w : World) (hx : TxL w A n ss) (hn : n ≤ 140737488355328) :
    Calls Tryz.prog 200 #[.slice A n c] w (PEncPost (pencR (bodies ss)) w) := by
  have Hl := Lib.hid hx.len
  have hbl : (bodies ss).length = n := by rw [bodies_len, Hl.out]
  by_cases hbig : 4096 < n
  · have HR := Lib.hid (pencR_bad (ss := bodies ss) (.inl (by rw [hbl]; exact hbig)))
    clear hbl
    go_enter Tryz.func200, Tryz.ntmps200
    go_wp2_with fail
    go_ret2
    exact PEncPost.bad _ HR.out (Ext.refl w)
  · have hb4 : n ≤ 4096 := by omega
    have Hbl := Lib.hid hbl
    clear hbl
    go_enter Tryz.func200, Tryz.ntmps200
    go_wp2_with fail
    refine (refPut_any n _ (by omega)).mono ?_
    rintro e w2 ⟨A2, c2, rfl, hown2, he2⟩
    go_wp2_with fail
    go_loopw [5] (fun i wr => ∃ j : Nat, j ≤ n ∧ i = .int .i64 j ∧ wr = w2 ∧ Hid (anyLong (bodies (ss.take j)) = false)) (fun i _ => n - (intOf i).toNat)
    case atStart => exact ⟨0, Nat.zero_le _, rfl, rfl, rfl⟩
    case round =>
      obtain ⟨j, hj, rfl, rfl, HA⟩ := hrel
      by_cases hlt : j < n
      · obtain ⟨b, o, s, rfl, hf, h1, _⟩ := (hx.ext he2).at_ hlt
        obtain ⟨sA, sc, body⟩ := s
        simp only at h1
        have e0 : bodies (ss.take (j + 1)) = bodies (ss.take j) ++ [body] := by rw [List.take_add_one, hf]; unfold bodies; rw [List.map_append]; rfl
        have hbj := bodies_at hf
        by_cases hb : 200 < body.length
        · have HR := Lib.hid (pencR_bad (.inr (anyLong_iff.2 ⟨body, List.mem_of_getElem? hbj, hb⟩)))
          clear e0 hf hbj
          obtain ⟨m, hm⟩ : ∃ m, m = body.length := ⟨_, rfl⟩
          rw [← hm] at h1 hb
          clear hm
          go_wp2_with fail
          go_ret2
          exact PEncPost.bad _ HR.out he2
        · have hN := Lib.hid (show anyLong (bodies (ss.take (j + 1))) = false by
            have h2 : anyLong [body] = false := by simp [anyLong]; omega
            have h3 := HA.out
            unfold anyLong at h2 h3 ⊢
            rw [e0, List.any_append, h3, h2]; rfl)
          clear e0 hf hbj
          obtain ⟨m, hm⟩ : ∃ m, m = body.length := ⟨_, rfl⟩
          rw [← hm] at h1 hb
          clear hm
          go_wp2_with fail
          go_roundw
          case rel => exact ⟨j + 1, by omega, by go_num, by first | trivial | rfl, hN⟩
          case measure => simp [intOf]; omega
      · obtain rfl : n = j := by omega
        have hany : anyLong (bodies ss) = false := by rw [← HA.out, List.take_of_length_le (by rw [Hl.out]; exact Nat.le_refl _)]
        have HR := Lib.hid (pencR_good (by rw [Hbl.out]; omega) hany)
        have hlong := anyLong_no hany
        have Hvl := Lib.hid (penc_len (by rw [Hbl.out]; omega) hlong)
        have Hlong := Lib.hid hlong
        obtain ⟨V, hV⟩ : ∃ V, V = penc (bodies ss) := ⟨_, rfl⟩
        rw [← hV] at HR Hvl
        have HV := Lib.hid hV
        have HP0 := Lib.hid (show vput n ++ pencA ((bodies ss).take 0) ((bodies ss).drop 0) = V by rw [HV.out, penc, Hbl.out]; rfl)
        clear hV hany hlong HA
        go_wp2_with fail
        go_loopw [4, 6, 7] (fun v i _ wr => ∃ (q : Nat) (P : List Nat) (A' : Option Addr) (c' : Nat), q ≤ n ∧ i = .int .i64 q ∧ v = .slice A' P.length c' ∧ Hid (P ++ pencA ((bodies ss).take q) ((bodies ss).drop q) = V) ∧ Own .u8 5 wr w.heap.size A' c' P ∧ Ext w wr) (fun _ i _ _ => n - (intOf i).toNat)
        case atStart => exact ⟨0, _, A2, c2, Nat.zero_le _, rfl, rfl, HP0.out, hown2, he2⟩
        case round =>
          clear HP0 hown2
          have he0 := he2
          clear he2
          obtain ⟨j, P, A', c', hj, rfl, rfl, HP, hown, he⟩ := hrel
          by_cases hlt : j < n
          · obtain ⟨b, o, s, rfl, hf, hc, hs⟩ := hx.at_ hlt
            have blt := World.block_lt_of_cell? _ _ hc
            have hbj := bodies_at hf
            have hst := pencA_step hbj
            have hah := ahead_take (ss := bodies ss) (j := j) (by rw [Hbl.out]; exact hj)
            have hsl : s.body.length ≤ 200 := Hlong.out _ (List.mem_of_getElem? hbj)
            obtain ⟨sA, sc, body⟩ := s
            simp only at hc hs hsl hst
            obtain ⟨srd, su8, scap, stop, slen⟩ := hs
            simp only at srd su8 scap stop slen
            obtain ⟨k, hk⟩ : ∃ k, k = cp (ahead ((bodies ss).take j)) body := ⟨_, rfl⟩
            have hkb : k ≤ body.length := by rw [hk]; exact (cp_le _ _).2
            have hN : (P ++ vput k ++ vput (body.length - k) ++ body.drop k) ++ pencA ((bodies ss).take (j + 1)) ((bodies ss).drop (j + 1)) = V := by
              rw [← HP.out, hst, ptext, ← hk]
              simp
            have hPl : P.length ≤ 1000000 := by have := Hvl.out; rw [← HP.out, List.length_append] at this; omega
            have HN := Lib.hid hN
            have Hk := Lib.hid hk
            clear hN hst hbj hk HP
            obtain ⟨m, hm⟩ : ∃ m, m = body.length := ⟨_, rfl⟩
            rw [← hm] at hc srd scap hsl hkb HN slen
            have Hm := Lib.hid hm
            clear hm
            have Hc := Lib.hid (fun (W : World) (hW : Below w.heap.size w W) => (Below.cell hW (p := ⟨b, o + j, none⟩) blt).trans hc)
            have cell := Hc.out wr he
            have hmk : (m : Int) - (k : Int) = ((m - k : Nat) : Int) := by omega
            have hk200 : k ≤ 200 := by omega
            have hmk200 : m - k ≤ 200 := by omega
            have sl9 := run_from sA m sc k hkb
            have sh9 := srd.offA hkb scap
            obtain ⟨A9, hA9⟩ : ∃ A9, A9 = offA sA k sc := ⟨_, rfl⟩
            rw [← hA9] at sl9 sh9
            have Hsl9 := Lib.hid sl9
            have Hsh9 := Lib.hid sh9
            clear sl9 sh9 hA9 hkb hc
            by_cases hw16 : j % 16 = 0
            · have hk0 : k = 0 := by rw [Hk.out, hah, if_pos hw16]; rfl
              have Hk0 := Lib.hid hk0
              have hd : (((j : Int) % 16) != 0) = false := by simp; omega
              clear hk0
              go_wp2_with fail
              rw [show Value.int .i64 0 = Value.int .i64 (k : Int) by rw [Hk0.out]; rfl, show Value.int .u64 0 = Value.int .u64 (k : Int) by rw [Hk0.out]; rfl]
              refine (refPut_any k _ (by omega)).mono ?_
              rintro e w4 ⟨A4, c4, rfl, hown4, he4⟩
              have hown3 := hown.ext he4
              have hE4 := he.trans he4
              have hv1 := vput_le (u := k) (by omega)
              go_wp2_with fail
              refine (refPutT_any _ _ P.length _ _ _ w.heap.size P (vput k) w _ hown3 rfl hown4.rd (fun _ p q hp hq e => by
                have h1 := (hown.block p hp).2
                have h2 := (hown4.block q hq).1
                omega) hE4 hE4.size (by omega)).mono ?_
              rintro e w5 ⟨A5, c5, rfl, hown5, hb5, hz5⟩
              have cell5 := Hc.out w5 hb5
              go_wp2_with fail
              refine (refPut_any (m - k) _ (by omega)).mono ?_
              rintro e w6 ⟨A6, c6, rfl, hown6, he6⟩
              have hown7 := hown5.ext he6
              have hE6 := Ext.trans hb5 he6
              have hv2 := vput_le (u := m - k) (by omega)
              have hL5 : (P ++ vput k).length = P.length + (vput k).length := List.length_append
              go_wp2_with fail
              refine (refPutT_any _ _ _ _ _ _ w.heap.size _ (vput (m - k)) w _ hown7 hL5 hown6.rd (fun _ p q hp hq e => by
                have h1 := (hown5.block p hp).2
                have h2 := (hown6.block q hq).1
                omega) hE6 hE6.size (by omega)).mono ?_
              rintro e w7 ⟨A7, c7, rfl, hown8, hb7, hz7⟩
              have hL7 : (P ++ vput k ++ vput (m - k)).length = P.length + (vput k).length + (vput (m - k)).length := by rw [List.length_append, List.length_append]
              have cell7 := Hc.out w7 hb7
              have sl9 := Hsl9.out
              go_wp2_with fail
              refine (refPutT_any _ A9 _ _ (m - k) _ w.heap.size _ _ w _ hown8 hL7 (Hsh9.out.ext hb7) (fun h0 p q hp hq e => by
                have h1 := (hown8.block p hp).1
                have h2 := Hsh9.out.lt h0 q hq
                omega) hb7 hz7 (by omega)).mono ?_
              rintro e w8 ⟨A8, c8, rfl, hown9, hb8, hz8⟩
              go_wp2_with fail
              go_roundw
              case rel => exact ⟨j + 1, _, A8, c8, by omega, by go_num, by rw [List.length_append, List.length_append, List.length_append, List.length_drop, ← Hm.out], HN.out, hown9, hb8⟩
              case measure => simp [intOf]; omega
            · obtain ⟨q, rfl⟩ : ∃ q, j = q + 1 := ⟨j - 1, by omega⟩
              obtain ⟨b', o', s', e', hf', hc', hs'⟩ := hx.at_ (j := q) (by omega)
              injection e' with e'
              injection e' with e1 e2
              subst e1 e2
              have blt' := World.block_lt_of_cell? _ _ hc'
              have hk1 : k = cp s'.body body := by rw [Hk.out, hah, if_neg hw16, Nat.add_sub_cancel, bodies_get hf']
              obtain ⟨sA', sc', body'⟩ := s'
              simp only at hc' hs' hk1
              have cell' : wr.cell? ⟨b, o + q, none⟩ = _ := (Below.cell he (p := ⟨b, o + q, none⟩) blt').trans hc'
              have Hk1 := Lib.hid hk1
              have hd : (((q : Int) + 1) % 16 != 0) = true := by simp; omega
              have H66 := Lib.hid (fun W (hW : Ext wr W) => refSame11_any sA' sA body'.length sc' m sc body' body W ((hs'.rd.ext he).ext hW) ((srd.ext he).ext hW) hs'.len slen)
              clear hk1 hf' hc'
              go_wp2_with fail
              go_quiet ((go_at_call 161; exact Calls.quiet_of (H66.out _ (Ext.of_drewN _ _))))
              rw [← Hk1.out]
              have cell4 := Hc.out (wr.drewN nq) (he.drewN nq)
              go_wp2_with fail
              refine (refPut_any k _ (by omega)).mono ?_
              rintro e w4 ⟨A4, c4, rfl, hown4, he4⟩
              have hown3 := (hown.ext (Ext.of_drewN _ nq)).ext he4
              have hE4 := (he.drewN nq).trans he4
              have hv1 := vput_le (u := k) (by omega)
              go_wp2_with fail
              refine (refPutT_any _ _ P.length _ _ _ w.heap.size P (vput k) w _ hown3 rfl hown4.rd (fun _ p q hp hq e => by
                have h1 := (hown.block p hp).2
                have h2 := (hown4.block q hq).1
                have h2 : wr.heap.size ≤ q.block := h2
                omega) hE4 hE4.size (by omega)).mono ?_
              rintro e w5 ⟨A5, c5, rfl, hown5, hb5, hz5⟩
              have cell5 := Hc.out w5 hb5
              go_wp2_with fail
              refine (refPut_any (m - k) _ (by omega)).mono ?_
              rintro e w6 ⟨A6, c6, rfl, hown6, he6⟩
              have hown7 := hown5.ext he6
              have hE6 := Ext.trans hb5 he6
              have hv2 := vput_le (u := m - k) (by omega)
              have hL5 : (P ++ vput k).length = P.length + (vput k).length := List.length_append
              go_wp2_with fail
              refine (refPutT_any _ _ _ _ _ _ w.heap.size _ (vput (m - k)) w _ hown7 hL5 hown6.rd (fun _ p q hp hq e => by
                have h1 := (hown5.block p hp).2
                have h2 := (hown6.block q hq).1
                omega) hE6 hE6.size (by omega)).mono ?_
              rintro e w7 ⟨A7, c7, rfl, hown8, hb7, hz7⟩
              have hL7 : (P ++ vput k ++ vput (m - k)).length = P.length + (vput k).length + (vput (m - k)).length := by rw [List.length_append, List.length_append]
              have cell7 := Hc.out w7 hb7
              have sl9 := Hsl9.out
              go_wp2_with fail
              refine (refPutT_any _ A9 _ _ (m - k) _ w.heap.size _ _ w _ hown8 hL7 (Hsh9.out.ext hb7) (fun h0 p q hp hq e => by
                have h1 := (hown8.block p hp).1
                have h2 := Hsh9.out.lt h0 q hq
                omega) hb7 hz7 (by omega)).mono ?_
              rintro e w8 ⟨A8, c8, rfl, hown9, hb8, hz8⟩
              go_wp2_with fail
              go_roundw
              case rel => exact ⟨q + 1 + 1, _, A8, c8, by omega, by go_num, by rw [List.length_append, List.length_append, List.length_append, List.length_drop, ← Hm.out], HN.out, hown9, hb8⟩
              case measure => simp [intOf]; omega
          · obtain rfl : n = j := by omega
            have hfin := Lib.hid (show P = V by rw [← HP.out, List.drop_of_length_le (by rw [Hbl.out]; exact Nat.le_refl _)]; simp [pencA])
            go_wp2_with fail
            go_ret2
            exact PEncPost.good _ HR.out (by rw [hfin.out]) (by rw [← hfin.out]; exact hown) he
theorem wdt_one' (v : Nat) : wdt [v] = bl v := by simp [wdt]
theorem rd_zs {w : World} {A : Option Addr} {n : Nat} {ns : List Nat} (h : RdG shZ w A n (zs ns)) : Rd .i64 w A n ns := by
  refine ⟨by rw [← h.1, zs_len], fun hn => ?_⟩
  obtain ⟨b, o, rfl, hb, hc⟩ := h.2 hn
  refine ⟨b, o, rfl, hb, fun j hj => ?_⟩
  have hjl : j < ns.length := by have := h.1; rw [zs_len] at this; omega
  have h1 := hc j (ns[j] : Int) (by unfold zs; rw [List.getElem?_map, List.getElem?_eq_getElem hjl]; rfl) 0 (.int .i64 (ns[j] : Int)) rfl
  rw [show o + j * shZ.sz + 0 = o + j from by show o + j * 1 + 0 = o + j; omega] at h1
  rw [h1]
  simp [List.getD, hjl]
theorem refWidth10_any (n : Nat) (w : World) (hn : n ≤ 1000000) :
    Calls Tryz.prog 126 #[.int .i64 (n : Int)] w fun e w' => e = .returned (.int .i64 (wfor n)) ∧ Ext w w' := by
  by_cases h : n = 0
  · subst h
    go_enter Tryz.func126, Tryz.ntmps126
    go_wp2
    go_ret
    exact ⟨rfl, Ext.refl w⟩
  · obtain ⟨m, rfl⟩ : ∃ m, n = m + 1 := ⟨n - 1, by omega⟩
    have HW := Lib.hid (show wfor (m + 1) = bl m by unfold wfor; rw [if_neg h, Nat.add_sub_cancel])
    have hz : (((m : Int) + 1) == 0) = false := by rw [beq_eq_false_iff_ne]; omega
    clear h
    go_enter Tryz.func126, Tryz.ntmps126
    go_wp2_with fail
    refine (refWidth_any _ 1 1 [m] _ (Rd.lit_at .u64 69 w [m] rfl rfl) (by intro v hv; simp at hv; omega) (by omega)).mono ?_
    rintro e w1 ⟨rfl, rfl⟩
    rw [wdt_one', ← HW.out]
    go_wp2_with fail
    go_ret
    exact ⟨rfl, (Ext.refl w).alloc _⟩
set_option maxHeartbeats 1600000 in
theorem refDencode_any (A : Option Addr) (n c : Nat) (ss : List Sl) (w : World) (hx : TxL w A n ss) (hn : n ≤ 140737488355328) :
    Calls Tryz.prog 199 #[.slice A n c] w (PEncPost (dencR (bodies ss)) w) := by
  have HI := Lib.hid (refIndex_any A n c ss w hx hn)
  have hbl : (bodies ss).length = n := by rw [bodies_len, hx.len]
  by_cases hbad : 4096 < (bodies ss).length ∨ anyLong (bodies ss) = true
  · have HR := Lib.hid (dencR_bad hbad)
    rw [idxR_bad hbad] at HI
    clear hbad hx hbl
    go_enter Tryz.func199, Tryz.ntmps199
    go_wp2_with fail
    refine HI.out.mono ?_
    rintro e w1 ⟨A1, c1, us, B, cB, rfl, hb, _, _, he1⟩
    simp only at hb ⊢
    rw [show us.length = 0 by rw [← bodies_len, hb]; rfl, show ([] : List Nat).length = 0 from rfl]
    clear hb
    go_wp2_with fail
    go_ret2
    exact PEncPost.bad _ HR.out he1
  · have hgn : (bodies ss).length ≤ 4096 := by
      rcases Nat.lt_or_ge 4096 (bodies ss).length with q | q
      · exact absurd (.inl q) hbad
      · exact q
    have hgl : anyLong (bodies ss) = false := by
      cases q : anyLong (bodies ss) with
      | true => exact absurd (.inr q) hbad
      | false => rfl
    have HR := Lib.hid (dencR_good hgn hgl)
    rw [idxR_good hgn hgl, show (bodies ss).map (fun s => skN s (dents (bodies ss))) = dcodes (bodies ss) from rfl] at HI
    have hdl := denc_len hgn hgl
    have hLn := dents_len _ (bodies ss) rfl
    have hns := dcodes_lt (ss := bodies ss)
    have hcl := dcodes_len (bodies ss)
    have hshort := dents_short hgl
    obtain ⟨hp1, hp2⟩ := pack_good (by omega) (by omega) hns
    obtain ⟨L, hL⟩ : ∃ L, L = dents (bodies ss) := ⟨_, rfl⟩
    obtain ⟨ns, hnse⟩ : ∃ ns, ns = dcodes (bodies ss) := ⟨_, rfl⟩
    have hden : denc (bodies ss) = (vput L.length ++ entB L) ++ (vput ns.length ++ packB (wfor L.length) ns) := by rw [hL, hnse]; rfl
    rw [← hL] at HI hLn hns hp1 hp2 hshort
    rw [← hnse] at HI hns hp1 hp2 hcl
    obtain ⟨V, hV⟩ : ∃ V, V = denc (bodies ss) := ⟨_, rfl⟩
    rw [← hV] at HR hdl hden
    obtain ⟨m, hm⟩ : ∃ m, m = L.length := ⟨_, rfl⟩
    obtain ⟨k, hk⟩ : ∃ k, k = ns.length := ⟨_, rfl⟩
    rw [← hm] at hns hp1 hp2 hden hLn
    rw [← hk] at hden hcl
    have hVl := hdl
    rw [hden] at hVl
    simp only [List.length_append] at hVl
    have Hden := Lib.hid hden
    have Hm := Lib.hid hm
    have Hk := Lib.hid hk
    have Hp1 := Lib.hid hp1
    have Hp2 := Lib.hid hp2
    have Hns := Lib.hid (show ∀ v ∈ ns, v ≤ 1000000 from fun v h => by have := hns v h; omega)
    have HnsU := Lib.hid (show U64 ns from fun v h => by have := hns v h; omega)
    have Hshort := Lib.hid hshort
    have hm4 : m ≤ 4096 := by omega
    have hk4 : k ≤ 4096 := by omega
    obtain ⟨E, hE⟩ : ∃ E, E = vput m ++ entB L := ⟨_, rfl⟩
    have hEl : E.length ≤ 1000000 := by rw [hE, List.length_append]; omega
    have HE0 := Lib.hid hE
    obtain ⟨pl, hpl⟩ : ∃ pl, (packB (wfor m) ns).length = pl := ⟨_, rfl⟩
    have Hpl := Lib.hid hpl
    have hpl6 : pl ≤ 1000000 := by rw [← hpl]; omega
    clear hbad hx hbl hL hnse hden hV hm hk hp1 hp2 hns hshort hgn hgl hLn hcl hVl hE hpl
    go_enter Tryz.func199, Tryz.ntmps199
    go_wp2_with fail
    refine HI.out.mono ?_
    rintro e w1 ⟨A1, c1, us, B, cB, rfl, hb, hen, hnum, he1⟩
    simp only at hb hnum ⊢
    have hul : us.length = m := by rw [Hm.out, ← hb, bodies_len]
    rw [hul] at hen ⊢
    rw [← Hk.out]
    have hnr := rd_zs (hnum.rd' (n := k) (by rw [zs_len]; exact Hk.out.symm))
    have Hen := Lib.hid hen
    have Hb := Lib.hid hb
    have Hul := Lib.hid hul
    clear hb hen hul hnum
    go_wp2_with fail
    refine (refPut_any m _ (by omega)).mono ?_
    rintro e w2 ⟨A2, c2, rfl, hown2, he2⟩
    have HP0 := Lib.hid (show vput m ++ entB ((bodies us).drop 0) = E by rw [HE0.out, Hb.out]; rfl)
    go_wp2_with fail
    go_loopw [7, 8] (fun v i wr => ∃ (j : Nat) (P : List Nat) (A' : Option Addr) (c' : Nat), j ≤ m ∧ i = .int .i64 j ∧ v = .slice A' P.length c' ∧ Hid (P ++ entB ((bodies us).drop j) = E) ∧ Own .u8 5 wr w1.heap.size A' c' P ∧ Ext w1 wr) (fun _ i _ => m - (intOf i).toNat)
    case atStart => exact ⟨0, _, A2, c2, Nat.zero_le _, rfl, rfl, HP0.out, hown2, he2⟩
    case round =>
      clear HP0 hown2 he2
      obtain ⟨j, P, A', c', hj, rfl, rfl, HP, hown, he⟩ := hrel
      by_cases hlt : j < m
      · obtain ⟨b, o, s, rfl, hf, hc0⟩ := Hen.out.rd.at_ hlt
        have blt := World.block_lt_of_cell? _ _ hc0
        have hst := entB_step (bodies_at hf)
        have hmem := List.mem_of_getElem? hf
        have hsl := Hshort.out s.body (by rw [← Hb.out]; exact List.mem_map.2 ⟨s, hmem, rfl⟩)
        have hrs := (Hen.out.own s hmem).rd
        obtain ⟨sA, sc, body⟩ := s
        simp only at hc0 hsl hst hrs
        have hPl : P.length ≤ 1000000 := by rw [← HP.out, List.length_append] at hEl; omega
        have hN : (P ++ vput body.length ++ body) ++ entB ((bodies us).drop (j + 1)) = E := by
          rw [← HP.out, hst]
          simp
        have HN := Lib.hid hN
        obtain ⟨bl2, hm⟩ : ∃ bl2, bl2 = body.length := ⟨_, rfl⟩
        rw [← hm] at hc0 hsl hrs HN
        have Hm2 := Lib.hid hm
        have Hrs := Lib.hid hrs
        have Hc := Lib.hid (fun (W : World) (hW : Ext w1 W) => (Below.cell hW (p := ⟨b, o + j, none⟩) blt).trans hc0)
        have hc := Hc.out wr he
        clear hN hst hf hm hrs HP hc0 hmem
        go_wp2_with fail
        refine (refPut_any bl2 _ (by omega)).mono ?_
        rintro e w4 ⟨A4, c4, rfl, hown4, he4⟩
        have hv1 := vput_le (u := bl2) (by omega)
        go_wp2_with fail
        refine (cat_any _ _ _ _ _ _ P (vput bl2) _ ((hown.ext he4).rd) hown4.rd (by omega)).mono ?_
        rintro e w5 ⟨A5, c5, rfl, hown5, he5⟩
        have hE5 := (he.trans he4).trans he5
        have hL5 : (P ++ vput bl2).length = P.length + (vput bl2).length := List.length_append
        have hc5 := Hc.out w5 hE5
        go_wp2_with fail
        refine (cat_any _ _ _ _ _ _ (P ++ vput bl2) body _ (hown5.rd' hL5) (Hrs.out.ext hE5) (by omega)).mono ?_
        rintro e w6 ⟨A6, c6, rfl, hown6, he6⟩
        have hown7 := hown6.mono (base' := w1.heap.size) hE5.size
        have hE6 := hE5.trans he6
        clear hown5 hown6 hc hc5
        go_wp2_with fail
        go_roundw
        case rel => exact ⟨j + 1, _, A6, c6, by omega, by go_num, by rw [List.length_append, List.length_append, ← Hm2.out], HN.out, hown7, hE6⟩
        case measure => simp [intOf]; omega
      · obtain rfl : m = j := by omega
        have hfin := Lib.hid (show P = E by rw [← HP.out, List.drop_of_length_le (by rw [bodies_len, Hul.out]; exact Nat.le_refl _)]; simp [entB])
        have hownE := hown.rd
        rw [hfin.out] at hownE ⊢
        obtain ⟨el, hel⟩ : ∃ el, E.length = el := ⟨_, rfl⟩
        rw [hel] at hownE hEl ⊢
        have Hel := Lib.hid hel
        obtain ⟨W1, hW1⟩ : ∃ W1, W1 = wr := ⟨_, rfl⟩
        rw [← hW1] at hownE he ⊢
        clear HP hown hel hW1
        go_wp2_with fail
        go_loopw [9, 10] (fun v i wx => ∃ (q : Nat) (B' : Option Addr) (cB' : Nat), q ≤ k ∧ i = .int .i64 q ∧ v = .slice B' q cB' ∧ Hid (Own .u64 69 wx W1.heap.size B' cB' (ns.take q)) ∧ Hid (Ext W1 wx)) (fun _ i _ => k - (intOf i).toNat)
        case atStart => exact ⟨0, _, _, Nat.zero_le _, rfl, rfl, Own.made _ _ _ (Nat.le_refl _), (Ext.refl _).alloc _⟩
        case round =>
          obtain ⟨q, B', cB', hq, rfl, rfl, HO, HEx⟩ := hrel
          by_cases hlt2 : q < k
          · obtain ⟨b, o, rfl, hbb, hc⟩ := (hnr.ext (he.trans HEx.out)).at_ hlt2
            have hvs : ns[q]? = some (ns.getD q 0) := by simp [List.getD, show q < ns.length by rw [← Hk.out]; exact hlt2]
            have hv := Hns.out _ (List.mem_of_getElem? hvs)
            have htk : ns.take (q + 1) = ns.take q ++ [ns.getD q 0] := take_nextG ns q hvs
            obtain ⟨f, hfv⟩ : ∃ f, f = ns.getD q 0 := ⟨_, rfl⟩
            rw [← hfv] at hc hv htk
            have hlq : (ns.take q).length = q := by rw [List.length_take, ← Hk.out]; omega
            have Htk := Lib.hid htk
            have Hlq := Lib.hid hlq
            clear hvs hfv htk hlq
            go_wp2_with (at_builtin; refine wpList_push .u64 f 69 rfl _ _ 72 rfl _ 8 Tryz.underlying72 Tryz.infoU64 rfl HO.out q Hlq.out rfl rfl rfl (by omega) (by omega) HEx.out HEx.out.size ?_; intro A4 c4 w4 hown4 hb4 hz4)
            rw [← Htk.out] at hown4
            have HO4 := Lib.hid hown4
            have HE4 := Lib.hid (show Ext W1 w4 from hb4)
            clear hown4 hb4 hz4
            go_wp2_with fail
            go_roundw
            case rel => exact ⟨q + 1, A4, c4, by omega, by go_num, rfl, HO4.out, HE4.out⟩
            case measure => simp [intOf]; omega
          · obtain rfl : k = q := by omega
            have hO := HO.out
            rw [List.take_of_length_le (by rw [← Hk.out]; exact Nat.le_refl _)] at hO
            have hnu := hO.rd' (n := k) Hk.out.symm
            have hE9 := he.trans HEx.out
            have hownE2 := hownE.ext HEx.out
            clear hO HO
            go_wp2_with fail
            refine (refWidth10_any m _ (by omega)).mono ?_
            rintro e w5 ⟨rfl, he5⟩
            go_wp2_with fail
            refine (refPack_any _ k _ (wfor m : Int) ns _ (hnu.ext he5) HnsU.out (by omega)).mono ?_
            rintro e w6 ⟨A6, c6, rfl, hown6, he6⟩
            rw [Hp2.out] at hown6 ⊢
            rw [Hp1.out, Hpl.out]
            have hr6 := hown6.rd' Hpl.out
            clear hown6
            go_wp2_with fail
            refine (refPut_any k _ (by omega)).mono ?_
            rintro e w7 ⟨A7, c7, rfl, hown7, he7⟩
            have hv1 := vput_le (u := k) (by omega)
            go_wp2_with fail
            refine (cat_any _ _ _ _ _ _ E (vput k) _ (((hownE2.ext he5).ext he6).ext he7) hown7.rd (by omega)).mono ?_
            rintro e w8 ⟨A8, c8, rfl, hown8, he8⟩
            have hL8 : (E ++ vput k).length = el + (vput k).length := by rw [List.length_append, Hel.out]
            go_wp2_with fail
            refine (cat_any _ _ _ _ _ _ (E ++ vput k) (packB (wfor m) ns) _ (hown8.rd' hL8) ((hr6.ext he7).ext he8) (by omega)).mono ?_
            rintro e w9 ⟨A9, c9, rfl, hown9, he9⟩
            have hb9 := ((((he1.trans hE9).trans he5).trans he6).trans he7).trans he8
            have hfV : E ++ vput k ++ packB (wfor m) ns = V := by rw [Hden.out, HE0.out]; simp
            rw [hfV] at hown9
            have hfl := congrArg List.length hfV
            rw [List.length_append, hL8, Hpl.out] at hfl
            have Hfl := Lib.hid hfl.symm
            clear hfV hfl
            go_wp2_with fail
            go_ret2
            exact PEncPost.good _ HR.out Hfl.out (hown9.mono hb9.size) (hb9.trans he9)
theorem rows_ne {w : World} {base base' sz sz' n n' c c' : Nat} {e e' : TypeId} {A A' : Option Addr} {l l' : Nat} {cs cs' : List Value} (hne : e ≠ e') (h : w.ownsRow base e sz (.slice A l c) n cs) (k : w.ownsRow base' e' sz' (.slice A' l' c') n' cs') :
    ∀ a a', A = some a → A' = some a' → a'.block ≠ a.block := by
  rintro a a' rfl rfl q
  rcases h.2 with ⟨hv, _⟩ | ⟨g, cap, cur, hv, _, hh, _⟩
  · cases hv
  · injection hv with hA
    injection hA with hA
    rcases k.2 with ⟨hv', _⟩ | ⟨g', cap', cur', hv', _, hh', _⟩
    · cases hv'
    · injection hv' with hA'
      injection hA' with hA'
      subst hA hA'
      simp at q
      subst q
      rw [hh] at hh'
      injection hh' with hh'
      injection hh' with h1 h2 h3
      exact hne h2
theorem Tryz.infoZ12 : (Tryz.prog.info? 2).map (fun i => (i.zero, i.size, i.bytes)) = some (some (.int .i64 0), 1, 8) := by kernel_rfl
structure Rows3 (w wr : World) (b0 : Nat) (Av As Ao : Option Addr) (cv cs co : Nat) (vs : List Int) (ss : List Sl) (out : List Nat) : Prop where
  v : OwnG shZ 2 wr b0 Av cv vs
  s : OwnT wr b0 As cs ss
  o : Own .u8 5 wr b0 Ao co out
  e : Ext w wr
theorem slice_block (A : Option Addr) (n c : Nat) : (Value.slice A n c).ownBlock = A.map (·.block) := by cases A <;> rfl
theorem Rows3.ext {w wr w1 : World} {b0 : Nat} {Av As Ao : Option Addr} {cv cs co : Nat} {vs : List Int} {ss : List Sl} {out : List Nat} (h : Rows3 w wr b0 Av As Ao cv cs co vs ss out) (he : Ext wr w1) : Rows3 w w1 b0 Av As Ao cv cs co vs ss out :=
  ⟨h.v.ext he, OwnG.ext h.s he, h.o.ext he, h.e.trans he⟩
theorem off12 {A B : Option Addr} (h : ∀ a b, A = some a → B = some b → b.block ≠ a.block) : ∀ b, B = some b → some b.block ≠ A.map (·.block) := by
  intro b hb e
  cases hA : A with
  | none => rw [hA] at e; cases e
  | some a => rw [hA] at e; injection e with e; exact h a b hA hb e
section
variable {w wr w1 : World} {b0 : Nat} {Av As Ao : Option Addr} {cv cs co : Nat} {vs : List Int} {ss : List Sl} {out : List Nat}
theorem Rows3.pushV (h : Rows3 w wr b0 Av As Ao cv cs co vs ss out) {A' : Option Addr} {c' : Nat} {vs' : List Int} (ho : OwnG shZ 2 w1 b0 A' c' vs') (hg : wr.grownBy w1 (Av.map (·.block))) (he : Ext w w1) : Rows3 w w1 b0 A' As Ao c' cs co vs' ss out :=
  ⟨ho, OwnG.grown h.s hg (off12 (rows_ne (by decide) h.v h.s)), h.o.grown hg (off12 (rows_ne (by decide) h.v h.o)), he⟩
theorem Rows3.pushS (h : Rows3 w wr b0 Av As Ao cv cs co vs ss out) {A' : Option Addr} {c' : Nat} {ss' : List Sl} (ho : OwnT w1 b0 A' c' ss') (hg : wr.grownBy w1 (As.map (·.block))) (he : Ext w w1) : Rows3 w w1 b0 Av A' Ao cv c' co vs ss' out :=
  ⟨OwnG.grown h.v hg (off12 (rows_ne (by decide) h.s h.v)), ho, h.o.grown hg (off12 (rows_ne (by decide) h.s h.o)), he⟩
theorem Rows3.pushO (h : Rows3 w wr b0 Av As Ao cv cs co vs ss out) {A' : Option Addr} {c' : Nat} {out' : List Nat} (ho : Own .u8 5 w1 b0 A' c' out') (hg : wr.grownBy w1 (Ao.map (·.block))) (he : Ext w w1) : Rows3 w w1 b0 Av As A' cv cs c' vs ss out' :=
  ⟨OwnG.grown h.v hg (off12 (rows_ne (by decide) h.o h.v)), OwnG.grown h.s hg (off12 (rows_ne (by decide) h.o h.s)), ho, he⟩
theorem Rows3.added (h : Rows3 w wr b0 Av As Ao cv cs co vs ss out) (hb : w.heap.size ≤ b0) (hg : wr.grownBy w1 (Ao.map (·.block))) : Ext w w1 :=
  Below.grown h.e hg h.e.size (fun g hg' => by
    cases hA : Ao with
    | none => rw [hA] at hg'; cases hg'
    | some a =>
      rw [hA] at hg'
      injection hg' with hg'
      have := (h.o.block a hA).1
      have e : a.block = g := hg'
      omega)
end
theorem plain1_nul (k : Int) (x : Ci) : plainL k [x] = plain1 k x := by unfold plainL; simp
theorem plainL_app (k : Int) (a b : List Ci) : plainL k (a ++ b) = plainL k a ++ plainL k b := by unfold plainL; rw [List.map_append, List.flatten_append]
set_option maxHeartbeats 6400000 in
theorem refBody_any (k cd : Int) (A : Option Addr) (n c : Nat) (xs : List Ci) (w : World) (hx : RdX w A n xs) (hc : CapX xs) (hk : 1 ≤ k ∧ k ≤ 8) (hn : n ≤ 4096) (h200 : ∀ x ∈ xs, x.txt.length ≤ 200) :
    Calls Tryz.prog 166 #[.int .i64 k, .int .i64 cd, .slice A n c] w fun e w' => ∃ A' c', e = .returned (.slice A' (valR k cd (nn xs)).1.length c') ∧ Own .u8 5 w' w.heap.size A' c' (valR k cd (nn xs)).1 ∧ Ext w w' := by
  have Hx := Lib.hid hx
  have Hl := Lib.hid hx.1
  have Hc := Lib.hid hc
  have H2 := Lib.hid h200
  have Hnum := Lib.hid hx.nums
  obtain ⟨w0, hw0⟩ : ∃ w0, w0 = ((w.alloc (.cells #[] 2)).alloc (.cells #[] 22)).alloc (.cells #[] 5) := ⟨_, rfl⟩
  have H0 : Hid (Rows3 w w0 w.heap.size (some ⟨w.heap.size, 0, none⟩) (some ⟨w.heap.size + 1, 0, none⟩) (some ⟨w.heap.size + 2, 0, none⟩) 0 0 0 ((nn (xs.take 0)).map Ci.num) ((nn (xs.take 0)).map Ci.sb) (plainL k (nn (xs.take 0)))) := Lib.hid (by
    rw [hw0]
    refine ⟨OwnG.ext (OwnG.ext (OwnG.made shZ 2 w (Nat.le_refl _)) ((Ext.refl _).alloc _)) ((Ext.refl _).alloc _), ?_, ?_, (((Ext.refl w).alloc _).alloc _).alloc _⟩
    · have := OwnG.made (base := w.heap.size) shS 22 (w.alloc (.cells #[] 2)) (by simp)
      simp only [World.size_alloc] at this
      exact OwnG.ext this ((Ext.refl _).alloc _)
    · have := Own.made (base := w.heap.size) .u8 5 ((w.alloc (.cells #[] 2)).alloc (.cells #[] 22)) (by simp; omega)
      simp only [World.size_alloc] at this
      exact this)
  have HW0 := Lib.hid hw0
  have hk6 : (k ≤ 6) = (numK k = true) := by
    unfold numK
    rw [decide_eq_true_eq]
    exact propext ⟨fun h => ⟨hk.1, h⟩, fun h => h.2⟩
  have Hk6 := Lib.hid hk6
  clear hx hc h200 hw0 hk6
  go_enter Tryz.func166, Tryz.ntmps166
  go_wp2_with fail
  rw [← HW0.out]
  go_loopw [7, 8, 9, 10] (fun v s o i wr => ∃ (j m L : Nat) (Av As Ao : Option Addr) (cv cs co : Nat), j ≤ n ∧ m ≤ j ∧ i = .int .i64 j ∧ v = .slice Av m cv ∧ s = .slice As m cs ∧ o = .slice Ao L co ∧ Hid ((nn (xs.take j)).length = m) ∧ Hid ((plainL k (nn (xs.take j))).length = L ∧ L ≤ 210 * j) ∧ Hid (Rows3 w wr w.heap.size Av As Ao cv cs co ((nn (xs.take j)).map Ci.num) ((nn (xs.take j)).map Ci.sb) (plainL k (nn (xs.take j))))) (fun _ _ _ i _ => n - (intOf i).toNat)
  case atStart => exact ⟨0, 0, 0, _, _, _, 0, 0, 0, Nat.zero_le _, Nat.le_refl _, rfl, rfl, rfl, rfl, rfl, ⟨rfl, Nat.le_refl _⟩, H0.out⟩
  case round =>
    clear H0 HW0
    obtain ⟨j, m, L, Av, As, Ao, cv, cs, co, hj, hmj, rfl, rfl, rfl, rfl, HM, HL, HR⟩ := hrel
    by_cases hlt : j < n
    · obtain ⟨b, o, x, hA, hbl0, hxj, x0, x1, x2, xin⟩ := Hx.out.at_ hlt
      have hnt := nn_take hxj
      have hxm : x ∈ xs := List.mem_of_getElem? hxj
      have hx2 := H2.out x hxm
      subst hA
      obtain ⟨xn, xi, xA, xc, xt⟩ := x
      simp only at x0 x1 x2 hnt hx2
      have HX : Hid (∀ W, Ext w W → W.cell? ⟨b, o + j * 3, none⟩ = some (.bool xn) ∧ W.cell? ⟨b, o + j * 3 + 1, none⟩ = some (.int .i64 xi) ∧ W.cell? ⟨b, o + j * 3 + 2, none⟩ = some (.slice xA xt.length xc)) := Lib.hid (fun W hW => ⟨(hW.cells b _ hbl0).trans x0, (hW.cells b _ hbl0).trans x1, (hW.cells b _ hbl0).trans x2⟩)
      have Hxin := Lib.hid xin
      have Hnt := Lib.hid hnt
      have hE := HR.out.e
      obtain ⟨y0, y1, y2⟩ := HX.out wr hE
      clear x0 x1 x2 hnt hxj hxm xin
      cases xn with
      | true =>
        have HM1 : Hid ((nn (xs.take (j + 1))).length = m) := Lib.hid (by rw [Hnt.out]; simpa using HM.out)
        have e1 : nn (xs.take (j + 1)) = nn (xs.take j) := by rw [Hnt.out]; simp
        have HL1 : Hid ((plainL k (nn (xs.take (j + 1)))).length = L ∧ L ≤ 210 * (j + 1)) := Lib.hid (by rw [e1]; exact ⟨HL.out.1, by have := HL.out.2; omega⟩)
        have HR1 : Hid (Rows3 w wr w.heap.size Av As Ao cv cs co ((nn (xs.take (j + 1))).map Ci.num) ((nn (xs.take (j + 1))).map Ci.sb) (plainL k (nn (xs.take (j + 1))))) := Lib.hid (by rw [e1]; exact HR.out)
        clear e1
        go_wp2_with fail
        go_roundw
        case rel => exact ⟨j + 1, m, L, Av, As, Ao, cv, cs, co, by omega, by omega, by go_num, rfl, rfl, rfl, HM1.out, HL1.out, HR1.out⟩
        case measure => simp [intOf]; omega
      | false =>
        have e1 : nn (xs.take (j + 1)) = nn (xs.take j) ++ [⟨false, xi, xA, xc, xt⟩] := Hnt.out
        have He1 := Lib.hid e1
        have HMv : Hid (((nn (xs.take j)).map Ci.num).length = m) := Lib.hid (by rw [List.length_map]; exact HM.out)
        have HMs : Hid (((nn (xs.take j)).map Ci.sb).length = m) := Lib.hid (by rw [List.length_map]; exact HM.out)
        have HM1 : Hid ((nn (xs.take (j + 1))).length = m + 1) := Lib.hid (by rw [e1, List.length_append, HM.out]; rfl)
        have hsz := hE.size
        obtain ⟨xl, hxl⟩ : ∃ xl, xl = xt.length := ⟨_, rfl⟩
        rw [← hxl] at y2 hx2 HX
        have Hxl := Lib.hid hxl
        have hlo := Hxin.out.lo
        have hhi := Hxin.out.hi
        simp only at hlo hhi
        clear e1 hxl
        obtain ⟨P, hP⟩ : ∃ P, P = plain1 k ⟨false, xi, xA, xc, xt⟩ := ⟨_, rfl⟩
        obtain ⟨p, hp⟩ : ∃ p, p = P.length := ⟨_, rfl⟩
        have hp1 : p ≤ 210 := by rw [hp, hP]; exact plain1_le (k := k) hlo hhi (by rw [← Hxl.out]; exact hx2)
        have HL1 : Hid ((plainL k (nn (xs.take (j + 1)))).length = L + p ∧ L + p ≤ 210 * (j + 1)) := Lib.hid (by rw [He1.out, plainL_app, plain1_nul, ← hP, List.length_append, HL.out.1, ← hp]; exact ⟨rfl, by have := HL.out.2; omega⟩)
        have HPl : Hid (plainL k (nn (xs.take (j + 1))) = plainL k (nn (xs.take j)) ++ P) := Lib.hid (by rw [He1.out, plainL_app, plain1_nul, ← hP])
        have HVl : Hid ((nn (xs.take (j + 1))).map Ci.num = (nn (xs.take j)).map Ci.num ++ [xi]) := Lib.hid (by rw [He1.out, List.map_append]; rfl)
        have HSl : Hid ((nn (xs.take (j + 1))).map Ci.sb = (nn (xs.take j)).map Ci.sb ++ [⟨xA, xc, xt⟩]) := Lib.hid (by rw [He1.out, List.map_append]; rfl)
        have HP := Lib.hid hp
        have hL1 : L ≤ 1000000 := by have := HL.out.2; omega
        by_cases h6 : k ≤ 6
        · have hN : numK k = true := by rw [← Hk6.out]; exact h6
          have hr := fold_range (v := xi) ⟨hlo, hhi⟩
          obtain ⟨u, hu⟩ : ∃ u : Nat, (u : Int) = foldS xi := ⟨(foldS xi).toNat, by omega⟩
          have hP2 : P = vput u := by rw [hP]; unfold plain1; rw [if_pos hN]; simp only; rw [← hu, Int.toNat_natCast]
          have hFo : Hid (∀ W, Calls Tryz.prog 196 #[.int .i64 xi] W fun e w' => e = .returned (.int .u64 (u : Int)) ∧ W = w') := Lib.hid (fun W => by rw [hu]; exact refFold_any xi W hlo hhi)
          have hPu : Hid (∀ W, Calls Tryz.prog 94 #[.int .u64 (u : Int)] W fun e w' => ∃ A' c', e = .returned (.slice A' p c') ∧ Own .u8 5 w' W.heap.size A' c' P ∧ Ext W w') := Lib.hid (fun W => by
            have := refPut_any u W (by omega)
            rw [← hP2, ← HP.out] at this
            exact this)
          clear hP2 hu hr hP hp hN
          go_wp2_with (first
            | (at_builtin; refine wpList_pushG (w0 := w) shZ xi 2 rfl _ _ 115 rfl (.int .i64 0) 8 Tryz.underlying115 Tryz.infoZ12 rfl (by decide) (OwnG.ext HR.out.v ((Ext.refl _).alloc _)) m HMv.out rfl rfl (heap_alloc_new wr _) (by omega) (by omega) (hE.alloc _) (by simp; omega) ?_; intro A1 c1 w1 ho1 hg1 he1 hz1; have HR1 := Lib.hid ((HR.out.ext ((Ext.refl _).alloc (.cells #[.int .i64 xi] 2))).pushV ho1 (by rw [← slice_block Av m cv]; exact hg1) he1); obtain ⟨u0, u1, u2⟩ := HX.out w1 he1)
            | (at_builtin; refine wpList_pushT (w0 := w) ⟨xA, xc, xt⟩ rfl _ _ rfl (OwnG.ext HR1.out.s ((Ext.refl _).alloc _)) m HMs.out rfl rfl ((heap_alloc_new w1 _).trans (by rw [Hxl.out])) (by omega) (HR1.out.e.alloc _) (by have := HR1.out.e.size; simp; omega) ?_; intro A2 c2 w2 ho2 hg2 he2 hz2; have HR2 := Lib.hid ((HR1.out.ext ((Ext.refl _).alloc (.cells #[.slice xA xl xc] 22))).pushS ho2 (by rw [← slice_block As m cs]; exact hg2) he2); obtain ⟨t0, t1, t2⟩ := HX.out w2 he2)
            | fail)
          refine (hFo.out _).mono ?_
          rintro e w3 ⟨rfl, rfl⟩
          go_wp2_with fail
          refine (hPu.out _).mono ?_
          rintro e w3 ⟨A3, c3, rfl, ho3, he3⟩
          have HR3 := Lib.hid (HR2.out.ext he3)
          have Hne : Hid (∀ p q, Ao = some p → A3 = some q → p.block ≠ q.block) := Lib.hid (fun p q hp hq => by
            have a1 := (HR2.out.o.block p hp).2
            have a2 := (ho3.block q hq).1
            omega)
          go_wp2_with fail
          refine (add12_any Ao A3 L co p c3 w.heap.size _ _ _ HR3.out.o HL.out.1 (ho3.rd' HP.out.symm) (fun _ => Hne.out) HR3.out.e.size (by omega)).mono ?_
          rintro e w4 ⟨A4, c4, rfl, ho4, hg4⟩
          have HR4 := Lib.hid (HR3.out.pushO ho4 hg4 (HR3.out.added (Nat.le_refl _) hg4))
          go_wp2_with fail
          go_roundw
          case rel => exact ⟨j + 1, m + 1, L + p, A1, A2, A4, c1, c2, c4, by omega, by omega, by go_num, by go_num, by go_num, by go_num, HM1.out, HL1.out, by rw [HVl.out, HSl.out, HPl.out]; exact HR4.out⟩
          case measure => simp [intOf]; omega
        · have hN : numK k = false := by
            have : ¬ (numK k = true) := by rw [← Hk6.out]; exact h6
            exact Bool.eq_false_iff.2 this
          have h7 : 6 < k := by omega
          obtain ⟨V, hV⟩ : ∃ V, V = vput xl := ⟨_, rfl⟩
          obtain ⟨v, hv⟩ : ∃ v, v = V.length := ⟨_, rfl⟩
          have HP2 : Hid (P = V ++ xt) := Lib.hid (by rw [hP]; unfold plain1; rw [hN, if_neg (by decide)]; simp only; rw [hV, Hxl.out])
          have hpv : p = v + xl := by rw [HP.out, HP2.out, List.length_append, ← hv, ← Hxl.out]
          have hPu : Hid (∀ W, Calls Tryz.prog 94 #[.int .u64 (xl : Int)] W fun e w' => ∃ A' c', e = .returned (.slice A' v c') ∧ Own .u8 5 w' W.heap.size A' c' V ∧ Ext W w') := Lib.hid (fun W => by
            have := refPut_any xl W (by omega)
            rw [← hV, ← hv] at this
            exact this)
          have hw64 : IntKind.u64.wrap (xl : Int) = (xl : Int) := IntWalk.u64_in _ (by omega)
          have Hv := Lib.hid hv
          have Hpv := Lib.hid hpv
          have hvp : v ≤ 210 := by omega
          clear hV hv hpv hP hp hN h6
          go_wp2_with (first
            | (at_builtin; refine wpList_pushG (w0 := w) shZ xi 2 rfl _ _ 115 rfl (.int .i64 0) 8 Tryz.underlying115 Tryz.infoZ12 rfl (by decide) (OwnG.ext HR.out.v ((Ext.refl _).alloc _)) m HMv.out rfl rfl (heap_alloc_new wr _) (by omega) (by omega) (hE.alloc _) (by simp; omega) ?_; intro A1 c1 w1 ho1 hg1 he1 hz1; have HR1 := Lib.hid ((HR.out.ext ((Ext.refl _).alloc (.cells #[.int .i64 xi] 2))).pushV ho1 (by rw [← slice_block Av m cv]; exact hg1) he1); obtain ⟨u0, u1, u2⟩ := HX.out w1 he1)
            | (at_builtin; refine wpList_pushT (w0 := w) ⟨xA, xc, xt⟩ rfl _ _ rfl (OwnG.ext HR1.out.s ((Ext.refl _).alloc _)) m HMs.out rfl rfl ((heap_alloc_new w1 _).trans (by rw [Hxl.out])) (by omega) (HR1.out.e.alloc _) (by have := HR1.out.e.size; simp; omega) ?_; intro A2 c2 w2 ho2 hg2 he2 hz2; have HR2 := Lib.hid ((HR1.out.ext ((Ext.refl _).alloc (.cells #[.slice xA xl xc] 22))).pushS ho2 (by rw [← slice_block As m cs]; exact hg2) he2); obtain ⟨t0, t1, t2⟩ := HX.out w2 he2)
            | fail)
          refine (hPu.out _).mono ?_
          rintro e w3 ⟨A3, c3, rfl, ho3, he3⟩
          have HR3 := Lib.hid (HR2.out.ext he3)
          have Hne : Hid (∀ p q, Ao = some p → A3 = some q → p.block ≠ q.block) := Lib.hid (fun p q hp hq => by
            have a1 := (HR2.out.o.block p hp).2
            have a2 := (ho3.block q hq).1
            omega)
          obtain ⟨s0, s1, s2⟩ := HX.out w3 HR3.out.e
          go_wp2_with fail
          refine (add12_any Ao A3 L co v c3 w.heap.size _ _ _ HR3.out.o HL.out.1 (ho3.rd' Hv.out.symm) (fun _ => Hne.out) HR3.out.e.size (by omega)).mono ?_
          rintro e w4 ⟨A4, c4, rfl, ho4, hg4⟩
          have HR4 := Lib.hid (HR3.out.pushO ho4 hg4 (HR3.out.added (Nat.le_refl _) hg4))
          have Hxr : Hid (Rd .u8 w4 xA xl xt) := Lib.hid (by rw [Hxl.out]; exact Hxin.out.rd.ext HR4.out.e)
          have Hl4 : Hid ((plainL k (nn (xs.take j)) ++ V).length = L + v) := Lib.hid (by rw [List.length_append, HL.out.1, ← Hv.out])
          have Hn4 : Hid (0 < xl → ∀ p q, A4 = some p → xA = some q → p.block ≠ q.block) := Lib.hid (fun h0 p q hp hq => by
            have a1 := (HR4.out.o.block p hp).1
            obtain ⟨b', o', e', hb', _⟩ := Hxin.out.rd.at_ (j := 0) (by rw [← Hxl.out]; exact h0)
            simp only at e'
            rw [hq] at e'
            injection e' with e'
            rw [e']
            simp only
            omega)
          obtain ⟨r0, r1, r2⟩ := HX.out w4 HR4.out.e
          go_wp2_with fail
          refine (add12_any A4 xA (L + v) c4 xl xc w.heap.size _ _ _ HR4.out.o Hl4.out Hxr.out Hn4.out HR4.out.e.size (by omega)).mono ?_
          rintro e w5 ⟨A5, c5, rfl, ho5, hg5⟩
          have HR5 := Lib.hid (HR4.out.pushO ho5 hg5 (HR4.out.added (Nat.le_refl _) hg5))
          go_wp2_with fail
          go_roundw
          case rel => exact ⟨j + 1, m + 1, L + v + xl, A1, A2, A5, c1, c2, c5, by omega, by omega, by go_num, by go_num, by go_num, by go_num, HM1.out, (by rw [Nat.add_assoc, ← Hpv.out]; exact HL1.out), by rw [HVl.out, HSl.out, HPl.out, HP2.out, ← List.append_assoc]; exact HR5.out⟩
          case measure => simp [intOf]; omega
    · obtain rfl : j = n := by omega
      have ht : xs.take j = xs := List.take_of_length_le (Nat.le_of_eq Hl.out)
      rw [ht] at HM HL HR
      have HVr : Hid (RdG shZ wr Av m ((nn xs).map Ci.num)) := Lib.hid (HR.out.v.rd' (by rw [List.length_map]; exact HM.out))
      have H64 : Hid (R64s ((nn xs).map Ci.num)) := Lib.hid (fun v hv => by
        obtain ⟨x, hx, rfl⟩ := List.mem_map.1 hv
        exact Hnum.out _ (List.mem_map_of_mem (nn_mem hx)))
      have HTx : Hid (TxL wr As m ((nn xs).map Ci.sb)) := Lib.hid (by
        have hr := OwnG.rdL HR.out.s
        rw [List.length_map, HM.out] at hr
        refine ⟨hr, fun s hs => ?_⟩
        obtain ⟨x, hxm, rfl⟩ := List.mem_map.1 hs
        have hxm := nn_mem hxm
        obtain ⟨j', hj', e⟩ := List.getElem_of_mem hxm
        obtain ⟨b, o, y, _, _, hy, _, _, _, hin⟩ := Hx.out.at_ (j := j') (by rw [← Hl.out]; exact hj')
        rw [List.getElem?_eq_getElem hj', e] at hy
        have hy2 := Option.some.inj hy
        subst hy2
        exact ⟨hin.rd.ext HR.out.e, hin.u8, (Hc.out x hxm).1, (Hc.out x hxm).2, by have := hin.len; show x.txt.length ≤ _; omega⟩)
      have hE := HR.out.e
      clear ht hlt
      by_cases h2 : cd = 2
      · subst h2
        have HV := Lib.hid (show valR k 2 (nn xs) = encode8 ((nn xs).map Ci.num) from rfl)
        go_wp2_with fail
        refine (refEncode_any Av m cv _ wr HVr.out H64.out).mono ?_
        rintro e w2 ⟨A2, c2, rfl, ho2, he2⟩
        go_wp2_with fail
        go_ret
        rw [HV.out]
        exact ⟨A2, c2, rfl, ho2.mono hE.size, hE.trans he2⟩
      by_cases h3 : cd = 3
      · subst h3
        have HV := Lib.hid (show valR k 3 (nn xs) = encode9 ((nn xs).map Ci.num) from rfl)
        go_wp2_with fail
        refine (refPencode_any Av m cv _ wr HVr.out H64.out).mono ?_
        rintro e w2 ⟨A2, c2, rfl, ho2, he2⟩
        go_wp2_with fail
        go_ret
        rw [HV.out]
        exact ⟨A2, c2, rfl, ho2.mono hE.size, hE.trans he2⟩
      by_cases h4 : cd = 4
      · subst h4
        have HV := Lib.hid (show valR k 4 (nn xs) = dencR ((nn xs).map Ci.txt) from rfl)
        go_wp2_with fail
        refine (refDencode_any As m cs _ wr HTx.out (by omega)).mono ?_
        rintro e w2 ⟨A2, c2, rfl, ho2, he2⟩
        go_wp2_with fail
        go_ret
        rw [HV.out, ← bodies_sl]
        exact ⟨A2, c2, rfl, ho2.mono hE.size, hE.trans he2⟩
      by_cases h5 : cd = 5
      · subst h5
        have HV := Lib.hid (show valR k 5 (nn xs) = pencR ((nn xs).map Ci.txt) from rfl)
        go_wp2_with fail
        refine (refEncode11_any As m cs _ wr HTx.out (by omega)).mono ?_
        rintro e w2 ⟨A2, c2, rfl, ho2, he2⟩
        go_wp2_with fail
        go_ret
        rw [HV.out, ← bodies_sl]
        exact ⟨A2, c2, rfl, ho2.mono hE.size, hE.trans he2⟩
      have HV := Lib.hid (show valR k cd (nn xs) = (plainL k (nn xs), 0) by unfold valR; rw [if_neg h2, if_neg h3, if_neg h4, if_neg h5])
      have b2 : (cd == 2) = false := beq_eq_false_iff_ne.2 h2
      have b3 : (cd == 3) = false := beq_eq_false_iff_ne.2 h3
      have b4 : (cd == 4) = false := beq_eq_false_iff_ne.2 h4
      have b5 : (cd == 5) = false := beq_eq_false_iff_ne.2 h5
      clear h2 h3 h4 h5
      go_wp2_with fail
      go_ret
      rw [HV.out]
      exact ⟨Ao, co, by rw [HL.out.1]; rfl, HR.out.o, hE⟩
end Go.Proofs.YthibbgmicmfkfaaGreat
