/-
  Layer 11: the program's Decode.
-/
import Derived.Test.YtpdppldkebfikaaP11e
import Derived.Test.YtpdppldkebfikaaTX
namespace Go.Proofs.Ytpdppldkebfikaa
open Go.RowKit

/-- Texts while they are decoded. -/
structure DTx (w wr : World) (A : Option Addr) (c : Nat) (ts : List Sl) : Prop where
  row : OwnT wr w.heap.size A c ts
  txt : Txts wr w.heap.size ts
  ext : Ext w wr
  len : ∀ t ∈ ts, t.body.length ≤ 200
  u8 : ∀ t ∈ ts, U8 t.body

/-- One text more behind the append: the row's new state. -/
theorem DTx.snoc {w wr w1 w2 : World} {A A1 : Option Addr} {c c1 : Nat} {ts : List Sl} {s : Sl} (h : DTx w wr A c ts) (hs : Own .u8 5 w1 wr.heap.size s.A s.c s.body) (he1 : Ext wr w1) (hrow : OwnT w2 w.heap.size A1 c1 (ts ++ [s]))
    (hg : (w1.alloc (.cells #[.slice s.A s.body.length s.c] 34)).grownBy w2 (Value.slice A ts.length c).ownBlock) (hb : Below w.heap.size w w2) (hl : s.body.length ≤ 200) (hu : U8 s.body) : DTx w w2 A1 c1 (ts ++ [s]) := by
  have hX : Ext w1 (w1.alloc (.cells #[.slice s.A s.body.length s.c] 34)) := (Ext.refl _).alloc _
  have h2 : Txts w1 w.heap.size (ts ++ [s]) := (h.txt.ext he1).snoc hs h.ext.size (fun t ht p hp => h.txt.lt t ht p hp)
  refine ⟨hrow, (h2.ext hX).grown ((h.row.ext he1).ext hX) hg, hb, ?_, ?_⟩
  · intro t ht
    rcases List.mem_append.1 ht with h1 | h1
    · exact h.len t h1
    · simp at h1; subst h1; exact hl
  · intro t ht
    rcases List.mem_append.1 ht with h1 | h1
    · exact h.u8 t h1
    · simp at h1; subst h1; exact hu

set_option maxHeartbeats 1600000 in
set_option maxRecDepth 100000 in
theorem pdecode11_any (A : Option Addr) (n c : Nat) (bs : List Nat) (w : World) (hx : Rd .u8 w A n bs) (hu : U8 bs) (hn : n ≤ 140737488355328) (hcap : n ≤ c) (hcm : c ≤ 9223372036854775807) :
    Calls Try.prog 31 #[.slice A n c] w (TxtsPost (pdec bs) w) := by
  have hbl := hx.len
  rcases g1 : vget bs 0 with ⟨k, n1, e1⟩
  have G1 := Lib.hid (get_is hx hu hn hcap hcm g1)
  by_cases z1 : e1 = 0
  · subst z1
    obtain ⟨a1, a2, a3, a4, _⟩ := vget_at hu g1
    rw [hbl] at a3
    obtain ⟨m1, rfl⟩ := Int.eq_ofNat_of_zero_le (show 0 ≤ n1 by omega)
    by_cases hk : 4096 < k
    · have HR := Lib.hid (pdec_long g1 hk)
      clear hx hu hbl g1 a1 a2 a3
      go_enter Try.func31, Try.ntmps31
      go_wp2_with fail
      refine G1.out.mono ?_
      rintro e w1 ⟨rfl, rfl⟩
      go_wp2_with fail
      go_ret2
      exact TxtsPost.bad _ HR.out (Ext.refl _)
    · have hk2 : k ≤ 4096 := by omega
      obtain ⟨R, hR⟩ : ∃ R, R = pdec bs := ⟨_, rfl⟩
      have HR := Lib.hid (show pdA bs (k - 0) (m1 : Int) (bodies []) = R by rw [hR, pdec_go g1 hk2]; rfl)
      rw [← hR]
      have Hbl := Lib.hid hbl
      have Hx := Lib.hid hx
      have Hu := Lib.hid hu
      clear hR g1 hbl hx hu a1 a2
      have hm1 : m1 ≤ n := by omega
      go_enter Try.func31, Try.ntmps31
      go_wp2_with fail
      refine G1.out.mono ?_
      rintro e w1 ⟨rfl, rfl⟩
      go_wp2_with fail
      go_loopw [5, 7, 8, 9, 10, 11, 12, 26] (fun at_ v _ _ _ _ _ i wr => ∃ (j a : Nat) (ts : List Sl) (A' : Option Addr) (c' : Nat), j ≤ k ∧ i = .int .i64 j ∧ a ≤ n ∧ at_ = .int .i64 a ∧ v = .slice A' j c' ∧ Hid (ts.length = j) ∧ Hid (pdA bs (k - j) a (bodies ts) = R) ∧ Hid (DTx w1 wr A' c' ts)) (fun _ _ _ _ _ _ _ i _ => k - (intOf i).toNat)
      case atStart => exact ⟨0, m1, [], none, 0, Nat.zero_le _, rfl, hm1, rfl, rfl, rfl, HR.out, ⟨OwnG.nil .., Txts.nil .., Ext.refl _, fun t ht => (by cases ht), fun t ht => (by cases ht)⟩⟩
      case round =>
        clear HR
        obtain ⟨j, a, ts, A', c', hj, rfl, ha, rfl, rfl, Hl, HR, HD⟩ := hrel
        by_cases hlt : j < k
        · obtain ⟨q, hq⟩ : ∃ q, k - j = q + 1 := ⟨k - j - 1, by omega⟩

          have Hq2 := Lib.hid (show k - (j + 1) = q by omega)
          have Hq := Lib.hid hq
          clear hq
          have hua : U8 (ahead (bodies ts)) := ahead_u8 (fun s hs => by
            obtain ⟨t, ht, rfl⟩ := List.mem_map.1 hs
            exact HD.out.u8 t ht)
          have Hua := Lib.hid hua
          have hbt : (bodies ts).length = j := by rw [bodies_len, Hl.out]
          rcases hg : ptx bs a (ahead (bodies ts)) with ⟨s, m, e⟩
          have Hg := Lib.hid hg
          clear hua
          by_cases hw16 : j % 16 = 0
          · have hd : decide (j % 16 = 0) = true := decide_eq_true hw16
            have hah : ahead (bodies ts) = [] := ahead_whole (by rw [hbt]; exact hw16)
            have HG := Lib.hid (fun W (hW : Ext wr W) => pgetText_any A n c a none 0 0 bs [] W ((Hx.out.ext HD.out.ext).ext hW) Hu.out hn hcap hcm (Rd.nil ..) (by omega) (by omega))
            rw [← hah, hg] at HG
            clear hg hah hbt
            go_wp2_with fail
            refine (isWhole_any j _ (by omega)).mono ?_
            rintro e' w2 ⟨rfl, rfl⟩
            rw [hd]
            go_wp2_with fail
            refine (HG.out _ (Ext.refl _)).mono ?_
            rintro e' w3 ⟨A3, c3, rfl, hown3, he3⟩
            by_cases he0 : e = 0
            · subst he0
              obtain ⟨b1, b2, b3, b4, b5, _⟩ := ptx_ok Hu.out Hua.out Hg.out
              rw [Hbl.out] at b3
              obtain ⟨m', rfl⟩ := Int.eq_ofNat_of_zero_le (show 0 ≤ m by omega)
              have HN := Lib.hid (show pdA bs (k - (j + 1)) (m' : Int) (bodies (ts ++ [⟨A3, c3, s⟩])) = R by
                rw [Hq2.out, ← HR.out, Hq.out, pdA_next Hg.out]; unfold bodies; rw [List.map_append]; rfl)
              have Hb4 := Lib.hid b4
              have Hb5 := Lib.hid b5
              have hm' : m' ≤ n := by omega
              clear b1 b2 b3 b4 b5
              go_wp2_with (at_builtin; refine wpList_pushT (w0 := w1) ⟨A3, c3, s⟩ rfl _ _ rfl ((HD.out.row.ext he3).ext ((Ext.refl _).alloc _)) (j) Hl.out rfl rfl (heap_alloc_new _ _) (by omega) (Ext.trans (HD.out.ext.trans he3) ((Ext.refl _).alloc _)) (by have := (HD.out.ext.trans he3).size; simp; omega) ?_; intro A4 c4 w4 hown4 hg4 hb4 hz4)
              rw [← Hl.out] at hg4
              have HD4 := Lib.hid (HD.out.snoc (s := ⟨A3, c3, s⟩) hown3 he3 hown4 hg4 hb4 Hb4.out Hb5.out)
              clear hg4 hown4
              go_wp2_with fail
              go_roundw
              case rel => exact ⟨j + 1, m', _, A4, c4, by omega, by go_num, hm', rfl, by go_num, by rw [List.length_append, Hl.out]; rfl, HN.out, HD4.out⟩
              case measure => simp [intOf]; omega
            · have hb1 : (e != 0) = true := by rw [bne_iff_ne]; exact he0
              have HE := Lib.hid (show R = ([], e) by rw [← HR.out, Hq.out, pdA_err Hg.out he0])
              have He := Lib.hid (HD.out.ext.trans he3)
              go_wp2_with fail
              go_ret2
              exact TxtsPost.bad _ HE.out He.out
          · have hd : decide (j % 16 = 0) = false := decide_eq_false hw16
            obtain ⟨p, rfl⟩ : ∃ p, j = p + 1 := ⟨j - 1, by omega⟩
            obtain ⟨b, o, t, rfl, hf, hc⟩ := HD.out.row.rdL.at_ (j := p) (by rw [Hl.out]; omega)
            have hmt := List.mem_of_getElem? hf
            have hah : ahead (bodies ts) = t.body := by rw [ahead_not (by rw [hbt]; exact hw16), hbt, Nat.add_sub_cancel, bodies_get hf]
            have HG := Lib.hid (fun W (hW : Ext wr W) => pgetText_any A n c a t.A t.body.length t.c bs t.body W ((Hx.out.ext HD.out.ext).ext hW) Hu.out hn hcap hcm ((HD.out.txt.rd t hmt).ext hW) (HD.out.len t hmt) (HD.out.txt.own t hmt).cap.1)
            rw [← hah, hg] at HG
            obtain ⟨tA, tc, tb⟩ := t
            simp only at hc HG hah
            rw [hah] at HG
            clear hg hah hbt hf hmt
            obtain ⟨tl, htl⟩ : ∃ tl, tl = tb.length := ⟨_, rfl⟩
            rw [← htl] at hc HG
            clear htl
            go_wp2_with fail
            refine (isWhole_any (p + 1) _ (by omega)).mono ?_
            rintro e' w2 ⟨rfl, rfl⟩
            rw [hd]
            go_wp2_with fail
            refine (HG.out _ (Ext.refl _)).mono ?_
            rintro e' w3 ⟨A3, c3, rfl, hown3, he3⟩
            by_cases he0 : e = 0
            · subst he0
              obtain ⟨b1, b2, b3, b4, b5, _⟩ := ptx_ok Hu.out Hua.out Hg.out
              rw [Hbl.out] at b3
              obtain ⟨m', rfl⟩ := Int.eq_ofNat_of_zero_le (show 0 ≤ m by omega)
              have HN := Lib.hid (show pdA bs (k - (p + 1 + 1)) (m' : Int) (bodies (ts ++ [⟨A3, c3, s⟩])) = R by
                rw [Hq2.out, ← HR.out, Hq.out, pdA_next Hg.out]; unfold bodies; rw [List.map_append]; rfl)
              have Hb4 := Lib.hid b4
              have Hb5 := Lib.hid b5
              have hm' : m' ≤ n := by omega
              clear b1 b2 b3 b4 b5
              go_wp2_with (at_builtin; refine wpList_pushT (w0 := w1) ⟨A3, c3, s⟩ rfl _ _ rfl ((HD.out.row.ext he3).ext ((Ext.refl _).alloc _)) (p + 1) Hl.out rfl rfl (heap_alloc_new _ _) (by omega) (Ext.trans (HD.out.ext.trans he3) ((Ext.refl _).alloc _)) (by have := (HD.out.ext.trans he3).size; simp; omega) ?_; intro A4 c4 w4 hown4 hg4 hb4 hz4)
              rw [← Hl.out] at hg4
              have HD4 := Lib.hid (HD.out.snoc (s := ⟨A3, c3, s⟩) hown3 he3 hown4 hg4 hb4 Hb4.out Hb5.out)
              clear hg4 hown4
              go_wp2_with fail
              go_roundw
              case rel => exact ⟨p + 1 + 1, m', _, A4, c4, by omega, by go_num, hm', rfl, by go_num, by rw [List.length_append, Hl.out]; rfl, HN.out, HD4.out⟩
              case measure => simp [intOf]; omega
            · have hb1 : (e != 0) = true := by rw [bne_iff_ne]; exact he0
              have HE := Lib.hid (show R = ([], e) by rw [← HR.out, Hq.out, pdA_err Hg.out he0])
              have He := Lib.hid (HD.out.ext.trans he3)
              go_wp2_with fail
              go_ret2
              exact TxtsPost.bad _ HE.out He.out
        · obtain rfl : j = k := by omega
          have hR := HR.out
          rw [Nat.sub_self] at hR
          by_cases hat : a < n
          · have HR := Lib.hid (show R = ([], 3) by rw [← hR, pdA_trail (by rw [Hbl.out]; omega)])
            have He := Lib.hid HD.out.ext
            clear hR
            go_wp2_with fail
            go_ret2
            exact TxtsPost.bad _ HR.out He.out
          · have HR := Lib.hid (show R = (bodies ts, 0) by rw [← hR, pdA_end (by rw [Hbl.out]; omega)])
            clear hR
            go_wp2_with fail
            go_ret2
            exact TxtsPost.good _ HR.out Hl.out HD.out.row HD.out.txt HD.out.ext
  · have HR := Lib.hid (pdec_err g1 z1)
    have hb1 : (e1 != 0) = true := by rw [bne_iff_ne]; exact z1
    clear hx hu hbl g1
    go_enter Try.func31, Try.ntmps31
    go_wp2_with fail
    refine G1.out.mono ?_
    rintro e w1 ⟨rfl, rfl⟩
    go_wp2_with fail
    go_ret2
    exact TxtsPost.bad _ HR.out (Ext.refl _)

end Go.Proofs.Ytpdppldkebfikaa
