import Derived.Test.YthibbgmicmfkfaaGreatGW6
import Derived.Shelf.SlIter.Nil
import Derived.Shelf.SortM.Plain
import Derived.Shelf.SortM.SortNone
import Derived.Ground.GgzProg
import Derived.Ground.SlgmProg
import Derived.Test.YthibbgmicmfkfaaGreatProg
import Derived.Maps.Own
import Derived.Maps.OwnOps
import Derived.Lib.ConvBytes
import Derived.StringKeys
namespace Go.Proofs
open Go.Shelf
def Tryz.keys205_ren : Go.Shelf.Ren := ⟨fun | 7 => 205 | 10 => 216 | n => n, fun | 23 => 222 | 26 => 9 | 3 => 3 | 28 => 226 | 0 => 0 | 27 => 225 | 33 => 241 | 4 => 4 | n => n, fun | n => n⟩
theorem Tryz.keys205 : Go.Proofs.SlLaysZ.n7 Tryz.prog Tryz.keys205_ren := {
 mixed := by kernel_rfl
 f7 := ⟨Tryz.f205.name, by decide, Tryz.func205.trans (congrArg some (by kernel_rfl))⟩
 f10 := ⟨Tryz.f216.name, by decide, Tryz.func216.trans (congrArg some (by kernel_rfl))⟩
 t0 := Tryz.underlying0
 a0 := Tryz.isAgg0
 z0 := Tryz.sizeOf0
 v0 := Tryz.zeroValue0
 t4 := Tryz.underlying4
 a4 := Tryz.isAgg4
 z4 := Tryz.sizeOf4
 v4 := Tryz.zeroValue4
 t23 := Tryz.underlying222
 a23 := Tryz.isAgg222
 z23 := Tryz.sizeOf222
 v23 := Tryz.zeroValue222
 t26 := Tryz.underlying9
 a26 := Tryz.isAgg9
 z26 := Tryz.sizeOf9
 v26 := Tryz.zeroValue9
 t27 := Tryz.underlying225
 a27 := Tryz.isAgg225
 z27 := Tryz.sizeOf225
 v27 := Tryz.zeroValue225
 t28 := Tryz.underlying226
 a28 := Tryz.isAgg226
 z28 := Tryz.sizeOf226
 v28 := Tryz.zeroValue226
 t33 := Tryz.underlying241
 a33 := Tryz.isAgg241
 z33 := Tryz.sizeOf241
 v33 := Tryz.zeroValue241 }
def Tryz.sorted204_ren : Go.Shelf.Ren := ⟨fun | 6 => 204 | 8 => 214 | 9 => 215 | 11 => 221 | 13 => 223 | 12 => 222 | 23 => 233 | 24 => 201 | 14 => 224 | 15 => 225 | 16 => 226 | 17 => 227 | 18 => 228 | 19 => 229 | 20 => 230 | 21 => 231 | 22 => 232 | 25 => 234 | 26 => 235 | 27 => 236 | 28 => 237 | 29 => 238 | 30 => 239 | 31 => 240 | n => n, fun | 26 => 9 | 28 => 226 | 24 => 223 | 0 => 0 | 3 => 3 | 37 => 129 | 48 => 57 | 50 => 69 | 4 => 4 | 40 => 250 | 39 => 249 | 45 => 255 | 5 => 5 | 9 => 9 | 51 => 258 | 55 => 262 | 57 => 264 | 58 => 265 | 33 => 241 | n => n, fun | n => n⟩
theorem Tryz.sorted204 : Go.Proofs.SlLaysZ.n6 Tryz.prog Tryz.sorted204_ren := {
 mixed := by kernel_rfl
 f6 := ⟨Tryz.f204.name, by decide, Tryz.func204.trans (congrArg some (by kernel_rfl))⟩
 f8 := ⟨Tryz.f214.name, by decide, Tryz.func214.trans (congrArg some (by kernel_rfl))⟩
 f11 := ⟨Tryz.f221.name, by decide, Tryz.func221.trans (congrArg some (by kernel_rfl))⟩
 t0 := Tryz.underlying0
 a0 := Tryz.isAgg0
 z0 := Tryz.sizeOf0
 v0 := Tryz.zeroValue0
 t24 := Tryz.underlying223
 a24 := Tryz.isAgg223
 z24 := Tryz.sizeOf223
 v24 := Tryz.zeroValue223
 t26 := Tryz.underlying9
 a26 := Tryz.isAgg9
 z26 := Tryz.sizeOf9
 v26 := Tryz.zeroValue9
 t28 := Tryz.underlying226
 a28 := Tryz.isAgg226
 z28 := Tryz.sizeOf226
 v28 := Tryz.zeroValue226
 i26 := by kernel_rfl }
def Tryz.sort215_ren : Go.Shelf.Ren := ⟨fun | 6 => 215 | 8 => 223 | 9 => 222 | 19 => 233 | 20 => 201 | 21 => 224 | 22 => 225 | 23 => 226 | 24 => 227 | 25 => 228 | 26 => 229 | 27 => 230 | 28 => 231 | 29 => 232 | 36 => 234 | 31 => 235 | 32 => 236 | 37 => 237 | 38 => 238 | 39 => 239 | 41 => 240 | n => n, fun | 27 => 223 | 29 => 9 | 3 => 3 | 32 => 129 | 26 => 223 | 0 => 0 | 44 => 57 | 46 => 69 | 4 => 4 | 36 => 250 | 35 => 249 | 41 => 255 | 5 => 5 | 9 => 9 | 53 => 258 | 57 => 262 | 63 => 264 | 64 => 265 | n => n, fun | n => n⟩
theorem Tryz.sort215 : Go.Proofs.SlLaysM.n6 Tryz.prog Tryz.sort215_ren := {
 mixed := by kernel_rfl
 f6 := ⟨Tryz.f215.name, by decide, Tryz.func215.trans (congrArg some (by kernel_rfl))⟩
 f8 := Tryz.func223.trans (congrArg some (by kernel_rfl))
 f9 := ⟨Tryz.f222.name, by decide, Tryz.func222.trans (congrArg some (by kernel_rfl))⟩
 f19 := Tryz.func233.trans (congrArg some (by kernel_rfl))
 f20 := Tryz.func201.trans (congrArg some (by kernel_rfl))
 f21 := ⟨Tryz.f224.name, by decide, Tryz.func224.trans (congrArg some (by kernel_rfl))⟩
 f22 := ⟨Tryz.f225.name, by decide, Tryz.func225.trans (congrArg some (by kernel_rfl))⟩
 f23 := ⟨Tryz.f226.name, by decide, Tryz.func226.trans (congrArg some (by kernel_rfl))⟩
 f24 := ⟨Tryz.f227.name, by decide, Tryz.func227.trans (congrArg some (by kernel_rfl))⟩
 f25 := ⟨Tryz.f228.name, by decide, Tryz.func228.trans (congrArg some (by kernel_rfl))⟩
 f26 := ⟨Tryz.f229.name, by decide, Tryz.func229.trans (congrArg some (by kernel_rfl))⟩
 f27 := ⟨Tryz.f230.name, by decide, Tryz.func230.trans (congrArg some (by kernel_rfl))⟩
 f28 := ⟨Tryz.f231.name, by decide, Tryz.func231.trans (congrArg some (by kernel_rfl))⟩
 f29 := ⟨Tryz.f232.name, by decide, Tryz.func232.trans (congrArg some (by kernel_rfl))⟩
 f31 := Tryz.func235.trans (congrArg some (by kernel_rfl))
 f32 := Tryz.func236.trans (congrArg some (by kernel_rfl))
 f36 := ⟨Tryz.f234.name, by decide, Tryz.func234.trans (congrArg some (by kernel_rfl))⟩
 f37 := ⟨Tryz.f237.name, by decide, Tryz.func237.trans (congrArg some (by kernel_rfl))⟩
 f38 := ⟨Tryz.f238.name, by decide, Tryz.func238.trans (congrArg some (by kernel_rfl))⟩
 f39 := ⟨Tryz.f239.name, by decide, Tryz.func239.trans (congrArg some (by kernel_rfl))⟩
 f41 := ⟨Tryz.f240.name, by decide, Tryz.func240.trans (congrArg some (by kernel_rfl))⟩
 t0 := Tryz.underlying0
 a0 := Tryz.isAgg0
 z0 := Tryz.sizeOf0
 v0 := Tryz.zeroValue0
 t3 := Tryz.underlying3
 a3 := Tryz.isAgg3
 z3 := Tryz.sizeOf3
 v3 := Tryz.zeroValue3
 t4 := Tryz.underlying4
 a4 := Tryz.isAgg4
 z4 := Tryz.sizeOf4
 v4 := Tryz.zeroValue4
 t5 := Tryz.underlying5
 a5 := Tryz.isAgg5
 z5 := Tryz.sizeOf5
 v5 := Tryz.zeroValue5
 t9 := Tryz.underlying9
 a9 := Tryz.isAgg9
 z9 := Tryz.sizeOf9
 v9 := Tryz.zeroValue9
 t26 := Tryz.underlying223
 a26 := Tryz.isAgg223
 z26 := Tryz.sizeOf223
 v26 := Tryz.zeroValue223
 t27 := Tryz.underlying223
 a27 := Tryz.isAgg223
 z27 := Tryz.sizeOf223
 v27 := Tryz.zeroValue223
 t29 := Tryz.underlying9
 a29 := Tryz.isAgg9
 z29 := Tryz.sizeOf9
 v29 := Tryz.zeroValue9
 t32 := Tryz.underlying129
 a32 := Tryz.isAgg129
 z32 := Tryz.sizeOf129
 v32 := Tryz.zeroValue129
 t35 := Tryz.underlying249
 a35 := Tryz.isAgg249
 z35 := Tryz.sizeOf249
 v35 := Tryz.zeroValue249
 t36 := Tryz.underlying250
 a36 := Tryz.isAgg250
 z36 := Tryz.sizeOf250
 v36 := Tryz.zeroValue250
 t41 := Tryz.underlying255
 a41 := Tryz.isAgg255
 z41 := Tryz.sizeOf255
 v41 := Tryz.zeroValue255
 t44 := Tryz.underlying57
 a44 := Tryz.isAgg57
 z44 := Tryz.sizeOf57
 v44 := Tryz.zeroValue57
 t46 := Tryz.underlying69
 a46 := Tryz.isAgg69
 z46 := Tryz.sizeOf69
 v46 := Tryz.zeroValue69
 t53 := Tryz.underlying258
 a53 := Tryz.isAgg258
 z53 := Tryz.sizeOf258
 v53 := Tryz.zeroValue258
 t57 := Tryz.underlying262
 a57 := Tryz.isAgg262
 z57 := Tryz.sizeOf262
 v57 := Tryz.zeroValue262
 t63 := Tryz.underlying264
 a63 := Tryz.isAgg264
 z63 := Tryz.sizeOf264
 v63 := Tryz.zeroValue264
 t64 := Tryz.underlying265
 a64 := Tryz.isAgg265
 z64 := Tryz.sizeOf265
 v64 := Tryz.zeroValue265 }
end Go.Proofs
namespace Go.Proofs.YthibbgmicmfkfaaGreat
theorem ordT_self : ∀ a : List Nat, ordT a a = 0
 | [] => rfl
 | x :: r => by rw [ordT, if_neg (Nat.lt_irrefl _), if_neg (Nat.lt_irrefl _)]; exact ordT_self r
theorem ordT_zero : ∀ {a b : List Nat}, ordT a b = 0 → a = b
 | [], [], _ => rfl
 | [], _ :: _, h => by rw [ordT] at h; exact absurd h (by decide)
 | _ :: _, [], h => by rw [ordT] at h; exact absurd h (by decide)
 | x :: r, y :: s, h => by
   rw [ordT] at h
   split at h
   · exact absurd h (by decide)
   · split at h
     · exact absurd h (by decide)
     · rw [ordT_zero h, show x = y by omega]
theorem ordT_swap : ∀ a b : List Nat, ordT b a = - ordT a b
 | [], [] => rfl
 | [], _ :: _ => rfl
 | _ :: _, [] => rfl
 | x :: r, y :: s => by
   rw [ordT, ordT]
   rcases Nat.lt_trichotomy x y with h | h | h
   · rw [if_neg (by omega), if_pos h, if_pos h]; rfl
   · subst h; rw [if_neg (Nat.lt_irrefl _), if_neg (Nat.lt_irrefl _), if_neg (Nat.lt_irrefl _), if_neg (Nat.lt_irrefl _)]; exact ordT_swap r s
   · rw [if_pos h, if_neg (by omega), if_pos h]
theorem ordT_trans : ∀ {a b c : List Nat}, ordT a b < 0 → ordT b c < 0 → ordT a c < 0
 | [], [], _, h, _ => by rw [ordT] at h; exact absurd h (by decide)
 | [], _ :: _, [], _, h => by rw [ordT] at h; exact absurd h (by decide)
 | [], _ :: _, _ :: _, _, _ => by rw [ordT]; decide
 | _ :: _, [], _, h, _ => by rw [ordT] at h; exact absurd h (by decide)
 | _ :: _, _ :: _, [], _, h => by rw [ordT] at h; exact absurd h (by decide)
 | x :: r, y :: s, z :: t, h1, h2 => by
   rw [ordT] at h1 h2 ⊢
   rcases Nat.lt_trichotomy x y with h | h | h
   · rcases Nat.lt_trichotomy y z with k | k | k
     · rw [if_pos (by omega)]; decide
     · rw [if_pos (by omega)]; decide
     · rw [if_neg (by omega), if_pos k] at h2; exact absurd h2 (by decide)
   · rw [if_neg (by omega), if_neg (by omega)] at h1
     rcases Nat.lt_trichotomy y z with k | k | k
     · rw [if_pos (by omega)]; decide
     · rw [if_neg (by omega), if_neg (by omega)] at h2
       rw [if_neg (by omega), if_neg (by omega)]
       exact ordT_trans h1 h2
     · rw [if_neg (by omega), if_pos k] at h2; exact absurd h2 (by decide)
   · rw [if_neg (by omega), if_pos h] at h1; exact absurd h1 (by decide)
def Asc (L : List (List Nat)) : Prop := L.Pairwise fun a b => ordT a b < 0
theorem skN_le (t : List Nat) : ∀ L : List (List Nat), skN t L ≤ L.length
 | [] => Nat.le_refl _
 | s :: r => by
   have := skN_le t r
   unfold skN
   split <;> simp <;> omega
theorem skN_lt {t : List Nat} : ∀ {L : List (List Nat)} {i : Nat} {x : List Nat}, i < skN t L → L[i]? = some x → ordT x t < 0
 | [], i, x, h, _ => by simp [skN] at h
 | s :: r, i, x, h, hx => by
   unfold skN at h
   split at h
   · rename_i hs
     cases i with
     | zero => simp at hx; subst hx; exact hs
     | succ i => exact skN_lt (L := r) (i := i) (by omega) (by simpa using hx)
   · omega
theorem skN_ge {t : List Nat} : ∀ {L : List (List Nat)} {i : Nat} {x : List Nat}, Asc L → skN t L ≤ i → L[i]? = some x → 0 ≤ ordT x t
 | [], i, x, _, _, hx => by simp at hx
 | s :: r, i, x, ha, h, hx => by
   obtain ⟨h1, h2⟩ := List.pairwise_cons.1 ha
   unfold skN at h
   split at h
   · cases i with
     | zero => omega
     | succ i => exact skN_ge (L := r) (i := i) h2 (by omega) (by simpa using hx)
   · rename_i hs
     cases i with
     | zero => simp at hx; subst hx; omega
     | succ i =>
       have hm : x ∈ r := List.mem_of_getElem? (by simpa using hx)
       have h3 := h1 x hm
       rcases Int.lt_or_le (ordT x t) 0 with h4 | h4
       · exact absurd (ordT_trans h3 h4) (by omega)
       · exact h4
theorem skN_at {t : List Nat} {L : List (List Nat)} (ha : Asc L) (ht : t ∈ L) : L[skN t L]? = some t := by
 obtain ⟨i, hi⟩ := List.getElem?_of_mem ht
 have hil : i < L.length := (List.getElem?_eq_some_iff.1 hi).1
 rcases Nat.lt_trichotomy i (skN t L) with h | h | h
 · have := skN_lt h hi
   rw [ordT_self] at this
   omega
 · rw [← h]; exact hi
 · obtain ⟨x, hx⟩ : ∃ x, L[skN t L]? = some x := ⟨_, List.getElem?_eq_getElem (by omega)⟩
   have h1 := skN_ge ha (Nat.le_refl _) hx
   have h2 : ordT x t < 0 := by
     obtain ⟨q1, rfl⟩ := List.getElem?_eq_some_iff.1 hx
     obtain ⟨q2, rfl⟩ := List.getElem?_eq_some_iff.1 hi
     exact List.pairwise_iff_getElem.1 ha _ _ q1 q2 h
   omega
theorem skN_notMem {t : List Nat} {L : List (List Nat)} (h : L[skN t L]? ≠ some t) (ha : Asc L) : ¬ t ∈ L := fun ht => h (skN_at ha ht)
def insL (L : List (List Nat)) (t : List Nat) : List (List Nat) := if L[skN t L]? = some t then L else L.take (skN t L) ++ t :: L.drop (skN t L)
theorem insL_yes {L : List (List Nat)} {t : List Nat} (h : L[skN t L]? = some t) : insL L t = L := if_pos h
theorem insL_no {L : List (List Nat)} {t : List Nat} (h : ¬ L[skN t L]? = some t) : insL L t = L.take (skN t L) ++ t :: L.drop (skN t L) := if_neg h
theorem insL_mem {L : List (List Nat)} {t x : List Nat} : x ∈ insL L t ↔ x ∈ L ∨ x = t := by
 by_cases h : L[skN t L]? = some t
 · rw [insL_yes h]
   constructor
   · exact .inl
   · rintro (h1 | rfl)
     · exact h1
     · exact List.mem_of_getElem? h
 · rw [insL_no h]
   have e : x ∈ L ↔ x ∈ L.take (skN t L) ∨ x ∈ L.drop (skN t L) := by
     rw [← List.mem_append, List.take_append_drop]
   simp only [List.mem_append, List.mem_cons, e]
   constructor
   · rintro (h1 | h1 | h1)
     · exact .inl (.inl h1)
     · exact .inr h1
     · exact .inl (.inr h1)
   · rintro ((h1 | h1) | h1)
     · exact .inl h1
     · exact .inr (.inr h1)
     · exact .inr (.inl h1)
theorem insL_asc {L : List (List Nat)} {t : List Nat} (ha : Asc L) : Asc (insL L t) := by
 by_cases h : L[skN t L]? = some t
 · rw [insL_yes h]; exact ha
 · rw [insL_no h]
   have hp : Asc (L.take (skN t L) ++ L.drop (skN t L)) := by rw [List.take_append_drop]; exact ha
   obtain ⟨h1, h2, h3⟩ := List.pairwise_append.1 hp
   have hlt : ∀ x ∈ L.take (skN t L), ordT x t < 0 := by
     intro x hx
     obtain ⟨i, hi⟩ := List.getElem?_of_mem hx
     rw [List.getElem?_take] at hi
     split at hi
     · rename_i hi2; exact skN_lt hi2 hi
     · cases hi
   have hgt : ∀ x ∈ L.drop (skN t L), ordT t x < 0 := by
     intro x hx
     obtain ⟨i, hi⟩ := List.getElem?_of_mem hx
     rw [List.getElem?_drop] at hi
     have h4 := skN_ge ha (Nat.le_add_right _ _) hi
     have h5 : ordT x t ≠ 0 := by
       intro e
       obtain rfl := ordT_zero e
       exact skN_notMem h ha (List.mem_of_getElem? hi)
     rw [ordT_swap x t]
     omega
   refine List.pairwise_append.2 ⟨h1, List.pairwise_cons.2 ⟨hgt, h2⟩, ?_⟩
   intro x hx y hy
   rcases List.mem_cons.1 hy with rfl | hy
   · exact hlt x hx
   · exact h3 x hx y hy
def dents (ss : List (List Nat)) : List (List Nat) := ss.foldl insL []
theorem dents_snoc (ss : List (List Nat)) (t : List Nat) : dents (ss ++ [t]) = insL (dents ss) t := by simp [dents, List.foldl_append]
theorem dents_step {ss : List (List Nat)} {j : Nat} {t : List Nat} (h : ss[j]? = some t) : dents (ss.take (j + 1)) = insL (dents (ss.take j)) t := by
 obtain ⟨h1, rfl⟩ := List.getElem?_eq_some_iff.1 h
 rw [List.take_succ_eq_append_getElem h1, dents_snoc]
theorem foldl_ins : ∀ (ss L : List (List Nat)), Asc L → Asc (ss.foldl insL L) ∧ ∀ x, x ∈ ss.foldl insL L ↔ x ∈ L ∨ x ∈ ss
 | [], L, h => ⟨h, fun x => by simp⟩
 | t :: r, L, h => by
   obtain ⟨h1, h2⟩ := foldl_ins r (insL L t) (insL_asc h)
   refine ⟨h1, fun x => ?_⟩
   rw [List.foldl_cons, h2, insL_mem, List.mem_cons]
   constructor
   · rintro ((h | h) | h)
     · exact .inl h
     · exact .inr (.inl h)
     · exact .inr (.inr h)
   · rintro (h | h | h)
     · exact .inl (.inl h)
     · exact .inl (.inr h)
     · exact .inr h
theorem dents_asc (ss : List (List Nat)) : Asc (dents ss) := (foldl_ins ss [] List.Pairwise.nil).1
theorem dents_mem {ss : List (List Nat)} {x : List Nat} : x ∈ dents ss ↔ x ∈ ss := by rw [dents, (foldl_ins ss [] List.Pairwise.nil).2 x]; simp
theorem insL_len (L : List (List Nat)) (t : List Nat) : (insL L t).length ≤ L.length + 1 := by
 by_cases h : L[skN t L]? = some t
 · rw [insL_yes h]; omega
 · rw [insL_no h]; simp; omega
theorem dents_len : ∀ (n : Nat) (ss : List (List Nat)), ss.length = n → (dents ss).length ≤ n
 | 0, ss, h => by rw [List.eq_nil_of_length_eq_zero h]; simp [dents]
 | n + 1, ss, h => by
   have hl : n < ss.length := by omega
   have h1 := dents_len n (ss.take n) (by simp; omega)
   have h2 := insL_len (dents (ss.take n)) ss[n]
   rw [← dents_step (List.getElem?_eq_getElem hl), List.take_of_length_le (by omega)] at h2
   omega
theorem Asc.ext : ∀ {L M : List (List Nat)}, Asc L → Asc M → (∀ x, x ∈ L ↔ x ∈ M) → L = M
 | [], [], _, _, _ => rfl
 | [], y :: s, _, _, h => absurd ((h y).2 (by simp)) (by simp)
 | x :: r, [], _, _, h => absurd ((h x).1 (by simp)) (by simp)
 | x :: r, y :: s, h1, h2, h => by
   obtain ⟨a1, a2⟩ := List.pairwise_cons.1 h1
   obtain ⟨b1, b2⟩ := List.pairwise_cons.1 h2
   have hself : ∀ z : List Nat, ¬ ordT z z < 0 := fun z => by rw [ordT_self]; omega
   have e : x = y := by
     rcases List.mem_cons.1 ((h x).1 (by simp)) with e | hx
     · exact e
     · rcases List.mem_cons.1 ((h y).2 (by simp)) with e | hy
       · exact e.symm
       · exact absurd (ordT_trans (a1 y hy) (b1 x hx)) (hself x)
   subst e
   congr 1
   refine Asc.ext a2 b2 fun z => ⟨fun hz => ?_, fun hz => ?_⟩
   · rcases List.mem_cons.1 ((h z).1 (List.mem_cons_of_mem _ hz)) with e | hz2
     · subst e; exact absurd (a1 z hz) (hself z)
     · exact hz2
   · rcases List.mem_cons.1 ((h z).2 (List.mem_cons_of_mem _ hz)) with e | hz2
     · subst e; exact absurd (b1 z hz) (hself z)
     · exact hz2
theorem anyLong_snoc {ss : List (List Nat)} {t : List Nat} (h : anyLong ss = false) (ht : t.length ≤ 200) : anyLong (ss ++ [t]) = false := by
 have h2 : anyLong [t] = false := by simp [anyLong]; omega
 unfold anyLong at h h2 ⊢
 rw [List.any_append, h, h2]; rfl
theorem dents_short {ss : List (List Nat)} (h : anyLong ss = false) : ∀ x ∈ dents ss, x.length ≤ 200 := fun x hx => anyLong_no h x (dents_mem.1 hx)
def idxR (ss : List (List Nat)) : List (List Nat) × List Nat × Int := if 4096 < ss.length ∨ anyLong ss = true then ([], [], 4) else (dents ss, ss.map (fun s => skN s (dents ss)), 0)
theorem idxR_bad {ss : List (List Nat)} (h : 4096 < ss.length ∨ anyLong ss = true) : idxR ss = ([], [], 4) := if_pos h
theorem idxR_good {ss : List (List Nat)} (h : ss.length ≤ 4096) (h2 : anyLong ss = false) : idxR ss = (dents ss, ss.map (fun s => skN s (dents ss)), 0) := if_neg (fun q => by
 rcases q with q | q
 · omega
 · rw [h2] at q; cases q)
open Go.RowKit
set_option maxRecDepth 100000
set_option maxHeartbeats 800000 in
theorem order_any (A A2 : Option Addr) (n c n2 c2 : Nat) (xs ys : List Nat) (w : World) (hx : Rd .u8 w A n xs) (hy : Rd .u8 w A2 n2 ys) (hn : n ≤ 140737488355328) (hn2 : n2 ≤ 140737488355328) :
   Calls Tryz.prog 32 #[.slice A n c, .slice A2 n2 c2] w fun e w' => e = .returned (.int .i64 (ordT xs ys)) ∧ ∃ q, w' = w.drewN q := by
 have hl := hx.len
 have hl2 := hy.len
 obtain ⟨R, hR⟩ : ∃ R, R = ordT xs ys := ⟨_, rfl⟩
 rw [← hR]
 have HR := Lib.hid hR
 have Hl := Lib.hid hl
 have Hl2 := Lib.hid hl2
 clear hR hl hl2
 go_enter Tryz.func32, Tryz.ntmps32
 go_wp2
 go_loopw [5] (fun i wr => ∃ j q : Nat, j ≤ n ∧ j ≤ n2 ∧ i = .int .i64 j ∧ wr = w.drewN q ∧ Hid (R = ordT (xs.drop j) (ys.drop j))) (fun i _ => n - (intOf i).toNat)
 case atStart => exact ⟨0, 0, Nat.zero_le _, Nat.zero_le _, rfl, rfl, HR.out⟩
 case round =>
   obtain ⟨j, q, hj, hj2, rfl, hw, Hj⟩ := hrel
   subst hw
   by_cases hlt : j < n ∧ j < n2
   · obtain ⟨hlt1, hlt2⟩ := hlt
     obtain ⟨b, o, rfl, hbl, hc⟩ := hx.at_ hlt1
     obtain ⟨b', o', rfl, hbl', hc'⟩ := hy.at_ hlt2
     have hd1 := drop_cons (bs := xs) (k := j) (by have := Hl.out; omega)
     have hd2 := drop_cons (bs := ys) (k := j) (by have := Hl2.out; omega)
     obtain ⟨u, hu⟩ : ∃ u, u = xs.getD j 0 := ⟨_, rfl⟩
     obtain ⟨v, hv⟩ : ∃ v, v = ys.getD j 0 := ⟨_, rfl⟩
     rw [← hu] at hc hd1
     rw [← hv] at hc' hd2
     have Hd1 := Lib.hid hd1
     have Hd2 := Lib.hid hd2
     clear hu hv hd1 hd2
     have hji : (j : Int) < (n : Int) := by omega
     have hji2 : (j : Int) < (n2 : Int) := by omega
     by_cases h1 : u < v
     · have HE := Lib.hid (show R = -1 by rw [Hj.out, Hd1.out, Hd2.out, ordT_lt h1])
       have d1 : decide (u < v) = true := decide_eq_true h1
       have d1' : decide ((u : Int) < (v : Int)) = true := decide_eq_true (by omega)
       clear h1
       go_wp2_with fail
       go_quiet (fail)
       go_wp2
       go_ret
       exact ⟨by rw [HE.out]; rfl, _, World.drewN_drewN ..⟩
     · by_cases h2 : v < u
       · have HE := Lib.hid (show R = 1 by rw [Hj.out, Hd1.out, Hd2.out, ordT_gt h2])
         have d1 : decide (u < v) = false := decide_eq_false h1
         have d1' : decide ((u : Int) < (v : Int)) = false := decide_eq_false (by omega)
         have d2 : decide (v < u) = true := decide_eq_true h2
         have d2' : decide ((v : Int) < (u : Int)) = true := decide_eq_true (by omega)
         clear h1 h2
         go_wp2_with fail
         go_quiet (fail)
         go_wp2_with fail
         go_quiet (fail)
         go_wp2
         go_ret
         exact ⟨by rw [HE.out]; rfl, _, drew3 ..⟩
       · have HN := Lib.hid (show R = ordT (xs.drop (j + 1)) (ys.drop (j + 1)) by rw [Hj.out, Hd1.out, Hd2.out, ordT_eq (by omega)])
         have d1 : decide (u < v) = false := decide_eq_false h1
         have d1' : decide ((u : Int) < (v : Int)) = false := decide_eq_false (by omega)
         have d2 : decide (v < u) = false := decide_eq_false h2
         have d2' : decide ((v : Int) < (u : Int)) = false := decide_eq_false (by omega)
         clear h1 h2
         go_wp2_with fail
         go_quiet (fail)
         go_wp2_with fail
         go_quiet (fail)
         go_wp2
         go_roundw
         case rel => exact ⟨j + 1, _, by omega, by omega, by go_num, rfl, HN.out⟩
         case measure => simp [intOf]; omega
   · have HE := Lib.hid (show R = if n < n2 then -1 else if n2 < n then 1 else 0 by
       rw [Hj.out, ordT_end (by have := Hl.out; have := Hl2.out; omega) (by have := Hl.out; omega) (by have := Hl2.out; omega), Hl.out, Hl2.out])
     have h3 : ¬ (j : Int) < (n : Int) ∨ ¬ (j : Int) < (n2 : Int) := by omega
     clear hlt
     rcases Nat.lt_trichotomy n n2 with h4 | h4 | h4
     · have e3 := HE.out
       rw [if_pos h4] at e3
       have He3 := Lib.hid e3
       obtain rfl : j = n := by omega
       clear HE e3 h3
       go_wp2
       go_ret
       exact ⟨by rw [He3.out]; rfl, _, rfl⟩
     · subst h4
       obtain rfl : j = n := by omega
       have e3 := HE.out
       rw [if_neg (by omega), if_neg (by omega)] at e3
       have He3 := Lib.hid e3
       clear HE e3 h3
       go_wp2
       go_ret
       exact ⟨by rw [He3.out]; rfl, _, rfl⟩
     · have e3 := HE.out
       rw [if_neg (by omega), if_pos h4] at e3
       have He3 := Lib.hid e3
       obtain rfl : j = n2 := by omega
       clear HE e3 h3
       go_wp2
       go_ret
       exact ⟨by rw [He3.out]; rfl, _, rfl⟩
set_option maxHeartbeats 400000 in
theorem place10_any (A : Option Addr) (n c : Nat) (ts : List Sl) (A2 : Option Addr) (n2 c2 : Nat) (t : List Nat) (w : World) (hx : RdL w A n ts) (hn : n ≤ 1000000) (hs : ∀ s ∈ ts, Rd .u8 w s.A s.body.length s.body ∧ s.body.length ≤ 140737488355328) (ha : Asc (bodies ts))
   (hy : Rd .u8 w A2 n2 t) (hn2 : n2 ≤ 140737488355328) :
   Calls Tryz.prog 220 #[.slice A n c, .slice A2 n2 c2] w fun e w' => e = .returned (.int .i64 (skN t (bodies ts))) ∧ ∃ q, w' = w.drewN q := by
 have Hl := Lib.hid hx.1
 have hk := skN_le t (bodies ts)
 rw [bodies_len, Hl.out] at hk
 obtain ⟨k, hkk⟩ : ∃ k, k = skN t (bodies ts) := ⟨_, rfl⟩
 rw [← hkk] at hk ⊢
 have Hk := Lib.hid hkk
 have Ha := Lib.hid ha
 have Hs := Lib.hid hs
 have Hy := Lib.hid hy
 clear hkk ha hs hy
 go_enter Tryz.func220, Tryz.ntmps220
 go_wp2
 go_loopw [5, 6, 7] (fun lo hi _ wr => ∃ a b q : Nat, a ≤ k ∧ k ≤ b ∧ b ≤ n ∧ lo = .int .i64 a ∧ hi = .int .i64 b ∧ wr = w.drewN q) (fun lo hi _ _ => (intOf hi).toNat - (intOf lo).toNat)
 case atStart => exact ⟨0, n, 0, Nat.zero_le _, hk, Nat.le_refl _, rfl, rfl, rfl⟩
 case round =>
   obtain ⟨a, b, q, ha, hb, hbn, rfl, rfl, rfl⟩ := hrel
   by_cases hlt : a < b
   · obtain ⟨m, hm⟩ : ∃ m, m = (a + b) / 2 := ⟨_, rfl⟩
     have hma : a ≤ m := by omega
     have hmb : m < b := by omega
     have hmi : ((a : Int) + (b : Int)) / 2 = (m : Int) := by omega
     have hmt : Int.tdiv ((a : Int) + (b : Int)) 2 = (m : Int) := by rw [Int.tdiv_eq_ediv_of_nonneg (by omega)]; exact hmi
     obtain ⟨bb, o, s, rfl, hf, hc⟩ := hx.at_ (j := m) (by omega)
     have hsb := bodies_at hf
     obtain ⟨hrs, hls⟩ := Hs.out s (List.mem_of_getElem? hf)
     have h1 : m < k → ordT s.body t < 0 := fun h => skN_lt (by rw [← Hk.out]; exact h) hsb
     have h2 : k ≤ m → 0 ≤ ordT s.body t := fun h => skN_ge Ha.out (by rw [← Hk.out]; exact h) hsb
     have HC := Lib.hid (fun (W : World) (hW : Ext w W) => order_any s.A A2 s.body.length s.c n2 c2 s.body t W (hrs.ext hW) (Hy.out.ext hW) hls hn2)
     obtain ⟨sA, sc, body⟩ := s
     simp only at hc h1 h2 HC
     clear hf hsb hrs hls
     obtain ⟨bl, hbl⟩ : ∃ bl, bl = body.length := ⟨_, rfl⟩
     rw [← hbl] at hc HC
     clear hbl
     obtain ⟨r, hr⟩ : ∃ r, r = ordT body t := ⟨_, rfl⟩
     rw [← hr] at HC h1 h2
     clear hr hm
     by_cases hneg : r < 0
     · have d : decide (r < 0) = true := decide_eq_true hneg
       have hmk : m < k := by
         rcases Nat.lt_or_ge m k with h | h
         · exact h
         · have := h2 h; omega
       clear h1 h2
       go_wp2_with fail
       refine (HC.out _ (Ext.of_drewN _ q)).mono ?_
       rintro e w2 ⟨rfl, q2, rfl⟩
       go_wp2_with fail
       go_roundw
       case rel => exact ⟨m + 1, b, _, by omega, hb, hbn, by go_num, rfl, by first | rfl | exact World.drewN_drewN .. | fail⟩
       case measure => simp [intOf]; omega
     · have d : decide (r < 0) = false := decide_eq_false hneg
       have hmk : k ≤ m := by
         rcases Nat.lt_or_ge m k with h | h
         · exact absurd (h1 h) hneg
         · exact h
       clear h1 h2
       go_wp2_with fail
       refine (HC.out _ (Ext.of_drewN _ q)).mono ?_
       rintro e w2 ⟨rfl, q2, rfl⟩
       go_wp2_with fail
       go_roundw
       case rel => exact ⟨a, m, _, ha, hmk, by omega, rfl, rfl, by first | rfl | exact World.drewN_drewN .. | fail⟩
       case measure => simp [intOf]; omega
   · obtain rfl : a = k := by omega
     obtain rfl : b = a := by omega
     go_wp2
     go_ret
     exact ⟨rfl, q, rfl⟩
structure Ents (w : World) (base : Nat) (A : Option Addr) (n : Nat) (us : List Sl) : Prop where
 rd : RdL w A n us
 own : ∀ s ∈ us, Own .u8 5 w base s.A s.c s.body
 row : ∀ q, A = some q → base ≤ q.block
theorem Ents.ext {w w' : World} {base n : Nat} {A : Option Addr} {us : List Sl} (h : Ents w base A n us) (he : Ext w w') : Ents w' base A n us := ⟨h.rd.ext he, fun s hs => (h.own s hs).ext he, h.row⟩
set_option maxHeartbeats 1600000 in
theorem with_any (A : Option Addr) (n c base : Nat) (ts : List Sl) (A2 : Option Addr) (n2 c2 : Nat) (t : List Nat) (w : World) (hx : Ents w base A n ts) (hb : base ≤ w.heap.size) (hn : n ≤ 4096) (hs : ∀ x ∈ bodies ts, x.length ≤ 200) (ha : Asc (bodies ts))
   (hy : Rd .u8 w A2 n2 t) (hn2 : n2 ≤ 200) :
   Calls Tryz.prog 219 #[.slice A n c, .slice A2 n2 c2] w fun e w' => ∃ A' c' us, e = .returned (.slice A' us.length c') ∧ bodies us = insL (bodies ts) t ∧ Ents w' base A' us.length us ∧ Ext w w' := by
 have Hl := Lib.hid hx.rd.1
 have hk := skN_le t (bodies ts)
 rw [bodies_len, Hl.out] at hk
 have hsr : ∀ s ∈ ts, Rd .u8 w s.A s.body.length s.body ∧ s.body.length ≤ 140737488355328 := fun s hm => ⟨(hx.own s hm).rd, by have := hs s.body (List.mem_map.2 ⟨s, hm, rfl⟩); omega⟩
 have HPl := Lib.hid (place10_any A n c ts A2 n2 c2 t w hx.rd (by omega) hsr ha hy (by omega))
 obtain ⟨k, hkk⟩ : ∃ k, k = skN t (bodies ts) := ⟨_, rfl⟩
 have hyes : (bodies ts)[k]? = some t → insL (bodies ts) t = bodies ts := fun h => insL_yes (by rw [← hkk]; exact h)
 have hno : ¬ (bodies ts)[k]? = some t → insL (bodies ts) t = (bodies ts).take k ++ t :: (bodies ts).drop k := fun h => by rw [insL_no (by rw [← hkk]; exact h), ← hkk]
 rw [← hkk] at hk HPl
 obtain ⟨R, hR⟩ : ∃ R, R = insL (bodies ts) t := ⟨_, rfl⟩
 rw [← hR] at hyes hno ⊢
 have Hsr := Lib.hid hsr
 have Hy := Lib.hid hy
 have Hx := Lib.hid hx
 clear hkk hs ha hsr hR hx hy
 by_cases hlt : k < n
 · obtain ⟨b, o, s, rfl, hf, hc⟩ := Hx.out.rd.at_ hlt
   have hsb := bodies_at hf
   obtain ⟨hrs, hls⟩ := Hsr.out s (List.mem_of_getElem? hf)
   have HC := Lib.hid (fun (W : World) (hW : Ext w W) => same_any s.A A2 s.body.length s.c n2 c2 s.body t W (hrs.ext hW) (Hy.out.ext hW) (by omega) (by omega))
   obtain ⟨sA, sc, body⟩ := s
   simp only at hc hls HC hsb
   obtain ⟨bl, hbl⟩ : ∃ bl, bl = body.length := ⟨_, rfl⟩
   rw [← hbl] at hc HC
   clear hbl hls hrs
   by_cases heq : body = t
   · have hbs := hyes (by rw [hsb, heq])
     have hd : decide (body = t) = true := decide_eq_true heq
     rw [hd] at HC
     have Hbs := Lib.hid hbs
     clear hyes hno hbs hd heq hsb hf
     go_enter Tryz.func219, Tryz.ntmps219
     go_wp2_with fail
     refine HPl.out.mono ?_
     rintro e w1 ⟨rfl, q1, rfl⟩
     go_wp2_with fail
     refine (HC.out _ (Ext.of_drewN _ _)).mono ?_
     rintro e w2 ⟨rfl, q2, rfl⟩
     go_wp2_with fail
     go_ret
     exact ⟨some ⟨b, o, none⟩, c, ts, by rw [Hl.out]; rfl, Hbs.out.symm, by rw [Hl.out]; exact Hx.out.ext (Ext.of_drewN _ _), Ext.of_drewN _ _⟩
   · have hbs := hno (by rw [hsb]; intro h; injection h with h; exact heq h)
     have hd : decide (body = t) = false := decide_eq_false heq
     rw [hd] at HC
     have Hbs := Lib.hid hbs
     clear hyes hno hbs hd heq hsb hf
     go_enter Tryz.func219, Tryz.ntmps219
     go_wp2_with fail
     refine HPl.out.mono ?_
     rintro e w1 ⟨rfl, q1, rfl⟩
     go_wp2_with fail
     refine (HC.out _ (Ext.of_drewN _ _)).mono ?_
     rintro e w2 ⟨rfl, q2, rfl⟩
     have hE0 : Ext w ((w.drewN q1).drewN q2) := (Ext.of_drewN _ _).drewN _
     obtain ⟨W0, hW0⟩ : ∃ W0, W0 = (w.drewN q1).drewN q2 := ⟨_, rfl⟩
     rw [← hW0] at hE0 ⊢
     have Hy2 := Lib.hid (Hy.out.ext hE0)
     have Hx2 := Lib.hid (Hx.out.ext hE0)
     have hbW : base ≤ W0.heap.size := Nat.le_trans hb hE0.size
     clear hW0 HC
     go_wp2_with fail
     go_loopw [6, 7] (fun v i wr => ∃ (j : Nat) (A' : Option Addr) (c' : Nat), j ≤ k ∧ i = .int .i64 j ∧ v = .slice A' j c' ∧ Hid (OwnT wr W0.heap.size A' c' (ts.take j)) ∧ Hid (Ext W0 wr)) (fun _ i _ => k - (intOf i).toNat)
     case atStart => exact ⟨0, _, _, Nat.zero_le _, rfl, rfl, OwnG.made _ _ _ (Nat.le_refl _), (Ext.refl _).alloc _⟩
     case round =>
       obtain ⟨j, A', c', hj, rfl, rfl, HO, HE⟩ := hrel
       by_cases hjk : j < k
       · obtain ⟨b2, o2, s2, e2, hf2, hc2⟩ := (Hx2.out.rd.ext HE.out).at_ (j := j) (by omega)
         injection e2 with e2; injection e2 with e2a e2b; subst e2a e2b
         have htl : (ts.take j).length = j := by rw [List.length_take, Hl.out]; omega
         have hnx := take_nextG ts j hf2
         obtain ⟨sA2, sc2, body2⟩ := s2
         simp only at hc2 hnx
         have Htl := Lib.hid htl
         have Hnx := Lib.hid hnx
         obtain ⟨bl2, hbl2⟩ : ∃ bl2, bl2 = body2.length := ⟨_, rfl⟩
         rw [← hbl2] at hc2
         have Hbl2 := Lib.hid hbl2
         clear hf2 htl hnx hbl2
         go_wp2_with (at_builtin; refine wpList_pushT (w0 := W0) ⟨sA2, sc2, body2⟩ rfl _ _ rfl (HO.out.ext ((Ext.refl _).alloc _)) j Htl.out rfl rfl ((heap_alloc_new _ _).trans (by rw [Hbl2.out])) (by omega) (Ext.trans HE.out ((Ext.refl _).alloc _)) (by have := HE.out.size; simp; omega) ?_; intro A4 c4 w4 hown4 _ hb4 _)
         rw [← Hnx.out] at hown4
         have Hown4 := Lib.hid hown4
         have Hb4 := Lib.hid hb4
         clear hown4 hb4
         go_wp2_with fail
         go_roundw
         case rel => exact ⟨j + 1, A4, c4, by omega, by go_num, rfl, Hown4.out, Hb4.out⟩
         case measure => simp [intOf]; omega
       · obtain rfl : j = k := by omega
         go_wp2_with fail
         refine (copy_any _ _ _ _ _ (Hy2.out.ext HE.out) (by omega)).mono ?_
         rintro e w5 ⟨A5, c5, rfl, hown5, he5⟩
         have htl : (ts.take j).length = j := by rw [List.length_take, Hl.out]; omega
         have hyl := Hy.out.len
         have Htl := Lib.hid htl
         have Hyl := Lib.hid hyl
         clear htl hyl
         go_wp2_with (at_builtin; refine wpList_pushT (w0 := W0) ⟨A5, c5, t⟩ rfl _ _ rfl ((HO.out.ext he5).ext ((Ext.refl _).alloc _)) j Htl.out rfl rfl ((heap_alloc_new _ _).trans (by rw [Hyl.out])) (by omega) (Ext.trans (HE.out.trans he5) ((Ext.refl _).alloc _)) (by have := (HE.out.trans he5).size; simp; omega) ?_; intro A6 c6 w6 hown6 hg6 hb6 _)
         have hcop : Own .u8 5 w6 W0.heap.size A5 c5 t := (((hown5.mono HE.out.size).ext ((Ext.refl _).alloc _)).grown hg6 (by
           have := own_neT ((HO.out.ext he5).ext ((Ext.refl w5).alloc (.cells #[.slice A5 n2 c5] 22))) (hown5.ext ((Ext.refl w5).alloc (.cells #[.slice A5 n2 c5] 22)))
           rw [Htl.out] at this
           exact this))
         have Hown6 := Lib.hid hown6
         have Hcop := Lib.hid hcop
         have Hb6 := Lib.hid hb6
         have h60 : OwnT w6 W0.heap.size A6 c6 (ts.take j ++ (⟨A5, c5, t⟩ : Sl) :: (ts.drop j).take 0) := hown6
         have H60 := Lib.hid h60
         clear hown5 hown6 hcop hb6 hg6 h60
         go_wp2_with fail
         go_loopw [6, 8] (fun v i wr => ∃ (q : Nat) (A' : Option Addr) (c' : Nat), j ≤ q ∧ q ≤ n ∧ i = .int .i64 q ∧ v = .slice A' (q + 1 : Nat) c' ∧ Hid (OwnT wr W0.heap.size A' c' (ts.take j ++ (⟨A5, c5, t⟩ : Sl) :: (ts.drop j).take (q - j))) ∧ Hid (Own .u8 5 wr W0.heap.size A5 c5 t) ∧ Hid (Ext W0 wr)) (fun _ i _ => n - (intOf i).toNat)
         case atStart => exact ⟨j, A6, c6, Nat.le_refl _, by omega, rfl, rfl, by rw [Nat.sub_self]; exact H60.out, Hcop.out, Hb6.out⟩
         case round =>
           clear H60 Hown6 Hcop Hb6 HO HE
           obtain ⟨q, A', c', hjq, hqn, rfl, rfl, HO, HC2, HE⟩ := hrel
           by_cases hqn2 : q < n
           · obtain ⟨b2, o2, s2, e2, hf2, hc2⟩ := (Hx2.out.rd.ext HE.out).at_ (j := q) (by omega)
             injection e2 with e2; injection e2 with e2a e2b; subst e2a e2b
             have htl : (ts.take j ++ (⟨A5, c5, t⟩ : Sl) :: (ts.drop j).take (q - j)).length = q + 1 := by rw [List.length_append, List.length_cons, List.length_take, List.length_take, List.length_drop, Hl.out]; omega
             have hnx : ts.take j ++ (⟨A5, c5, t⟩ : Sl) :: (ts.drop j).take (q + 1 - j) = (ts.take j ++ (⟨A5, c5, t⟩ : Sl) :: (ts.drop j).take (q - j)) ++ [s2] := by
               rw [show q + 1 - j = (q - j) + 1 by omega, take_nextG (ts.drop j) (q - j) (x := s2) (by rw [List.getElem?_drop, ← hf2]; congr 1; omega)]
               simp
             obtain ⟨sA2, sc2, body2⟩ := s2
             simp only at hc2 hnx
             have Htl2 := Lib.hid htl
             have Hnx := Lib.hid hnx
             obtain ⟨bl2, hbl2⟩ : ∃ bl2, bl2 = body2.length := ⟨_, rfl⟩
             rw [← hbl2] at hc2
             have Hbl2 := Lib.hid hbl2
             clear hf2 htl hnx hbl2
             go_wp2_with (at_builtin; refine wpList_pushT (w0 := W0) ⟨sA2, sc2, body2⟩ rfl _ _ rfl (HO.out.ext ((Ext.refl _).alloc _)) (q + 1) Htl2.out rfl rfl ((heap_alloc_new _ _).trans (by rw [Hbl2.out])) (by omega) (Ext.trans HE.out ((Ext.refl _).alloc _)) (by have := HE.out.size; simp; omega) ?_; intro A4 c4 w4 hown4 hg4 hb4 _)
             rw [← Hnx.out] at hown4
             have hcop : Own .u8 5 w4 W0.heap.size A5 c5 t := (HC2.out.ext ((Ext.refl _).alloc _)).grown hg4 (by
               have := own_neT (HO.out.ext ((Ext.refl wr).alloc (.cells #[.slice sA2 bl2 sc2] 22))) (HC2.out.ext ((Ext.refl wr).alloc (.cells #[.slice sA2 bl2 sc2] 22)))
               rw [Htl2.out] at this
               exact this)
             have Hown4 := Lib.hid hown4
             have Hcop := Lib.hid hcop
             have Hb4 := Lib.hid hb4
             clear hown4 hb4 hg4 hcop
             go_wp2_with fail
             go_roundw
             case rel => exact ⟨q + 1, A4, c4, by omega, by omega, by go_num, by go_num, Hown4.out, Hcop.out, Hb4.out⟩
             case measure => simp [intOf]; omega
           · obtain rfl : n = q := by omega
             have hO := HO.out
             rw [List.take_of_length_le (show (ts.drop j).length ≤ n - j by rw [List.length_drop, Hl.out]; exact Nat.le_refl _)] at hO
             have hlen : (ts.take j ++ (⟨A5, c5, t⟩ : Sl) :: ts.drop j).length = n + 1 := by rw [List.length_append, List.length_cons, List.length_take, List.length_drop, Hl.out]; omega
             have HOf := Lib.hid hO
             have Hlen := Lib.hid hlen
             clear hO hlen
             go_wp2_with fail
             go_ret
             refine ⟨A', c', ts.take j ++ (⟨A5, c5, t⟩ : Sl) :: ts.drop j, by rw [Hlen.out]; rfl, ?_, ⟨HOf.out.rdL, ?_, fun z hz => Nat.le_trans hbW (HOf.out.block z hz).1⟩, hE0.trans HE.out⟩
             · rw [Hbs.out]
               unfold bodies
               rw [List.map_append, List.map_cons, List.map_take, List.map_drop]
             · intro z hz
               rcases List.mem_append.1 hz with h | h
               · exact (Hx2.out.own z (List.mem_of_mem_take h)).ext HE.out
               · rcases List.mem_cons.1 h with rfl | h
                 · exact HC2.out.mono hbW
                 · exact (Hx2.out.own z (List.mem_of_mem_drop h)).ext HE.out
 · obtain rfl : k = n := by omega
   have hbs := hno (by rw [List.getElem?_eq_none (by rw [bodies_len, Hl.out]; exact Nat.le_refl _)]; intro h; cases h)
   have Hbs := Lib.hid hbs
   clear hyes hno hbs
   go_enter Tryz.func219, Tryz.ntmps219
   go_wp2_with fail
   refine HPl.out.mono ?_
   rintro e w1 ⟨rfl, q1, rfl⟩
   have hE0 : Ext w (w.drewN q1) := Ext.of_drewN _ _
   obtain ⟨W0, hW0⟩ : ∃ W0, W0 = w.drewN q1 := ⟨_, rfl⟩
   rw [← hW0] at hE0 ⊢
   have Hy2 := Lib.hid (Hy.out.ext hE0)
   have Hx2 := Lib.hid (Hx.out.ext hE0)
   have hbW : base ≤ W0.heap.size := Nat.le_trans hb hE0.size
   clear hW0
   go_wp2_with fail
   go_loopw [6, 7] (fun v i wr => ∃ (j : Nat) (A' : Option Addr) (c' : Nat), j ≤ k ∧ i = .int .i64 j ∧ v = .slice A' j c' ∧ Hid (OwnT wr W0.heap.size A' c' (ts.take j)) ∧ Hid (Ext W0 wr)) (fun _ i _ => k - (intOf i).toNat)
   case atStart => exact ⟨0, _, _, Nat.zero_le _, rfl, rfl, OwnG.made _ _ _ (Nat.le_refl _), (Ext.refl _).alloc _⟩
   case round =>
     obtain ⟨j, A', c', hj, rfl, rfl, HO, HE⟩ := hrel
     by_cases hjk : j < k
     · obtain ⟨b2, o2, s2, e2, hf2, hc2⟩ := (Hx2.out.rd.ext HE.out).at_ (j := j) (by omega)
       subst e2
       have htl : (ts.take j).length = j := by rw [List.length_take, Hl.out]; omega
       have hnx := take_nextG ts j hf2
       obtain ⟨sA2, sc2, body2⟩ := s2
       simp only at hc2 hnx
       have Htl := Lib.hid htl
       have Hnx := Lib.hid hnx
       obtain ⟨bl2, hbl2⟩ : ∃ bl2, bl2 = body2.length := ⟨_, rfl⟩
       rw [← hbl2] at hc2
       have Hbl2 := Lib.hid hbl2
       clear hf2 htl hnx hbl2
       go_wp2_with (at_builtin; refine wpList_pushT (w0 := W0) ⟨sA2, sc2, body2⟩ rfl _ _ rfl (HO.out.ext ((Ext.refl _).alloc _)) j Htl.out rfl rfl ((heap_alloc_new _ _).trans (by rw [Hbl2.out])) (by omega) (Ext.trans HE.out ((Ext.refl _).alloc _)) (by have := HE.out.size; simp; omega) ?_; intro A4 c4 w4 hown4 _ hb4 _)
       rw [← Hnx.out] at hown4
       have Hown4 := Lib.hid hown4
       have Hb4 := Lib.hid hb4
       clear hown4 hb4
       go_wp2_with fail
       go_roundw
       case rel => exact ⟨j + 1, A4, c4, by omega, by go_num, rfl, Hown4.out, Hb4.out⟩
       case measure => simp [intOf]; omega
     · obtain rfl : k = j := by omega
       go_wp2_with fail
       refine (copy_any _ _ _ _ _ (Hy2.out.ext HE.out) (by omega)).mono ?_
       rintro e w5 ⟨A5, c5, rfl, hown5, he5⟩
       have htl : (ts.take k).length = k := by rw [List.length_take, Hl.out]; omega
       have hyl := Hy.out.len
       have Htl := Lib.hid htl
       have Hyl := Lib.hid hyl
       clear htl hyl
       go_wp2_with (at_builtin; refine wpList_pushT (w0 := W0) ⟨A5, c5, t⟩ rfl _ _ rfl ((HO.out.ext he5).ext ((Ext.refl _).alloc _)) k Htl.out rfl rfl ((heap_alloc_new _ _).trans (by rw [Hyl.out])) (by omega) (Ext.trans (HE.out.trans he5) ((Ext.refl _).alloc _)) (by have := (HE.out.trans he5).size; simp; omega) ?_; intro A6 c6 w6 hown6 hg6 hb6 _)
       have hcop : Own .u8 5 w6 W0.heap.size A5 c5 t := (((hown5.mono HE.out.size).ext ((Ext.refl _).alloc _)).grown hg6 (by
         have := own_neT ((HO.out.ext he5).ext ((Ext.refl w5).alloc (.cells #[.slice A5 n2 c5] 22))) (hown5.ext ((Ext.refl w5).alloc (.cells #[.slice A5 n2 c5] 22)))
         rw [Htl.out] at this
         exact this))
       have Hown6 := Lib.hid hown6
       have Hcop := Lib.hid hcop
       have Hb6 := Lib.hid hb6
       have h60 : OwnT w6 W0.heap.size A6 c6 (ts.take k ++ (⟨A5, c5, t⟩ : Sl) :: (ts.drop k).take 0) := hown6
       have H60 := Lib.hid h60
       clear hown5 hown6 hcop hb6 hg6 h60
       go_wp2_with fail
       go_loopw [6, 8] (fun v i wr => ∃ (q : Nat) (A' : Option Addr) (c' : Nat), k ≤ q ∧ q ≤ k ∧ i = .int .i64 q ∧ v = .slice A' (q + 1 : Nat) c' ∧ Hid (OwnT wr W0.heap.size A' c' (ts.take k ++ (⟨A5, c5, t⟩ : Sl) :: (ts.drop k).take (q - k))) ∧ Hid (Own .u8 5 wr W0.heap.size A5 c5 t) ∧ Hid (Ext W0 wr)) (fun _ i _ => k - (intOf i).toNat)
       case atStart => exact ⟨k, A6, c6, Nat.le_refl _, by omega, rfl, rfl, by rw [Nat.sub_self]; exact H60.out, Hcop.out, Hb6.out⟩
       case round =>
         clear H60 Hown6 Hcop Hb6 HO HE
         obtain ⟨q, A', c', hjq, hqn, rfl, rfl, HO, HC2, HE⟩ := hrel
         by_cases hqn2 : q < k
         · exact absurd hqn2 (by omega)
         · obtain rfl : k = q := by omega
           have hO := HO.out
           rw [List.take_of_length_le (show (ts.drop k).length ≤ k - k by rw [List.length_drop, Hl.out]; exact Nat.le_refl _)] at hO
           have hlen : (ts.take k ++ (⟨A5, c5, t⟩ : Sl) :: ts.drop k).length = k + 1 := by rw [List.length_append, List.length_cons, List.length_take, List.length_drop, Hl.out]; omega
           have HOf := Lib.hid hO
           have Hlen := Lib.hid hlen
           clear hO hlen
           go_wp2_with fail
           go_ret
           refine ⟨A', c', ts.take k ++ (⟨A5, c5, t⟩ : Sl) :: ts.drop k, by rw [Hlen.out]; rfl, ?_, ⟨HOf.out.rdL, ?_, fun z hz => Nat.le_trans hbW (HOf.out.block z hz).1⟩, hE0.trans HE.out⟩
           · rw [Hbs.out]
             unfold bodies
             rw [List.map_append, List.map_cons, List.map_take, List.map_drop]
           · intro z hz
             rcases List.mem_append.1 hz with h | h
             · exact (Hx2.out.own z (List.mem_of_mem_take h)).ext HE.out
             · rcases List.mem_cons.1 h with rfl | h
               · exact HC2.out.mono hbW
               · exact (Hx2.out.own z (List.mem_of_mem_drop h)).ext HE.out
theorem Tryz.infoInt : (Tryz.prog.info? 3).map (fun i => (i.zero, i.size, i.bytes)) = some (some (.int .i64 0), 1, 8) := by kernel_rfl
def zs (ns : List Nat) : List Int := ns.map fun x : Nat => (x : Int)
theorem zs_len (ns : List Nat) : (zs ns).length = ns.length := List.length_map ..
theorem zs_snoc (ns : List Nat) (x : Nat) : zs (ns ++ [x]) = zs ns ++ [(x : Int)] := by simp [zs]
def RIdxPost (R : List (List Nat) × List Nat × Int) (w : World) (e : Ending) (w' : World) : Prop :=
 ∃ A' c' us B cB, e = .returned (.tuple #[.slice A' us.length c', .slice B R.2.1.length cB, .int .i64 R.2.2]) ∧ bodies us = R.1 ∧ Ents w' w.heap.size A' us.length us ∧ OwnG shZ 3 w' w.heap.size B cB (zs R.2.1) ∧ Ext w w'
theorem RIdxPost.bad {w w' : World} (R : List (List Nat) × List Nat × Int) {E : Int} (h : R = ([], [], E)) (he : Ext w w') : RIdxPost R w (.returned (.tuple #[.slice none 0 0, .slice none 0 0, .int .i64 E])) w' := by
 subst h
 exact ⟨none, 0, [], none, 0, rfl, rfl, ⟨⟨rfl, fun q => absurd q (by simp)⟩, (by intro s hs; cases hs), (by intro q hq; cases hq)⟩, OwnG.nil .., he⟩
theorem RIdxPost.good {w w' : World} (R : List (List Nat) × List Nat × Int) {us : List Sl} {ns : List Nat} {A B : Option Addr} {m c n cB : Nat} (h : R = (bodies us, ns, 0)) (hm : us.length = m) (hn : ns.length = n) (ho : Ents w' w.heap.size A m us) (hB : OwnG shZ 3 w' w.heap.size B cB (zs ns)) (he : Ext w w') :
   RIdxPost R w (.returned (.tuple #[.slice A m c, .slice B n cB, .int .i64 0])) w' := by
 subst h hm hn
 exact ⟨A, c, us, B, cB, rfl, rfl, ho, hB, he⟩
set_option maxHeartbeats 1600000 in
theorem refIndex_any (A : Option Addr) (n c : Nat) (ss : List Sl) (w : World) (hx : TxL w A n ss) (hn : n ≤ 140737488355328) :
   Calls Tryz.prog 212 #[.slice A n c] w (RIdxPost (idxR (bodies ss)) w) := by
 have Hl := Lib.hid hx.len
 have hbl : (bodies ss).length = n := by rw [bodies_len, Hl.out]
 by_cases hbig : 4096 < n
 · have HR := Lib.hid (idxR_bad (ss := bodies ss) (.inl (by rw [hbl]; exact hbig)))
   clear hbl
   go_enter Tryz.func212, Tryz.ntmps212
   go_wp2_with fail
   go_ret3
   exact RIdxPost.bad _ HR.out (Ext.refl w)
 · have hb4 : n ≤ 4096 := by omega
   have Hbl := Lib.hid hbl
   have Hx := Lib.hid hx
   clear hbl hx
   go_enter Tryz.func212, Tryz.ntmps212
   go_wp2_with fail
   go_loopw [5, 6] (fun v i wr => ∃ (j m : Nat) (A' : Option Addr) (c' : Nat) (us : List Sl), j ≤ n ∧ m ≤ j ∧ i = .int .i64 j ∧ v = .slice A' m c' ∧ Hid (us.length = m) ∧ Hid (bodies us = dents ((bodies ss).take j)) ∧ Hid (Ents wr w.heap.size A' m us) ∧ Hid (Ext w wr) ∧ Hid (anyLong ((bodies ss).take j) = false)) (fun _ i _ => n - (intOf i).toNat)
   case atStart => exact ⟨0, 0, _, _, [], Nat.zero_le _, Nat.le_refl _, rfl, rfl, rfl, rfl, ⟨⟨rfl, fun q => absurd q (by omega)⟩, (by intro s hs; cases hs), (by intro q hq; injection hq with hq; subst hq; exact Nat.le_refl _)⟩, (Ext.refl w).alloc _, rfl⟩
   case round =>
     obtain ⟨j, m, A', c', us, hj, hmj, rfl, rfl, Hul, Hub, HEn, HE, HA⟩ := hrel
     by_cases hlt : j < n
     · obtain ⟨b, o, s, rfl, hf, hc, hs⟩ := (Hx.out.ext HE.out).at_ hlt
       have hbj := bodies_at hf
       have hdst := dents_step hbj
       have htk : (bodies ss).take (j + 1) = (bodies ss).take j ++ [s.body] := by
         obtain ⟨h1, h2⟩ := List.getElem?_eq_some_iff.1 hbj
         rw [List.take_succ_eq_append_getElem h1, h2]
       have hrd := hs.rd
       obtain ⟨sA, sc, body⟩ := s
       simp only at hc hrd hbj hdst htk
       obtain ⟨bl, hbl⟩ : ∃ bl, bl = body.length := ⟨_, rfl⟩
       rw [← hbl] at hc hrd
       by_cases hlong : 200 < bl
       · have HR := Lib.hid (idxR_bad (.inr (anyLong_iff.2 ⟨body, List.mem_of_getElem? hbj, by rw [← hbl]; exact hlong⟩)))
         clear hf hbj hdst htk hrd hs hbl
         go_wp2_with fail
         go_ret3
         exact RIdxPost.bad _ HR.out HE.out
       · have hN := anyLong_snoc HA.out (t := body) (by rw [← hbl]; omega)
         rw [← htk] at hN
         have HN := Lib.hid hN
         have Hd := Lib.hid hdst
         have Hrd := Lib.hid hrd
         have HW := Lib.hid (with_any A' m c' w.heap.size us sA bl sc body wr HEn.out HE.out.size (by omega) (by rw [Hub.out]; exact dents_short HA.out) (by rw [Hub.out]; exact dents_asc _) hrd (by omega))
         clear hf hbj hdst htk hrd hs hbl hN
         go_wp2_with fail
         refine HW.out.mono ?_
         rintro e w1 ⟨A1, c1, vs, rfl, hvb, hve, he1⟩
         have hvl : vs.length ≤ j + 1 := by
           rw [← bodies_len, hvb, Hub.out, ← Hd.out]
           exact dents_len (j + 1) _ (by rw [List.length_take, Hbl.out]; omega)
         have Hvb := Lib.hid (show bodies vs = dents ((bodies ss).take (j + 1)) by rw [hvb, Hub.out, Hd.out])
         obtain ⟨m1, hm1⟩ : ∃ m1, vs.length = m1 := ⟨_, rfl⟩
         rw [hm1] at hve hvl ⊢
         have Hm1 := Lib.hid hm1
         have Hve := Lib.hid hve
         have He1 := Lib.hid (HE.out.trans he1)
         clear hvb hve he1 hm1
         go_wp2_with fail
         go_roundw
         case rel => exact ⟨j + 1, m1, A1, c1, vs, by omega, hvl, by go_num, rfl, Hm1.out, Hvb.out, Hve.out, He1.out, HN.out⟩
         case measure => simp [intOf]; omega
     · obtain rfl : n = j := by omega
       have htk : (bodies ss).take n = bodies ss := List.take_of_length_le (by rw [Hbl.out]; exact Nat.le_refl _)
       have hA := HA.out
       have hub := Hub.out
       rw [htk] at hA hub
       have HR := Lib.hid (idxR_good (by rw [Hbl.out]; exact hb4) hA)
       rw [← hub] at HR
       have hasc : Asc (bodies us) := by rw [hub]; exact dents_asc _
       have hshort : ∀ s ∈ us, s.body.length ≤ 140737488355328 := fun s hs => by
         have := dents_short hA s.body (by rw [← hub]; exact List.mem_map.2 ⟨s, hs, rfl⟩)
         omega
       obtain ⟨F, hF⟩ : ∃ F : List Nat → Nat, F = fun s => skN s (bodies us) := ⟨_, rfl⟩
       have HP := Lib.hid (fun (W : World) (hW : Ext wr W) (A2 : Option Addr) (n2 c2 : Nat) (t : List Nat) (h1 : Rd .u8 W A2 n2 t) (h2 : n2 ≤ 140737488355328) => place10_any A' m c' us A2 n2 c2 t W (HEn.out.ext hW).rd (by omega) (fun s hs => ⟨((HEn.out.ext hW).own s hs).rd, hshort s hs⟩) hasc h1 h2)
       have HR2 := Lib.hid (show idxR (bodies ss) = (bodies us, (bodies ss).map F, 0) by rw [HR.out, hF])
       have HF := Lib.hid hF
       have h0 : OwnG shZ 3 (wr.alloc (.cells #[] 3)) wr.heap.size (some ⟨wr.heap.size, 0, none⟩) 0 (zs (((bodies ss).take 0).map F)) := (OwnG.made _ _ _ (Nat.le_refl _))
       have H0 := Lib.hid h0
       clear hA hub HA HR hasc hshort htk hF h0
       obtain ⟨W1, hW1⟩ : ∃ W1, W1 = wr := ⟨_, rfl⟩
       rw [← hW1] at HEn HE HP H0 ⊢
       clear hW1
       go_wp2_with fail
       go_loopw [7, 8] (fun v i wx => ∃ (q : Nat) (B : Option Addr) (cB : Nat), q ≤ n ∧ i = .int .i64 q ∧ v = .slice B q cB ∧ Hid (OwnG shZ 3 wx W1.heap.size B cB (zs (((bodies ss).take q).map F))) ∧ Hid (Ext W1 wx)) (fun _ i _ => n - (intOf i).toNat)
       case atStart => exact ⟨0, _, _, Nat.zero_le _, rfl, rfl, H0.out, (Ext.refl _).alloc _⟩
       case round =>
         clear H0
         obtain ⟨q, B, cB, hq, rfl, rfl, HO, HB⟩ := hrel
         by_cases hlt2 : q < n
         · obtain ⟨b, o, s, rfl, hf, hc, hs⟩ := (Hx.out.ext (HE.out.trans HB.out)).at_ hlt2
           have hbj := bodies_at hf
           have hrd := hs.rd
           have hln := hs.len
           have htk : ((bodies ss).take (q + 1)).map F = ((bodies ss).take q).map F ++ [F s.body] := by
             obtain ⟨h1, h2⟩ := List.getElem?_eq_some_iff.1 hbj
             rw [List.take_succ_eq_append_getElem h1, h2, List.map_append]
             rfl
           obtain ⟨sA, sc, body⟩ := s
           simp only at hc hrd hln hbj htk
           obtain ⟨bl, hbl⟩ : ∃ bl, bl = body.length := ⟨_, rfl⟩
           rw [← hbl] at hc hrd hln
           obtain ⟨f, hfv⟩ : ∃ f, f = F body := ⟨_, rfl⟩
           rw [← hfv] at htk
           have hP := HP.out wr HB.out sA bl sc body hrd hln
           have hfv2 : skN body (bodies us) = f := by rw [hfv, HF.out]
           rw [hfv2] at hP
           have HPl := Lib.hid hP
           have hlq : (zs (((bodies ss).take q).map F)).length = q := by rw [zs_len, List.length_map, List.length_take, Hbl.out]; omega
           have Hlq := Lib.hid hlq
           have Htk := Lib.hid (show zs (((bodies ss).take (q + 1)).map F) = zs (((bodies ss).take q).map F) ++ [(f : Int)] by rw [htk, zs_snoc])
           clear hf hbj htk hrd hln hs hbl hfv hfv2 hP hlq
           go_wp2_with fail
           refine HPl.out.mono ?_
           rintro e w5 ⟨rfl, q5, rfl⟩
           have hE5 : Ext wr (wr.drewN q5) := Ext.of_drewN _ _
           obtain ⟨w5, hw5⟩ : ∃ w5, w5 = wr.drewN q5 := ⟨_, rfl⟩
           rw [← hw5] at hE5 ⊢
           clear hw5
           have HB5 := Lib.hid (show Ext W1 w5 from HB.out.trans hE5)
           go_wp2_with (at_builtin; refine wpList_pushG (w0 := W1) (base := W1.heap.size) shZ (f : Int) 3 rfl _ _ 140 rfl _ 8 Tryz.underlying140 Tryz.infoInt rfl (by decide) ((HO.out.ext hE5).ext ((Ext.refl _).alloc _)) q Hlq.out rfl rfl (heap_alloc_new _ _) (by omega) (by omega) (Ext.trans HB5.out ((Ext.refl _).alloc _)) (by have := HB5.out.size; simp; omega) ?_; intro A4 c4 w4 hown4 hg4 hb4 hz4)
           rw [← Htk.out] at hown4
           have HN := Lib.hid (show Ext W1 w4 from hb4)
           have Hown4 := Lib.hid hown4
           clear hown4 hg4 hb4 hz4
           go_wp2_with fail
           go_roundw
           case rel => exact ⟨q + 1, A4, c4, by omega, by go_num, rfl, Hown4.out, HN.out⟩
           case measure => simp [intOf]; omega
         · obtain rfl : n = q := by omega
           have hO := HO.out
           rw [List.take_of_length_le (by rw [Hbl.out]; exact Nat.le_refl _)] at hO
           have HOf := Lib.hid hO
           clear hO
           go_wp2_with fail
           go_ret3
           exact RIdxPost.good _ HR2.out Hul.out (by rw [List.length_map, Hbl.out]) (HEn.out.ext HB.out) (HOf.out.mono HE.out.size) (HE.out.trans HB.out)
end Go.Proofs.YthibbgmicmfkfaaGreat
-- part D10c
namespace Go.Proofs.YthibbgmicmfkfaaGreat
open Go.RowKit Go.Maps Go.Sort Go.Shelf
set_option maxRecDepth 100000
theorem sorts_any (m : Nat) : AnyZ.SortsIn Tryz.prog Tryz.sorted204_ren Fence.wide m :=
 ⟨fun blk off cap ss W hH hblk hsz => callsIn_wide.2 (AnyM.slices_Sort_string Tryz.sort215 blk off cap ss W hH hblk hsz),
  fun p cap W => callsIn_wide.2 (AnyM.slices_Sort_string_none Tryz.sort215 p cap W)⟩
theorem keys_any (mb : Option Nat) (W : World) : Calls Tryz.prog 205 #[.map mb] W fun e w' => e = .returned (.func (.func 216) #[] #[.pointer (some ⟨W.heap.size, 0, none⟩)]) ∧ w' = W.alloc (.cells #[.map mb] 222) :=
 (callsIn_wide (n := 5)).1 (AnyZ.keys_in Tryz.keys205 Fence.wide 5 trivial rfl mb W)
set_option maxHeartbeats 1000000 in
theorem sortedKeys_any {H : Type} (b nn : Nat) (D0 : DataW H) (R : Value → Option (DataW H × List MemPlace)) (w : World) (hown : w.ownsMap Tryz.prog 9 R b nn D0) (hmax : Maps.size D0 ≤ maxLen) (hbytes : Maps.size D0 * 16 ≤ 140737488355328) :
   Calls Tryz.prog 204 #[.func (.func 216) #[] #[.pointer (some ⟨w.heap.size, 0, none⟩)]] (w.alloc (.cells #[.map (some b)] 222)) fun e w' => ∃ (v : Value) (ss : List (List UInt8)), e = .returned v ∧ ss.Perm (strKeys D0) ∧
     w'.ownsRow (w.alloc (.cells #[.map (some b)] 222)).heap.size 9 1 v ss.length ((ss.mergeSort (fun x y => decide (x ≤ y))).map encStr) ∧ Ext (w.alloc (.cells #[.map (some b)] 222)) w' := by
 refine (callsIn_wide (n := 5)).1 ?_
 have hbl := hown.lt
 have hseq : SeqGives Fence.wide 2 Tryz.prog 216 #[.pointer (some ⟨w.heap.size, 0, none⟩)] encStr (fun ss => ss.Perm (strKeys D0)) (Maps.size D0) (w.alloc (.cells #[.map (some b)] 222)) :=
   AnyZ.keys_gives (ρ := Tryz.keys205_ren) { Tryz.keys205 with } Fence.wide _ trivial rfl (by omega) w.heap.size b nn D0 _ (by simp) (by simp) (by
     obtain ⟨es, clock, hb, Ft, hs, hD⟩ := hown
     exact ⟨es, clock, (Below.heap_alloc _ _ b hbl).trans hb, Ft, hs, hD⟩)
 have h := AnyZ.sorted_in Tryz.sorted204 Fence.wide 5 trivial trivial trivial trivial rfl (by omega) (sorts_any _) (enters_of Tryz.func215 (by kernel_rfl) rfl) 216 #[.pointer (some ⟨w.heap.size, 0, none⟩)] trivial (enters_of Tryz.func216 (by kernel_rfl) rfl) _ _ hmax hbytes _ hseq
 exact h.mono fun e w' ⟨v, ss, h1, h2, h3, _, h5⟩ => ⟨v, ss, h1, h2, h3, h5⟩
def n8s (xs : List UInt8) : List Nat := xs.map UInt8.toNat
theorem n8s_u8s : ∀ {xs : List Nat}, U8 xs → n8s (u8s xs) = xs
 | [], _ => rfl
 | x :: r, h => by
   rw [u8s_cons]
   show (UInt8.ofNat x).toNat :: n8s (u8s r) = _
   rw [n8s_u8s (fun y hy => h y (List.mem_cons_of_mem _ hy)), UInt8.toNat_ofNat_of_lt' (h x (by simp))]
theorem u8s_eq {xs ys : List Nat} (hx : U8 xs) (hy : U8 ys) (h : u8s xs = u8s ys) : xs = ys := by rw [← n8s_u8s hx, h, n8s_u8s hy]
theorem sstr_list (xs : List Nat) : (sstr xs).data.toList = u8s xs := rfl
theorem sstr_size (xs : List Nat) : (sstr xs).size = xs.length := by
 show (List.map _ _).toArray.size = _
 simp
theorem lt_ord : ∀ {a b : List Nat}, U8 a → U8 b → (u8s a < u8s b ↔ ordT a b < 0)
 | [], [], _, _ => by simp [u8s, Lib.bytesOf, ordT]
 | [], y :: s, _, _ => by
   rw [u8s_cons]
   simp [u8s, Lib.bytesOf, ordT]
 | x :: r, [], _, _ => by
   rw [u8s_cons]
   simp [u8s, Lib.bytesOf, ordT]
 | x :: r, y :: s, h, h2 => by
   have hx : x < 256 := h x (by simp)
   have hy : y < 256 := h2 y (by simp)
   have ih := lt_ord (a := r) (b := s) (fun z hz => h z (List.mem_cons_of_mem _ hz)) (fun z hz => h2 z (List.mem_cons_of_mem _ hz))
   rw [u8s_cons, u8s_cons, List.cons_lt_cons_iff, u8_lt hx hy, u8_inj hx hy, ih, ordT]
   rcases Nat.lt_trichotomy x y with q | q | q
   · rw [if_pos q]; simp [q]
   · subst q; simp
   · rw [if_neg (by omega), if_pos q]; simp; omega
theorem sorted_is {H : Type} {b nn : Nat} {D : DataW H} {R : Value → Option (DataW H × List MemPlace)} {w : World} (hown : w.ownsMap Tryz.prog 9 R b nn D) {ss : List (List UInt8)} (hp : ss.Perm (strKeys D))
   {L : List (List Nat)} (ha : Asc L) (hu : ∀ x ∈ L, U8 x) (hm : ∀ x, x ∈ L.map u8s ↔ has D (.string x) = true) :
   ss.mergeSort (fun x y => decide (x ≤ y)) = L.map u8s ∧ ss.length = L.length := by
 have hpw : (L.map u8s).Pairwise (fun x y => x < y) := by
   rw [List.pairwise_map]
   refine List.Pairwise.imp_of_mem ?_ ha
   intro x y hx hy h
   exact (lt_ord (hu x hx) (hu y hy)).2 h
 have hnd : (L.map u8s).Nodup := hpw.imp fun {x y} h e => by subst e; exact List.lt_irrefl _ h
 obtain ⟨es, hD, hpe, _⟩ := hown.entries (string_keyed Tryz.underlying9)
 obtain ⟨es', hD', hko⟩ := hown.keysOf
 obtain rfl : es = es' := by rw [hD] at hD'; simpa using hD'
 subst hD
 have hS := perm_strKeys hpe (fun p hp => by obtain ⟨v, hv⟩ := hko p hp; obtain ⟨x, _, hx, _⟩ := Maps.keyOf_str Tryz.underlying9 hv; exact ⟨x, hx⟩) hnd hm
 have hperm : ss.Perm (L.map u8s) := hp.trans hS.symm
 refine ⟨?_, by rw [hperm.length_eq, List.length_map]⟩
 have h1 := mergeSort_of_perm hperm
 have h2 : (L.map u8s).mergeSort leB = L.map u8s := List.mergeSort_of_pairwise (hpw.imp fun {x y} h => by simp only [leB, decide_eq_true_eq]; exact List.le_of_lt h)
 exact h1.trans h2
end Go.Proofs.YthibbgmicmfkfaaGreat
-- part D10d
namespace Go.Proofs.YthibbgmicmfkfaaGreat
open Go.RowKit
def OwnM (w : World) (base : Nat) (A : Option Addr) (c : Nat) (xs : List Nat) : Prop :=
 ∃ g cur, A = some ⟨g, 0, none⟩ ∧ base ≤ g ∧ w.heap[g]? = some (.cells cur 5 (c, c + 1)) ∧ xs.length ≤ c ∧ c ≤ 9223372036854775807 ∧ cur.size = c ∧ cur.toList.take xs.length = xs.map fun x : Nat => Value.int .u8 (x : Int)
section
variable {w w' : World} {base c : Nat} {A : Option Addr} {xs : List Nat}
theorem OwnM.ext (h : OwnM w base A c xs) (he : Ext w w') : OwnM w' base A c xs := by
 obtain ⟨g, cur, h1, h2, h3, h4⟩ := h
 exact ⟨g, cur, h1, h2, (he.block g (Array.getElem?_eq_some_iff.1 h3).1).trans h3, h4⟩
theorem OwnM.grown (h : OwnM w base A c xs) {row : Option Nat} (hg : w.grownBy w' row) (hne : ∀ a, A = some a → some a.block ≠ row) : OwnM w' base A c xs := by
 obtain ⟨g, cur, h1, h2, h3, h4⟩ := h
 exact ⟨g, cur, h1, h2, (hg.block g (Array.getElem?_eq_some_iff.1 h3).1 (hne _ h1)).trans h3, h4⟩
theorem OwnM.mono (h : OwnM w base A c xs) {base' : Nat} (hb : base' ≤ base) : OwnM w base' A c xs := by
 obtain ⟨g, cur, h1, h2, h4⟩ := h
 exact ⟨g, cur, h1, Nat.le_trans hb h2, h4⟩
theorem OwnM.block (h : OwnM w base A c xs) : ∀ a, A = some a → base ≤ a.block ∧ a.block < w.heap.size := by
 obtain ⟨g, cur, rfl, h2, h3, _⟩ := h
 intro a ha
 injection ha with ha
 subst ha
 exact ⟨h2, (Array.getElem?_eq_some_iff.1 h3).1⟩
theorem OwnM.rd (h : OwnM w base A c xs) : Rd .u8 w A xs.length xs := by
 obtain ⟨g, cur, rfl, h2, h3, h4, h5, h6, h7⟩ := h
 refine ⟨rfl, fun hn => ⟨g, 0, rfl, (Array.getElem?_eq_some_iff.1 h3).1, fun j hj => ?_⟩⟩
 rw [cell_of_row w g (0 + j) cur _ _ h3, Nat.zero_add]
 have h1 : (cur.toList.take xs.length)[j]? = some (Value.int .u8 ((xs.getD j 0 : Nat) : Int)) := by rw [h7, List.getElem?_map, List.getElem?_eq_getElem hj]; simp [List.getD, hj]
 rw [List.getElem?_take, if_pos hj] at h1
 simpa using h1
theorem own_neM {base' c' : Nat} {A' : Option Addr} {ts : List Sl} (h : OwnT w base A c ts) (k : OwnM w base' A' c' xs) : ∀ a, A' = some a → some a.block ≠ (Value.slice A ts.length c).ownBlock := by
 rintro a rfl e
 rcases h.2 with ⟨hv, _⟩ | ⟨g, cap, cur, hv, hg, hh, _⟩
 · rw [hv] at e; simp [Value.ownBlock] at e
 · rw [hv] at e
   simp [Value.ownBlock] at e
   obtain ⟨g', cur', hA, _, hh', _⟩ := k
   injection hA with hA
   subst hA
   simp at e
   subst e
   rw [hh] at hh'
   injection hh' with hh'
   injection hh' with h1 h2 h3
   exact absurd h2 (by decide)
end
theorem conv_back (W : World) {xs : List Nat} (hu : U8 xs) (hl : xs.length ≤ 1000000) : ∃ w' c, (convert 9 22 (.string (sstr xs))).run Tryz.prog W = .ok (.slice (some ⟨W.heap.size, 0, none⟩) xs.length c) w' ∧ OwnM w' W.heap.size (some ⟨W.heap.size, 0, none⟩) c xs ∧ Ext W w' := by
 have hsz := sstr_size xs
 refine ⟨Lib.bytesWorld W 5 (sstr xs), grownCap W xs.length 0 5, ?_, ?_, ?_⟩
 · have := Lib.run_convert_string_bytes (P := Tryz.prog) W 9 22 5 (sstr xs) Tryz.underlying9 Tryz.underlying22 Tryz.underlying5
   rw [this, hsz]
 · have hge := grownCap_ge W xs.length 0 5
   have hle := grownCap_le_maxLen W xs.length 0 5 (by unfold maxLen; omega)
   have hcs : (Lib.bytesCells W 5 (sstr xs)).size = grownCap W xs.length 0 5 := by
     unfold Lib.bytesCells
     rw [hsz]
     have : (sstr xs).data.size = xs.length := hsz
     simp [this]
     omega
   refine ⟨W.heap.size, Lib.bytesCells W 5 (sstr xs), rfl, Nat.le_refl _, ?_, hge, by simpa [maxLen] using hle, hcs, ?_⟩
   · have := Lib.bytesWorld_at_new W 5 (sstr xs)
     rw [this, hcs]
   · have e1 : (sstr xs).data.toList.map (fun b : UInt8 => Value.int .u8 (b.toNat : Int)) = xs.map fun x : Nat => Value.int .u8 (x : Int) := by
       rw [sstr_list, ← n8s_u8s hu]
       simp only [n8s, List.map_map]
       rw [show (List.map UInt8.toNat (u8s xs)) = xs from n8s_u8s hu]
       rfl
     unfold Lib.bytesCells
     rw [Array.toList_append, Array.toList_map, e1, List.take_append_of_le_length (by simp), List.take_of_length_le (by simp)]
 · have hs := Lib.bytesWorld_size W 5 (sstr xs)
   refine ⟨rfl, rfl, rfl, by omega, fun i hi => Lib.bytesWorld_at_old W 5 (sstr xs) i hi⟩
structure TxtsM (w : World) (base : Nat) (ts : List Sl) : Prop where
 own : ∀ s ∈ ts, OwnM w base s.A s.c s.body
 apart : ts.Pairwise fun s t => ∀ p q, s.A = some p → t.A = some q → p.block < q.block
section
variable {w w' : World} {base c : Nat} {A : Option Addr} {ts : List Sl}
theorem TxtsM.nil (w : World) (base : Nat) : TxtsM w base [] := ⟨fun s hs => (by cases hs), List.Pairwise.nil⟩
theorem TxtsM.ext (h : TxtsM w base ts) (he : Ext w w') : TxtsM w' base ts := ⟨fun s hs => (h.own s hs).ext he, h.apart⟩
theorem TxtsM.mono (h : TxtsM w base ts) {base' : Nat} (hb : base' ≤ base) : TxtsM w base' ts := ⟨fun s hs => (h.own s hs).mono hb, h.apart⟩
theorem TxtsM.far (h : TxtsM w base ts) {g : Nat} (hg : w.grownBy w' (some g)) (hb : g < base) : TxtsM w' base ts :=
 ⟨fun s hs => (h.own s hs).grown hg (fun a ha e => by
   injection e with e
   have := ((h.own s hs).block a ha).1
   omega), h.apart⟩
theorem TxtsM.grown (h : TxtsM w base ts) {base' : Nat} {us : List Sl} (k : OwnT w base' A c us) (hg : w.grownBy w' (Value.slice A us.length c).ownBlock) : TxtsM w' base ts :=
 ⟨fun s hs => (h.own s hs).grown hg (own_neM k (h.own s hs)), h.apart⟩
theorem TxtsM.lt (h : TxtsM w base ts) : ∀ t ∈ ts, ∀ p, t.A = some p → p.block < w.heap.size := fun t ht p hp => ((h.own t ht).block p hp).2
theorem TxtsM.rd (h : TxtsM w base ts) : ∀ s ∈ ts, Rd .u8 w s.A s.body.length s.body := fun s hs => (h.own s hs).rd
theorem TxtsM.snoc (h : TxtsM w base ts) {s : Sl} {base' : Nat} (hs : OwnM w base' s.A s.c s.body) (hb : base ≤ base') (hl : ∀ t ∈ ts, ∀ p, t.A = some p → p.block < base') : TxtsM w base (ts ++ [s]) := by
 refine ⟨fun t ht => ?_, ?_⟩
 · rcases List.mem_append.1 ht with h1 | h1
   · exact h.own t h1
   · simp at h1; subst h1; exact hs.mono hb
 · rw [List.pairwise_append]
   refine ⟨h.apart, by simp, fun t ht f' hf' p q hp hq => ?_⟩
   simp at hf'
   subst hf'
   exact Nat.lt_of_lt_of_le (hl t ht p hp) (hs.block q hq).1
end
def shStr : Shape (List Nat) := ⟨fun x => [.string (sstr x)], 1, fun _ => rfl, by intro x u hu; simp at hu; subst hu; rfl⟩
theorem strs_all : ∀ L : List (List Nat), (L.map u8s).map encStr = shStr.all L
 | [] => rfl
 | x :: r => by
   rw [Shape.all_cons, ← strs_all r]
   rfl
theorem strs_of {w : World} {base n : Nat} {v : Value} {L : List (List Nat)} (h : w.ownsRow base 9 1 v n ((L.map u8s).map encStr)) (hn : n = L.length) : ∃ A c, v = .slice A L.length c ∧ OwnG shStr 9 w base A c L := by
 subst hn
 rw [strs_all] at h
 rcases h.2 with ⟨hv, h0⟩ | ⟨g, cap, cur, hv, _⟩
 · exact ⟨none, 0, by rw [hv, h0], by rw [hv] at h; unfold OwnG; rw [h0] at h ⊢; exact h⟩
 · exact ⟨some ⟨g, 0, none⟩, cap, hv, by rw [hv] at h; exact h⟩
end Go.Proofs.YthibbgmicmfkfaaGreat
-- part D10e
namespace Go.Proofs.YthibbgmicmfkfaaGreat
open Go.RowKit Go.Maps Go.WideMaps
theorem isLong10_any (A : Option Addr) (n c : Nat) (w : World) :
   Calls Tryz.prog 203 #[.slice A n c] w fun e w' => e = .returned (.bool (decide (200 < n))) ∧ w' = w := by
 by_cases h : 200 < n
 · rw [decide_eq_true h]
   go_enter Tryz.func203, Tryz.ntmps203
   go_wp2
   go_ret
   exact ⟨by simp <;> omega, rfl⟩
 · rw [decide_eq_false h]
   go_enter Tryz.func203, Tryz.ntmps203
   go_wp2
   go_ret
   exact ⟨by simp <;> omega, rfl⟩
theorem indexLong10_any (A : Option Addr) (n c : Nat) (ss : List Sl) (w : World) (hx : RdL w A n ss) (hn : n ≤ 140737488355328) :
   Calls Tryz.prog 206 #[.slice A n c, .func (.func 203) #[] #[]] w fun e w' => ∃ r : Int, e = .returned (.int .i64 r) ∧ w' = w ∧ decide (0 ≤ r) = anyLong (bodies ss) := by
 have Hl := Lib.hid hx.1
 obtain ⟨R, hR⟩ : ∃ R, R = anyLong (bodies ss) := ⟨_, rfl⟩
 rw [← hR]
 have HR := Lib.hid hR
 clear hR
 go_enter Tryz.func206, Tryz.ntmps206
 go_wp2
 go_loopw [5, 8] (fun _ i wr => ∃ j : Nat, j ≤ n ∧ i = .int .i64 j ∧ wr = w ∧ Hid (anyLong (bodies (ss.take j)) = false)) (fun _ i _ => n - (intOf i).toNat)
 case atStart => exact ⟨0, Nat.zero_le _, rfl, rfl, rfl⟩
 case round =>
   obtain ⟨j, hj, rfl, rfl, HA⟩ := hrel
   by_cases hlt : j < n
   · obtain ⟨b, o, s, rfl, hf, h1⟩ := hx.at_ hlt
     obtain ⟨sA, sc, body⟩ := s
     simp only at h1
     have e0 : bodies (ss.take (j + 1)) = bodies (ss.take j) ++ [body] := by rw [List.take_add_one, hf]; unfold bodies; rw [List.map_append]; rfl
     by_cases hb : 200 < body.length
     · have hfin := Lib.hid (show true = R by rw [HR.out]; exact (anyLong_iff.2 ⟨body, List.mem_map.2 ⟨_, List.mem_of_getElem? hf, rfl⟩, hb⟩).symm)
       clear e0 hf
       obtain ⟨m, hm⟩ : ∃ m, m = body.length := ⟨_, rfl⟩
       rw [← hm] at h1 hb
       clear hm
       have hd : decide (200 < m) = true := decide_eq_true hb
       go_wp2_with (refine (isLong10_any _ _ _ _).mono ?_; rintro e w1 ⟨rfl, rfl⟩; rw [hd])
       go_ret
       exact ⟨_, rfl, rfl, by rw [← hfin.out]; exact decide_eq_true (by omega)⟩
     · have hN := Lib.hid (show anyLong (bodies (ss.take (j + 1))) = false by rw [e0, anyLong, List.any_append]; simp [anyLong] at HA; simp <;> first | omega | (refine ⟨HA.out, by omega⟩))
       clear e0 hf
       obtain ⟨m, hm⟩ : ∃ m, m = body.length := ⟨_, rfl⟩
       rw [← hm] at h1 hb
       clear hm
       have hd : decide (200 < m) = false := decide_eq_false hb
       go_wp2_with (refine (isLong10_any _ _ _ _).mono ?_; rintro e w1 ⟨rfl, rfl⟩; rw [hd])
       go_roundw
       case rel => exact ⟨j + 1, by omega, by go_num, by first | trivial | rfl, hN⟩
       case measure => simp [intOf]; omega
   · obtain rfl : j = n := by omega
     have hfin := Lib.hid (show false = R by rw [HR.out, ← HA.out, List.take_of_length_le (by rw [Hl.out]; exact Nat.le_refl _)])
     go_wp2
     go_ret
     exact ⟨_, rfl, by first | trivial | rfl, by rw [← hfin.out]; rfl⟩
theorem containsLong10_any (A : Option Addr) (n c : Nat) (ss : List Sl) (w : World) (hx : RdL w A n ss) (hn : n ≤ 140737488355328) :
   Calls Tryz.prog 181 #[.slice A n c, .func (.func 203) #[] #[]] w fun e w' => e = .returned (.bool (anyLong (bodies ss))) ∧ w' = w := by
 have H := Lib.hid (indexLong10_any A n c ss w hx hn)
 clear hx
 go_enter Tryz.func181, Tryz.ntmps181
 go_wp2_with fail
 refine H.out.mono ?_
 rintro e w1 ⟨r, rfl, rfl, hr⟩
 have Hr := Lib.hid hr
 clear hr
 go_wp2
 go_ret
 exact ⟨by rw [← Hr.out]; simp, by first | trivial | rfl⟩
theorem lawK : Keyed Tryz.prog 9 := string_keyed Tryz.underlying9
theorem run_mkM (w : World) : (Instr.makeMap 222 none).run Tryz.prog w = .ok (.map (some w.heap.size)) (w.alloc (.map #[] 0)) := by
 simp [Instr.makeMap, Result.andThen]
theorem zero_int (w : World) : (zeroValue 3).run Tryz.prog w = .ok (.int .i64 0) w := by
 rw [Tryz.zeroValue3]
noncomputable abbrev elI (H : Type) : Value → Option (DataW H × List MemPlace) := plainElem Tryz.prog 3
theorem i64_min : IntKind.i64.min = -9223372036854775808 := by decide
theorem i64_max : IntKind.i64.max = 9223372036854775807 := by decide
theorem elI_mk {H : Type} (i : Nat) (hi : i ≤ 1000000) : elI H (.int .i64 (i : Int)) = some (.lit (.int .i64 (i : Int)), []) := by
 refine plainElem_int Tryz.underlying3 ?_
 have h1 : IntKind.i64.min ≤ (i : Int) := by rw [i64_min]; omega
 have h2 : (i : Int) ≤ IntKind.i64.max := by rw [i64_max]; omega
 simp [Lit.wf, h1]
 omega
theorem key_of (xs : List Nat) (h : xs.length ≤ 140737488355328) : keyOf Tryz.prog 9 (.string (sstr xs)) = some (.string (u8s xs)) := by
 have := keyOf_string_mk (P := Tryz.prog) (k := 9) Tryz.underlying9 (s := sstr xs) (by rw [sstr_size]; unfold maxLen; omega)
 rw [this, sstr_list]
def keyL (xs : List Nat) : Lit := .string (u8s xs)
def D0of (ss : List (List Nat)) : DataW Unit := setOf (.lit (.int .i64 0)) (ss.map keyL)
theorem D0of_snoc (ss : List (List Nat)) (t : List Nat) : D0of (ss ++ [t]) = (D0of ss).put (keyL t) (.lit (.int .i64 0)) := by unfold D0of; rw [List.map_append]; exact setOf_snoc ..
theorem D0of_key (ss : List (List Nat)) : ∀ x ∈ ss.map keyL, WideAt.IsKeyLit x := by
 intro x hx
 obtain ⟨s, _, rfl⟩ := List.mem_map.1 hx
 exact trivial
theorem D0of_has (ss : List (List Nat)) (x : List UInt8) : has (D0of ss) (.string x) = true ↔ x ∈ ss.map u8s := by
 unfold D0of
 rw [has_setOf _ _ _ (D0of_key ss), List.any_eq_true]
 constructor
 · rintro ⟨l, hl, h⟩
   obtain ⟨s, hs, rfl⟩ := List.mem_map.1 hl
   have : u8s s = x := by simpa [keyL, Lit.sameKey] using h
   rw [← this]
   exact List.mem_map.2 ⟨s, hs, rfl⟩
 · intro h
   obtain ⟨s, hs, rfl⟩ := List.mem_map.1 h
   exact ⟨keyL s, List.mem_map.2 ⟨s, hs, rfl⟩, by simp [keyL, Lit.sameKey]⟩
theorem D0of_map (ss : List (List Nat)) : IsMap (D0of ss) := (tidy_setOf _ _ (D0of_key ss)).isMap
def NumD (D : DataW Unit) (L : List (List Nat)) (j : Nat) : Prop := IsMap D ∧ ∀ i x, i < j → L[i]? = some x → ∀ z, D.atKey (keyL x) z = .lit (.int .i64 (i : Int))
theorem NumD.step {D : DataW Unit} {L : List (List Nat)} {j : Nat} {t : List Nat} (h : NumD D L j) (ha : Asc L) (hu : ∀ x ∈ L, U8 x) (ht : L[j]? = some t) : NumD (D.put (keyL t) (.lit (.int .i64 (j : Int)))) L (j + 1) := by
 refine ⟨h.1.put _ _, fun i x hi hx z => ?_⟩
 by_cases hij : i = j
 · subst hij
   rw [ht] at hx
   injection hx with hx
   subst hx
   exact atKey_put_same h.1 (show WideAt.IsKeyLit (keyL t) from trivial) _ _
 · rw [atKey_put_other (fun e => ?_) _ _]
   · exact h.2 i x (by omega) hx z
   · have e1 : u8s x = u8s t := by injection e
     have hxt : x = t := u8s_eq (hu x (List.mem_of_getElem? hx)) (hu t (List.mem_of_getElem? ht)) e1
     subst hxt
     obtain ⟨q1, e2⟩ := List.getElem?_eq_some_iff.1 hx
     obtain ⟨q2, e3⟩ := List.getElem?_eq_some_iff.1 ht
     have := List.pairwise_iff_getElem.1 ha i j q1 q2 (by omega)
     rw [e2, e3, ordT_self] at this
     omega
theorem own_neG {T1 T2 : Type} {s1 : Shape T1} {s2 : Shape T2} {e1 e2 : TypeId} {w : World} {base base' c c' : Nat} {A A' : Option Addr} {xs : List T1} {ys : List T2} (hne : e1 ≠ e2) (h : OwnG s1 e1 w base A c xs) (k : OwnG s2 e2 w base' A' c' ys) : ∀ a, A' = some a → some a.block ≠ (Value.slice A xs.length c).ownBlock := by
 rintro a rfl e
 rcases h.2 with ⟨hv, _⟩ | ⟨g, cap, cur, hv, hg, hh, _⟩
 · rw [hv] at e; simp [Value.ownBlock] at e
 · rw [hv] at e
   simp [Value.ownBlock] at e
   rcases k.2 with ⟨hv', _⟩ | ⟨g', cap', cur', hv', _, hh', _⟩
   · cases hv'
   · injection hv' with hA
     injection hA with hA
     subst hA
     simp at e
     subst e
     rw [hh] at hh'
     injection hh' with hh'
     injection hh' with h1 h2 h3
     exact hne h2
theorem OwnG.far {T : Type} {s : Shape T} {e : TypeId} {w w' : World} {base c b : Nat} {A : Option Addr} {xs : List T} (h : OwnG s e w base A c xs) (hg : w.grownBy w' (some b)) (hb : b < base) : OwnG s e w' base A c xs :=
 h.grown hg (fun a ha q => by
   injection q with q
   have := (h.block a ha).1
   omega)
theorem size_of_owns {w : World} {R : Value → Option (DataW Unit × List MemPlace)} {g n : Nat} {D : DataW Unit} (h : w.ownsMap Tryz.prog 9 R g n D) : Maps.size D ≤ n := by
 obtain ⟨es, clock, hb, F, hs, rfl⟩ := h
 rw [size_eq, length_sorted]
 simpa using hs
theorem row_above {base c n g : Nat} {A : Option Addr} (h : ∀ a, A = some a → base ≤ a.block) (hg : g < base) : some g ≠ (Value.slice A n c).ownBlock := by
 cases A with
 | none => simp [Value.ownBlock]
 | some a =>
   intro e
   simp [Value.ownBlock] at e
   have := h a rfl
   omega
def IdxPost (R : List (List Nat) × List Nat × Int) (w : World) (e : Ending) (w' : World) : Prop :=
 ∃ A' c' us B cB, e = .returned (.tuple #[.slice A' us.length c', .slice B R.2.1.length cB, .int .i64 R.2.2]) ∧ bodies us = R.1 ∧ OwnT w' w.heap.size A' c' us ∧ TxtsM w' w.heap.size us ∧ Own .i64 3 w' w.heap.size B cB R.2.1 ∧ Ext w w'
theorem IdxPost.bad {w w' : World} (R : List (List Nat) × List Nat × Int) {E : Int} (h : R = ([], [], E)) (he : Ext w w') : IdxPost R w (.returned (.tuple #[.slice none 0 0, .slice none 0 0, .int .i64 E])) w' := by
 subst h
 exact ⟨none, 0, [], none, 0, rfl, rfl, OwnG.nil .., TxtsM.nil .., Own.nil .., he⟩
theorem IdxPost.good {w w' : World} (R : List (List Nat) × List Nat × Int) {us : List Sl} {ns : List Nat} {A B : Option Addr} {m c n cB : Nat} (h : R = (bodies us, ns, 0)) (hm : us.length = m) (hn : ns.length = n) (ho : OwnT w' w.heap.size A c us) (ht : TxtsM w' w.heap.size us) (hB : Own .i64 3 w' w.heap.size B cB ns) (he : Ext w w') :
   IdxPost R w (.returned (.tuple #[.slice A m c, .slice B n cB, .int .i64 0])) w' := by
 subst h hm hn
 exact ⟨A, c, us, B, cB, rfl, rfl, ho, ht, hB, he⟩
end Go.Proofs.YthibbgmicmfkfaaGreat
