/-
  Layer 14: a disk in the next world; a change done.
-/
import Derived.Test.YtjckfbpdnpehcaaDK3
namespace Go.Proofs.Ytjckfbpdnpehcaa
open Go.RowKit Go.Maps Go.WideMaps
set_option maxRecDepth 100000

theorem Own.blk {k : IntKind} {e : TypeId} {w w' : World} {base c : Nat} {A : Option Addr} {xs : List Nat} (h : Own k e w base A c xs) (hb : ∀ a, A = some a → w'.heap[a.block]? = w.heap[a.block]?) : Own k e w' base A c xs := by
  refine ⟨h.1, ?_⟩
  rcases h.2 with hn | ⟨g, cap, cur, hv, hg, hh, r⟩
  · exact Or.inl hn
  · refine Or.inr ⟨g, cap, cur, hv, hg, ?_, r⟩
    injection hv with hA
    exact (hb _ hA).trans hh
theorem Own.ty {k : IntKind} {e : TypeId} {w : World} {base c : Nat} {A : Option Addr} {xs : List Nat} (h : Own k e w base A c xs) : ∀ a, A = some a → ∃ cur, w.heap[a.block]? = some (.cells cur e (0, 0)) := by
  intro a ha
  rcases h.2 with ⟨hv, _⟩ | ⟨g, cap, cur, hv, hg, hh, r⟩
  · injection hv with hA; rw [hA] at ha; cases ha
  · injection hv with hA; rw [hA] at ha; injection ha with ha; subst ha; exact ⟨cur, hh⟩
theorem OwnG.ty {T : Type} {s : Shape T} {e : TypeId} {w : World} {base c : Nat} {A : Option Addr} {xs : List T} (h : OwnG s e w base A c xs) : ∀ a, A = some a → ∃ cur, w.heap[a.block]? = some (.cells cur e (0, 0)) := by
  intro a ha
  rcases h.2 with ⟨hv, _⟩ | ⟨g, cap, cur, hv, hg, hh, r⟩
  · injection hv with hA; rw [hA] at ha; cases ha
  · injection hv with hA; rw [hA] at ha; injection ha with ha; subst ha; exact ⟨cur, hh⟩
theorem DirR.map {w : World} {b : Nat} {d : Dir} (h : DirR w b d) : ∃ es clock, w.heap[b]? = some (.map es clock) := by
  obtain ⟨D, ⟨es, clock, h1, _⟩, _⟩ := h
  exact ⟨es, clock, h1⟩
theorem ne_map {w : World} {a b : Nat} {cur : Array Value} {e : TypeId} {z : Nat × Nat} {d : Dir} (ha : w.heap[a]? = some (.cells cur e z)) (h : DirR w b d) : a ≠ b := by
  rintro rfl
  obtain ⟨es, clock, hb⟩ := h.map
  rw [ha] at hb
  cases hb
theorem ne_ty {w : World} {a b : Nat} {cur cur' : Array Value} {e e' : TypeId} {z z' : Nat × Nat} (ha : w.heap[a]? = some (.cells cur e z)) (hb : w.heap[b]? = some (.cells cur' e' z')) (he : e ≠ e') : a ≠ b := by
  rintro rfl
  rw [ha] at hb
  injection hb with hb
  injection hb with _ h2
  exact he h2
theorem setCell_grown (w : World) (a : Addr) (v : Value) : w.grownBy (w.setCell a v) (some a.block) :=
  ⟨rfl, rfl, rfl, by simp [World.setCell], fun i _ hi => heap_setCell_other w a i v (fun e => hi (by rw [e]))⟩
theorem CloR.ty {w : World} {c : Clo} {g : Chg} (h : CloR w c g) : ∀ q, c.has q → ∃ cur e, w.heap[q]? = some (.cells cur e (0, 0)) ∧ (e = 9 ∨ e = 94) := by
  intro q hq
  cases c <;> cases g <;> simp only [CloR, Clo.has] at h hq
  · rcases hq with rfl | rfl
    · exact ⟨_, _, h.1, .inr rfl⟩
    · exact ⟨_, _, h.2, .inl rfl⟩
  · rcases hq with rfl | rfl
    · exact ⟨_, _, h.1, .inl rfl⟩
    · exact ⟨_, _, h.2, .inl rfl⟩
  · subst hq; exact ⟨_, _, h, .inl rfl⟩

section
variable {w w' : World} {X X' : Nat → Prop} {base dp : Nat} {S S' : DS} {I I' : DI}
theorem DK.ne_F (h : DK w X base dp S I) : dp ≠ I.F := ne_map h.blk h.dF
theorem DK.ne_S (h : DK w X base dp S I) : dp ≠ I.Sb := ne_map h.blk h.dS
theorem DK.row_F (h : DK w X base dp S I) : ∀ a, I.Ac = some a → a.block ≠ I.F := fun a ha => by obtain ⟨cur, q⟩ := h.row.ty a ha; exact ne_map q h.dF
theorem DK.row_S (h : DK w X base dp S I) : ∀ a, I.Ac = some a → a.block ≠ I.Sb := fun a ha => by obtain ⟨cur, q⟩ := h.row.ty a ha; exact ne_map q h.dS
theorem DK.row_D (h : DK w X base dp S I) : ∀ a, I.Ac = some a → a.block ≠ dp := fun a ha => by obtain ⟨cur, q⟩ := h.row.ty a ha; exact ne_ty q h.blk (by decide)
/-- A box of a change, or a file, is none of the disk's other blocks. -/
theorem DK.far (h : DK w X base dp S I) {q : Nat} {cur : Array Value} {e : TypeId} (hq : w.heap[q]? = some (.cells cur e (0, 0))) (h1 : e ≠ 88) (h2 : e ≠ 92) : q ≠ dp ∧ q ≠ I.F ∧ q ≠ I.Sb ∧ ∀ a, I.Ac = some a → q ≠ a.block :=
  ⟨ne_ty hq h.blk h1, ne_map hq h.dF, ne_map hq h.dS, fun a ha => by obtain ⟨cur', p⟩ := h.row.ty a ha; exact ne_ty hq p h2⟩

/-- The disk in the next world: nothing but its own block, its directories and its row of changes may have changed. -/
theorem DK.next (h : DK w X base dp S I) (hX : ∀ b, X b → X' b) (hbd : ∀ b, X' b → base ≤ b ∧ b < w'.heap.size)
    (hb : ∀ b, X b → b ≠ dp → b ≠ I.F → b ≠ I.Sb → (∀ a, I.Ac = some a → b ≠ a.block) → w'.heap[b]? = w.heap[b]?)
    (eF : I'.F = I.F) (eS : I'.Sb = I.Sb) (ep : I'.pv = I.pv) (er : I'.rows = I.rows) (ec : I'.caps = I.caps) (ef : S'.fl = S.fl) (epl : S'.plan = S.plan)
    (blk : w'.heap[dp]? = some (.cells #[.int .i64 S'.room, .map (some I'.F), .map (some I'.Sb), .slice I'.Ac I'.clos.length I'.cc, I'.pv, .int .i64 S'.steps, .bool S'.on] 88 (0, 0)))
    (dF : DirR w' I'.F S'.files) (dS : DirR w' I'.Sb S'.safe) (row : OwnG shC 92 w' base I'.Ac I'.cc I'.clos) (rx : ∀ a, I'.Ac = some a → X' a.block) (cln : I'.clos.length = S'.chs.length)
    (cls : ∀ (j : Nat) (c : Clo) (g : Chg), I'.clos[j]? = some c → S'.chs[j]? = some g → (I.clos[j]? = some c ∧ S.chs[j]? = some g) ∨ (CloR w' c g ∧ ∀ q, c.has q → X' q))
    (idF : ∀ x q, lkp S'.files x = some q → x.length ≤ 40 ∧ ∃ f, (q, f) ∈ S'.fl) (idS : ∀ x q, lkp S'.safe x = some q → x.length ≤ 40 ∧ ∃ f, (q, f) ∈ S'.fl) (idC : ∀ x q, Chg.cr x q ∈ S'.chs → ∃ f, (q, f) ∈ S'.fl) (few : S'.files.length ≤ 400) : DK w' X' base dp S' I' where
  blk := blk
  xs := ⟨hX _ h.xs.1, eF ▸ hX _ h.xs.2.1, eS ▸ hX _ h.xs.2.2⟩
  bd := hbd
  dF := dF
  dS := dS
  ne := by rw [eF, eS]; exact h.ne
  row := row
  rx := rx
  cln := cln
  cls := by
    intro j c g h1 h2
    rcases cls j c g h1 h2 with ⟨h3, h4⟩ | h3
    · obtain ⟨h5, h6⟩ := h.cls j c g h3 h4
      refine ⟨h5.blk fun q hq => ?_, fun q hq => hX q (h6 q hq)⟩
      obtain ⟨cur, e, h7, h8⟩ := h5.ty q hq
      obtain ⟨n1, n2, n3, n4⟩ := h.far h7 (by rcases h8 with rfl | rfl <;> decide) (by rcases h8 with rfl | rfl <;> decide)
      exact hb q (h6 q hq) n1 n2 n3 n4
    · exact h3
  fil := by
    intro q f hq
    rw [ef] at hq
    obtain ⟨h1, h2, h3⟩ := h.fil q f hq
    rw [er, ec]
    refine ⟨⟨?_, h1.own.blk fun a ha => ?_, h1.u8, h1.le, h1.lq⟩, hX q h2, fun a ha => hX _ (h3 a ha)⟩
    · obtain ⟨n1, n2, n3, n4⟩ := h.far h1.blk (by decide) (by decide)
      exact (hb q h2 n1 n2 n3 n4).trans h1.blk
    · obtain ⟨cur, h7⟩ := h1.own.ty a ha
      obtain ⟨n1, n2, n3, n4⟩ := h.far h7 (by decide) (by decide)
      exact hb _ (h3 a ha) n1 n2 n3 n4
  nd := by rw [ef]; exact h.nd
  sep := by rw [ef, er]; exact h.sep
  idF := idF
  idS := idS
  idC := idC
  pl := by
    rw [eF, eS, ep, epl]
    refine h.pl.blk hX fun P hP hXP n2 n3 => ?_
    rcases h.pl with ⟨e1, _⟩ | ⟨P', n, D, e1, _, ⟨es, clock, h3, _⟩, _⟩
    · rw [e1] at hP; cases hP
    · rw [e1] at hP
      injection hP with hP
      injection hP with hP
      subst hP
      refine hb P' hXP ?_ n2 n3 fun a ha => ?_
      · rintro rfl; rw [h.blk] at h3; cases h3
      · rintro rfl; obtain ⟨cur, q⟩ := h.row.ty a ha; rw [q] at h3; cases h3
  few := few

theorem DK.kept (h : DK w X base dp S I) (hX : ∀ b, X b → X' b) (hbd : ∀ b, X' b → base ≤ b ∧ b < w'.heap.size) (hb : ∀ b, X b → w'.heap[b]? = w.heap[b]?) : DK w' X' base dp S I :=
  h.next hX hbd (fun b hx _ _ _ _ => hb b hx) rfl rfl rfl rfl rfl rfl rfl ((hb dp h.xs.1).trans h.blk) (h.dF.blk (hb _ h.xs.2.1)) (h.dS.blk (hb _ h.xs.2.2)) (h.row.blk fun a ha => hb _ (h.rx a ha)) (fun a ha => hX _ (h.rx a ha)) h.cln (fun _ _ _ h1 h2 => .inl ⟨h1, h2⟩) h.idF h.idS h.idC h.few
theorem DK.ext (h : DK w X base dp S I) (he : Ext w w') : DK w' X base dp S I :=
  h.kept (fun _ hb => hb) (fun b hb => ⟨(h.bd b hb).1, Nat.lt_of_lt_of_le (h.bd b hb).2 he.size⟩) (fun b hb => he.block b (h.bd b hb).2)
/-- One of the disk's own cells, written. -/
theorem DK.off (h : DK w X base dp S I) : DK (w.setCell ⟨dp, 6, none⟩ (.bool false)) X base dp { S with on := false } I := by
  have hg := setCell_grown w ⟨dp, 6, none⟩ (.bool false)
  refine h.next (fun _ hb => hb) (fun b hb => ⟨(h.bd b hb).1, Nat.lt_of_lt_of_le (h.bd b hb).2 hg.size⟩) (fun b hb n1 _ _ _ => hg.block b (h.bd b hb).2 (fun e => n1 (Option.some.inj e))) rfl rfl rfl rfl rfl rfl rfl ?_ (h.dF.kept hg (fun e => h.ne_F (Option.some.inj e).symm)) (h.dS.kept hg (fun e => h.ne_S (Option.some.inj e).symm)) (h.row.grown hg fun a ha e => h.row_D a ha (Option.some.inj e)) h.rx h.cln (fun _ _ _ h1 h2 => .inl ⟨h1, h2⟩) h.idF h.idS h.idC h.few
  rw [heap_setCell_same w dp 6 _ _ _ h.blk]
  rfl
end

end Go.Proofs.Ytjckfbpdnpehcaa
