/-
  Layer 5: the statement CellChecks, walked.
-/
import Derived.Test.YtdnbmffedccakaaE13a
import Derived.Test.YtdnbmffedccakaaE13b
namespace Go.Proofs.Ytdnbmffedccakaa
open Go.RowKit

theorem walk_CellChecks (k : Int) (null : Bool) (x : Ci) (w : World) (hx : x.In w) :
    Calls Try.prog 3 #[.int .i64 k, .bool null, x.v] w fun e w' => e = .returned (.bool true) ∧ Ext w w' := by
  by_cases k1 : 1 ≤ k
  · by_cases k2 : k ≤ 6
    · exact checks_two k null x w hx (numK k) rfl (.inl ⟨numK_yes ⟨k1, k2⟩, decide_eq_true k1, decide_eq_true k2⟩)
    · exact checks_two k null x w hx (numK k) rfl (.inr ⟨numK_no (fun q => k2 q.2), decide_eq_true k1, decide_eq_false k2⟩)
  · exact checks_one k null x w hx (numK k) rfl ⟨numK_no (fun q => k1 q.1), decide_eq_false k1⟩

end Go.Proofs.Ytdnbmffedccakaa
