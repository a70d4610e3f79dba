/- ProgFresh: its walk, whole. -/
import Derived.Test.YtdhdpfloaelngaaDoorPfa
import Derived.Test.YtdhdpfloaelngaaDoorPfb
namespace Go.Proofs.YtdhdpfloaelngaaDoor
open Go Go.RowKit Go.Sort

theorem progFresh_any (p : Pg) (f : Int) (w : World) (hp : PgIs w.heap.size w p) (hT : KTab w) (hE : ETab w) :
    Calls Tryd.prog 4 #[p.val, .int .i64 f] w fun e w' => e = .returned (.bool true) ∧ Below w.heap.size w w' := by
  by_cases hfew : p.few
  rotate_left
  · exact progFresh_few p f w hp hT hE (.inl hfew)
  by_cases hs : p.sane
  rotate_left
  · exact progFresh_few p f w hp hT hE (.inr ⟨hfew, hs⟩)
  exact progFresh_ok p f w hp hT hE hfew hs
end Go.Proofs.YtdhdpfloaelngaaDoor
