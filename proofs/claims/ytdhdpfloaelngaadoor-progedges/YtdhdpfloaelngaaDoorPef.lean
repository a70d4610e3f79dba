/- ProgEdges: its walk, whole. -/
import Derived.Test.YtdhdpfloaelngaaDoorPed
import Derived.Test.YtdhdpfloaelngaaDoorPee
namespace Go.Proofs.YtdhdpfloaelngaaDoor
open Go Go.RowKit Go.Sort

theorem progEdges_any (p : Pg) (f : Int) (w : World) (hp : PgIs w.heap.size w p) (hT : KTab w) (hE : ETab w) :
    Calls Tryd.prog 3 #[p.val, .int .i64 f] w fun e w' => e = .returned (.bool true) ∧ Below w.heap.size w w' := by
  by_cases hfew : p.few
  rotate_left
  · exact progEdges_few p f w hp hT hE (.inl hfew)
  by_cases hs : p.sane
  rotate_left
  · exact progEdges_few p f w hp hT hE (.inr (.inl ⟨hfew, hs⟩))
  by_cases hL : p.funs.length = 0
  · exact progEdges_few p f w hp hT hE (.inr (.inr ⟨hfew, hs, hL⟩))
  exact progEdges_ok p f w hp hT hE hfew hs (by omega)
end Go.Proofs.YtdhdpfloaelngaaDoor
