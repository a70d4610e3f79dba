/- ProgParts: its walk, whole. -/
import Derived.Test.YtdhdpfloaelngaaDoorPpa
import Derived.Test.YtdhdpfloaelngaaDoorPpb
import Derived.Test.YtdhdpfloaelngaaDoorPpc
import Derived.Test.YtdhdpfloaelngaaDoorPpd
import Derived.Test.YtdhdpfloaelngaaDoorPpe
import Derived.Test.YtdhdpfloaelngaaDoorPpf
namespace Go.Proofs.YtdhdpfloaelngaaDoor
open Go Go.RowKit Go.Sort

theorem progParts_any (p : Pg) (f b k : Int) (w : World) (hp : PgIs w.heap.size w p) (hT : KTab w) (hE : ETab w) :
    Calls Tryd.prog 6 #[p.val, .int .i64 f, .int .i64 b, .int .i64 k] w fun e w' => e = .returned (.bool true) ∧ Below w.heap.size w w' := by
  by_cases hfew : p.few
  rotate_left
  · exact progParts_few p f b k w hp hT hE (.inl hfew)
  by_cases hs : p.sane
  rotate_left
  · exact progParts_few p f b k w hp hT hE (.inr ⟨hfew, hs⟩)
  by_cases hf0 : f < 0
  · exact ppA1 p f b k w hp hT hE hfew hs hf0
  by_cases hf1 : (p.funs.length : Int) ≤ f
  · exact ppA2 p f b k w hp hT hE hfew hs (by omega) hf1
  obtain ⟨n, hfn⟩ := Int.eq_ofNat_of_zero_le (show 0 ≤ f by omega)
  have hn : n < p.funs.length := by omega
  by_cases hb0 : b < 0
  · exact ppB1 p f b k w hp hT hE hfew hs n hfn hn hb0
  by_cases hb1 : ((fdAt p.funs n).blocks.length : Int) ≤ b
  · exact ppB2 p f b k w hp hT hE hfew hs n hfn hn (by omega) hb1
  obtain ⟨m, hbm⟩ := Int.eq_ofNat_of_zero_le (show 0 ≤ b by omega)
  have hm : m < (fdAt p.funs n).blocks.length := by omega
  cases hlv : (blkAt (fdAt p.funs n).blocks m).live with
  | false => exact ppB3 p f b k w hp hT hE hfew hs n hfn hn m hbm hm hlv
  | true =>
    by_cases hk0 : k < 0
    · exact ppC1 p f b k w hp hT hE hfew hs n hfn hn m hbm hm hlv hk0
    by_cases hk1 : ((blkAt (fdAt p.funs n).blocks m).code.length : Int) ≤ k
    · exact ppC2 p f b k w hp hT hE hfew hs n hfn hn m hbm hm hlv (by omega) hk1
    obtain ⟨j, hkj⟩ := Int.eq_ofNat_of_zero_le (show 0 ≤ k by omega)
    exact ppC3 p f b k w hp hT hE hfew hs n hfn hn m hbm hm hlv j hkj (by omega)
end Go.Proofs.YtdhdpfloaelngaaDoor
