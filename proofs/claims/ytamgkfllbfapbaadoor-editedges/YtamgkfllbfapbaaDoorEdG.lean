/- EditEdges: its walk, whole. -/
import Derived.Test.YtamgkfllbfapbaaDoorEdG1
import Derived.Test.YtamgkfllbfapbaaDoorEdG2
import Derived.Test.YtamgkfllbfapbaaDoorEdG3
import Derived.Test.YtamgkfllbfapbaaDoorEdG4
namespace Go.Proofs.YtamgkfllbfapbaaDoor
open Go Go.RowKit Go.Sort

theorem editEdges_any (p : Pg) (f b tob other : Int) (w : World) (h : Rd w p) (hN : NTab w) :
    Calls Tryd.prog 3 #[p.val, .int .i64 f, .int .i64 b, .int .i64 tob, .int .i64 other] w fun x w' => x = .returned (.bool true) ∧ Below w.heap.size w w' := by
  by_cases hfew : p.few
  rotate_left
  · exact edgesN p f b tob other w h hN hfew
  by_cases hs : p.sane
  rotate_left
  · exact edgesS p f b tob other w h hN hfew hs
  cases hok : blkB p f b with
  | false =>
    cases hf : funB p f with
    | false => exact edgesf0 p f b tob other w h hN hfew hs hf hok
    | true => exact edgest0 p f b tob other w h hN hfew hs hf hok
  | true =>
    cases hal : blkB p f tob with
    | false => exact edgest1 p f b tob other w h hN hfew hs (blk_fun hok) hok hal
    | true =>
      by_cases ho : other = tob
      · cases he : edgeB p f b tob with
        | false => exact edges0eq p f b tob other w h hN hfew hs hok hal he ho
        | true => exact edges1eq p f b tob other w h hN hfew hs hok hal he ho
      · cases his : blkB p f other with
        | false =>
          cases he : edgeB p f b tob with
          | false => exact edges0n p f b tob other w h hN hfew hs hok hal he his
          | true => exact edges1n p f b tob other w h hN hfew hs hok hal he his
        | true =>
          cases he : edgeB p f b tob <;> cases he2 : edgeB p f b other
          · exact edges0u p f b tob other w h hN hfew hs hok hal he his he2 ho
          · exact edges0v p f b tob other w h hN hfew hs hok hal he his he2 ho
          · exact edges1u p f b tob other w h hN hfew hs hok hal he his he2 ho
          · exact edges1v p f b tob other w h hN hfew hs hok hal he his he2 ho
end Go.Proofs.YtamgkfllbfapbaaDoor
