import Derived.Test.YtcmncclibhjepaaFlatC
namespace Go.Proofs.Ytcmncclibhjepaa
open Go Go.RowKit Go.Sort





end Go.Proofs.Ytcmncclibhjepaa