/- ALL THAT IS ASKED OF THE PROGRAM'S CALLS HOLDS. -/
import Derived.Test.YtlfpepkgnobjnaaPxH
import Derived.Test.YtlfpepkgnobjnaaExP
namespace Go.Proofs.Ytlfpepkgnobjnaa
open Go.RowKit Go.Inc
theorem px : PX where
  pCheck := pxCheck
  pOf := pxOf
  pPages := pxPages
  pCount := pxCount
  pAt := pxAt
  pFind := pxFind
  pPart := pxPart
  pEncode := pxEncode
  pDecode := pxDecode
end Go.Proofs.Ytlfpepkgnobjnaa
