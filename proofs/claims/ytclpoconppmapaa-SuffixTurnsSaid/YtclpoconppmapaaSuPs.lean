/- ALL THAT STAGE 15'S LAWS ASK OF THE PROGRAM's CALLS. -/
import Derived.Test.YtclpoconppmapaaSuZ
namespace Go.Proofs.Ytclpoconppmapaa
open Go.RowKit Go.Inc
theorem ps : PS where
  pCheck ok w v zs hs hl hz := (check_any ok w v zs hs hl hz).mono fun _ _ h => ⟨h.1, by rw [← h.2]; exact Below.refl _ _⟩
  pKinds ok w v zs hs hl hk := suKinds ok w v zs hs hl hk
  pKindsE ok w v zs hs hl hz hk := suKindsE ok w v zs hs hl hz hk
  pFirsts ok w v zs hs hl hk := suFirsts ok w v zs hs hl hk
  pFirstsE ok w v zs hs hl hz hk := suFirstsE ok w v zs hs hl hz hk
  pLess ok w v zs a b hs hl hk ha hb := suLess ok w v zs a b hs hl hk ha hb
  pLessR ok w v zs a b hs hl hk ha hb hn := suLessR ok w v zs a b hs hl hk ha hb hn
  pLessE ok w v zs a b hs hl hz hk ha hb := suLessE ok w v zs a b hs hl hz hk ha hb
  pSort ok w v zs hs hl hk := suSort ok w v zs hs hl hk
  pSortE ok w v zs hs hl hz hk := suSortE ok w v zs hs hl hz hk
  pRight ok ok' w v v' zs ls hs hs' hl hz hl' _ := suRight ok ok' w v v' zs ls hs hs' hl hz hl'
  pCommon ok w v zs a b hs hl hk ha hb := suCommon ok w v zs a b hs hl hk ha hb
  pCommonR ok w v zs a b hs hl hk ha hb hn := suCommonR ok w v zs a b hs hl hk ha hb hn
  pCommonE ok w v zs a b hs hl hz hk ha hb := suCommonE ok w v zs a b hs hl hz hk ha hb
  pCommons ok ok' w v v' zs hs hs' hl hk := suCommons ok ok' w v v' zs hs hs' hl hk
  pCommonsF ok ok' w v v' zs ls hs hs' hl hk hl' _ hne := suCommonsF ok ok' w v v' zs ls hs hs' hl hk hl' hne
  pCommonsE ok ok' w v v' zs ls hs hs' hl hz hk _ _ := suCommonsE ok ok' w v v' zs ls hs hs' hl hz hk
  pPiece ok w v zs a hs hl hk ha := suPiece ok w v zs a hs hl hk ha
  pPieceN ok w v zs a hs hl hk ha hn := suPieceN ok w v zs a hs hl hk ha hn
  pPieceR ok w v zs a hs hl hk ha hn := suPieceR ok w v zs a hs hl hk ha hn
  pPieceE ok w v zs a hs hl hz hk ha := suPieceE ok w v zs a hs hl hz hk ha
  pTurned ok w v zs hs hl _ ho := suTurned ok w v zs hs hl ho
  pTurnedBad ok w v zs hs hl _ ho := suTurnedBad ok w v zs hs hl ho
end Go.Proofs.Ytclpoconppmapaa
