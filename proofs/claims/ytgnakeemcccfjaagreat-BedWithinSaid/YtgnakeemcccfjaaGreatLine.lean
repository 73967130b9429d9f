/- Contracts of the functions on lines. -/
import Derived.Test.YtgnakeemcccfjaaGreatPts2
namespace Go.Proofs.YtgnakeemcccfjaaGreat
open Go Go.RowKit

def spanG (a b : Pt) : Int := rootW 3000000 (if allGood [a, b] then dotW a b b else 0)
def spanR (a b : Pt) : Int := rootW 4000000 (dotW a b b)

end Go.Proofs.YtgnakeemcccfjaaGreat
