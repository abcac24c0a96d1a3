import Derived.Test.YtahdbfnceceanabNewG
namespace Go.Proofs.Ytahdbfnceceanab
open Go.RowKit

end Go.Proofs.Ytahdbfnceceanab
namespace Go.Proofs.Ytahdbfnceceanab
open Go.RowKit

end Go.Proofs.Ytahdbfnceceanab
