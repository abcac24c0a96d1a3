import Derived.Test.YteoioldbigomaabNewG
namespace Go.Proofs.Yteoioldbigomaab
open Go.RowKit

end Go.Proofs.Yteoioldbigomaab
namespace Go.Proofs.Yteoioldbigomaab
open Go.RowKit

end Go.Proofs.Yteoioldbigomaab
