import Derived.Test.YtgjkobkcmgliaaaTyS
namespace Go.Proofs.Ytgjkobkcmgliaaa
open Go.RowKit
end Go.Proofs.Ytgjkobkcmgliaaa
